import PyProof.Rows.All
import Wide.All
import OpenK.AllK
import Wide.FinOn
import HandS.ForMost
import HandS.ExcInit
import HandS.ExcValue
import HandS.ExcBuiltin
import HandS.IsInst
import HandS.ExcIs
import HandS.Defaults
import KE.KExcIs
import HandS.Wide
import HandS.TupAny
import HandS.MakeKw
import HandS.Walk
import HandS.TupSets
import HandS.SetBool
import HandS.SortOrd
import KE.KSortTup
import PyProof.Rows.SortKeyStr
import HandS.SetFor
import HandS.Strs
import PyProof.Rows.SortShellAny
import PyProof.Rows.TmSorted
import PyProof.Rows.StrMeet
import PyProof.ZipIter
import HandS.Zip
import PyProof.EnumMake
import PyProof.EnumFor
import PyProof.DictCompW
import HandS.DictComp
import HandS.Call
import HandS.List
import HandS.Text
import HandS.WideBits
import HandS.Conv
import HandS.Star
import PyProof.WalkInts
import PyProof.MinMaxWalk
import HandS.DictTup
import PyProof.DictUpdate
import PyProof.FactsAll.dict_4
import HandS.Dict
import HandS.Words
import HandS.Deep
import HandS.Small
import HandS.ForExc
import HandS.Exc
import PySem.Challenge.RW_backthen_k11_relations_of_moments
set_option Elab.async false
set_option linter.all false
set_option maxRecDepth 100000
set_option maxHeartbeats 4000000
namespace PySem
namespace HandSPX
open Builtin Builtin.ObjectAttr
section
variable {M : Model} {A : Around} {E : Value → Shared → Prop} {h : Heap} {g : Array GenState} {d : Drawn} {t : Nat} {os : OsState}
variable {cn q : Str} {C N : Addr} {bas tl tlB : List Value} {hdd : Bool} {sls : List Str} {sbs : List Value} {abst : Bool} {cll : Option Bool} {dcp : Option Addr} {e0 e1 e2 e3 e5 : Option Value} {B mk ini : String}
theorem kx_check (F : ExcBaseFacts B mk ini tlB) (htl : ∀ X : String, tl.contains (.type X) = tlB.contains (.type X)) {given : List Value} {kws : List (Str × Value)} {Q : Unit → Shared → Prop} (hcl : h.get? C = some (excClassObj cn q C N bas tl hdd sls sbs abst cll dcp e0 e1 e2 e3 e5 mk)) (hq : Q () ⟨h, g, d, t, os⟩) : wpAny M A (checkBuiltinCall mk ⟨.ref C :: given, kws⟩) Q E ⟨h, g, d, t, os⟩ := by
  have hin : (Value.ref C :: tl).contains (.type B) = true := by rw [List.contains_cons, htl, F.hasB, Bool.or_true]
  have hst := F.noStar
  simp only [checkBuiltinCall, F.newKind, F.newSplit, F.newRow]
  repeat (first | refine wpAny_loadPart_at hcl ?_ | (refine wpAny_isSubtype_exc hcl ?_; rw [hin]) | refine wpAny_staticBase_exc hcl ?_ | refine wpAny_madeBy_exc hcl ?_ | simp only [bne_self_eq_false, Bool.false_eq_true, if_false] | wp_step)
  exact hq
end
section
variable {pg : Program} {w : World} {A : Around} {E : Value → Shared → Prop} {R : Result → Shared → Prop} {h : Heap} {g : Array GenState} {d : Drawn} {t : Nat} {os : OsState}
variable {cn q : Str} {C N : Addr} {bas tl tlB : List Value} {hdd : Bool} {sls : List Str} {sbs : List Value} {abst : Bool} {cll : Option Bool} {dcp : Option Addr} {e0 e1 e2 e3 e5 : Option Value} {B mk ini : String}
theorem kx_new (F : ExcBaseFacts B mk ini tlB) (htl : ∀ X : String, tl.contains (.type X) = tlB.contains (.type X)) {given : List Value} {kws : List (Str × Value)} (hcl : h.get? C = some (excClassObj cn q C N bas tl hdd sls sbs abst cll dcp e0 e1 e2 e3 e5 mk)) (hq : R (.ok (.ret (.ref (h.objs.size + 1)))) ⟨(h.push { cls := .type "tuple", data := .seq given.toArray }).push
      { cls := .ref C, data := .fields #[.ref h.objs.size, .none, .none, .none, .bool false, .none] }, g, d, t, os⟩) (hfit : given.length ≤ sizeLine) :
    codeAny (model pg w) A (.builtin mk ⟨.ref C :: given, kws⟩) R ⟨h, g, d, t, os⟩ := by
  have hen := F.ends
  have hinB : (Value.ref C :: tl).contains (.type B) = true := by rw [List.contains_cons, htl, F.hasB, Bool.or_true]
  have hinA : (Value.ref C :: tl).contains (.type "AttributeError") = false := by rw [List.contains_cons, htl, F.noAttr]; rfl
  have hinN : (Value.ref C :: tl).contains (.type "NameError") = false := by rw [List.contains_cons, htl, F.noName]; rfl
  refine codeAny_builtinAt F.entry ?_; unfold Builtin.«BaseException.__new__»
  refine wpAt_bind ?_; show wpAt _ _ _ (stack >>= _) _ _ _; refine wpAt_bind (wpAt_stack fun at1 under1 => wpAt_of_wpAny ?_); wp_walk; refine wpAt_of_wpAny ?_
  rw [F.owner]
  repeat (first | with_reducible refine wpAny_madeHere_exc F.canon hcl ?_ | with_reducible refine wpAny_loadPart_at hcl ?_ | (with_reducible refine wpAny_isSubtype_exc hcl ?_; first | rw [hinB] | rw [hinA] | rw [hinN]) | wp_step)
  show R _ _
  rw [Heap.size_push]
  exact hq
theorem kx_type_call (F : ExcBaseFacts B mk ini tlB) (htl : ∀ X : String, tl.contains (.type X) = tlB.contains (.type X)) {given : List Value} {kws : List (Str × Value)} {fI : Addr} {Q : Fin → Shared → Prop} (hcl : h.get? C = some (excClassObj cn q C N bas tl hdd sls sbs abst cll dcp e0 e1 e2 e3 e5 mk)) (hi : W.Looks (model pg w) h (typeLookup (.ref C) "__init__") (some (.ref fI))) (hb : ∀ self, W.Looks (model pg w) h (bindSpecial (.ref fI) self) (.ref fI, [self])) (hfit : given.length ≤ sizeLine) (hq : codeAny (model pg w) A (.call (.ref fI) ⟨.ref (h.objs.size + 1) :: given, kws⟩)
      (fun r s' => match r with | .ok (.ret v) => v = .none ∧ Q (.done (.ret (.ref (h.objs.size + 1)))) s' | .ok _ => False | .error e => E e s')
      ⟨(h.push (W.kdv_tup given)).push (excO C h.objs.size), g, d, t, os⟩) :
    wpAny (model pg w) A (Builtin.«type.__call__» ⟨.ref C :: given, kws⟩) Q E ⟨h, g, d, t, os⟩ := by
  repeat (first | with_reducible refine wpAny_loadPart_at hcl ?_ | with_reducible refine wpAny_madeBy_exc hcl ?_ | wp_step)
  refine codeAny_call_builtin_code (Code.quiet_builtin _ F.quiet) (kx_check F htl hcl ?_)
  refine kx_new F htl hcl ?_ hfit
  show wpAny _ _ _ _ _ _
  have k : ∀ b o, h.get? b = some o → ((h.push (W.kdv_tup given)).push (excO C h.objs.size)).get? b = some o := fun b o e => Heap.get?_push_of_some _ (Heap.get?_push_of_some _ e)
  have hcl' := k _ _ hcl
  have hgot : ((h.push (W.kdv_tup given)).push (excO C h.objs.size)).get? (h.objs.size + 1) = some (excO C h.objs.size) := by heap_get
  have hinC : (Value.ref C :: tl).contains (.ref C) = true := by simp
  have li := hi.keeps k
  have lb := (hb (.ref (h.objs.size + 1))).keeps k
  unfold isInstance
  repeat (first | with_reducible refine wpAny_loadPart_at hgot ?_ | (with_reducible refine wpAny_isSubtype_exc hcl' ?_; rw [hinC]) | wp_step)
  show wpAny _ _ (typeLookup (.ref C) _) _ _ _
  refine li.at ?_
  refine wpAny_holding (wpAny_bind (lb.at ?_))
  refine wpAny_bind (wpAny_call (codeAny_mono hq fun r s' z => ?_))
  rcases r with e | (v | _ | _ | _) <;> first | exact z | exact z.elim | skip
  obtain ⟨rfl, z⟩ := z
  first
    | exact wpAny_pure (wpAny_pure z)
    | (wp_walk; exact z)
theorem kx_call (F : ExcBaseFacts B mk ini tlB) (htl : ∀ X : String, tl.contains (.type X) = tlB.contains (.type X)) {given : List Value} {kws : List (Str × Value)} {fI : Addr} (hcl : h.get? C = some (excClassObj cn q C N bas tl hdd sls sbs abst cll dcp e0 e1 e2 e3 e5 mk)) (hi : W.Looks (model pg w) h (typeLookup (.ref C) "__init__") (some (.ref fI))) (hb : ∀ self, W.Looks (model pg w) h (bindSpecial (.ref fI) self) (.ref fI, [self])) (hfit : given.length ≤ sizeLine) (hq : codeAny (model pg w) (A.under (.builtin "type.__call__" ⟨.ref C :: given, kws⟩)) (.call (.ref fI) ⟨.ref (h.objs.size + 1) :: given, kws⟩) (W.InitBack (h.objs.size + 1) R)
      ⟨(h.push (W.kdv_tup given)).push (excO C h.objs.size), g, d, t, os⟩) :
    codeAny (model pg w) A (.call (.ref C) ⟨given, kws⟩) R ⟨h, g, d, t, os⟩ := by
  have t1 := tc_lookup
  have t2 := tc_bind (.ref C)
  have hty : (⟨h, g, d, t, os⟩ : Shared).TypeIs (.ref C) "type" := ⟨_, hcl, rfl⟩
  refine codeAny_of_tree ?_
  show wpAny _ _ (callAny (.ref C) _) _ _ _
  repeat (any_goals (first | assumption | with_reducible refine wpAny_loadPart_at hcl ?_ | wp_step))
  refine ⟨rfl, ?_⟩
  refine codeAny_call_builtin_at (Code.quiet_builtin _ (by decide +kernel)) entry_typeCall (wpAny_check_type_call_sub hcl (kx_type_call F htl hcl hi hb hfit ?_))
  refine codeAny_mono hq fun r s' z => ?_
  rcases r with e | (v | _ | _ | _) <;> exact z
end
end HandSPX
end PySem
set_option Elab.async false
set_option linter.all false
set_option maxRecDepth 100000
set_option maxHeartbeats 4000000
namespace L2
open PySem PySem.Spec PyProof.Rows
section
variable {X : Cx} {CX : CXT} {k n : Nat} {C fI : Addr} {fd : FuncData} {ps ks : List Str} {sp : Sp} {E : XK} {x f : Str} {p pos : Pos} {e : Expr} {es : List Expr} {kws : List Keyword} {t tk : TA} {te : TE} {g : List Value → List Value → List Value} {gV : List V → List V → List V}
theorem run_exk {pins : List (Addr × Obj)} {σ : St} {H : Hp} {s : Shared} {Q : VK} {us ws : List Value} {vs zs : List V} (T : OexC X.K C) (iC : PySem.W.findIn X.K (.ref C) "__init__" = some (some (.ref fI))) (tI : PySem.W.typeIn X.K (.ref fI) = some (.type "function"))
    (F : FnOk X.prog X.w X.K X.mg X.base CX k fI fd ps sp) (hr : Room (k + 1) X.A) (hb : KBn X.K fd ps (n + 1) ks g gV)
    (hx : Passes CX X E) (I : Inv X pins σ H s) (r : Vals vs us) (rz : Vals zs ws) (l1 : vs.length = n) (l2 : zs.length = ks.length) (lz : vs.length ≤ 1000)
    (h : ∀ a, H a = none → sp (gV (.ref a :: vs) zs) (upd H a (exo a C none)) (fun v H2 => v = .non ∧ Q (.ref a) H2) E) :
    wpAny (model X.prog X.w) X.A (call (.ref C) us (ks.zip ws)) (EP X pins σ Q) X.xe s := by
  obtain ⟨nm, q, N, bs, bm, sn, sub, ab, col, dd, k0, k1, k2, k3, k5, hC, hbm⟩ := T.cls
  obtain ⟨hp, gg, dr, tk, os⟩ := s
  have hsz : hp.objs.size ≤ hp.objs.size + 1 := Nat.le_succ _
  have hn : H (hp.objs.size + 1) = none := I.hok.fresh hsz
  have hq := h (hp.objs.size + 1) hn
  have kk : ∀ b o, hp.get? b = some o → ((hp.push (PySem.W.kdv_tup us)).push (PySem.HandSPX.excO C hp.objs.size)).get? b = some o := fun b o e => Heap.get?_push_of_some _ (Heap.get?_push_of_some _ e)
  have hget : ((hp.push (PySem.W.kdv_tup us)).push (PySem.HandSPX.excO C hp.objs.size)).get? (hp.objs.size + 1) = some (PySem.HandSPX.excO C hp.objs.size) := by heap_get
  have I2 : Inv X pins σ (upd H (hp.objs.size + 1) (exo (hp.objs.size + 1) C none)) ⟨(hp.push (PySem.W.kdv_tup us)).push (PySem.HandSPX.excO C hp.objs.size), gg, dr, tk, os⟩ :=
    I.laid (t' := tk) (a := hp.objs.size + 1) (o := exo (hp.objs.size + 1) C none) (h' := (hp.push (PySem.W.kdv_tup us)).push (PySem.HandSPX.excO C hp.objs.size)) kk hsz (exo_ok hget)
  have r1 : Vals (V.ref (hp.objs.size + 1) :: vs) (Value.ref (hp.objs.size + 1) :: us) := .cons rfl r
  have r2 := hb.rel r1 rz
  have e1 : (Value.ref (hp.objs.size + 1) :: us).length = n + 1 := r1.length.symm.trans (congrArg Nat.succ l1)
  have e2 : ws.length = ks.length := rz.length.symm.trans l2
  have hus : us.length ≤ sizeLine := by
    rw [← Paired.length r, sizeLine_eq]
    omega
  refine wpAny_call (PySem.HandSPX.kx_call PySem.F.excBase_ValueError (fun Y => PySem.HandSPX.refsVE_contains Y bm hbm) (I.kIn _ _ hC) (PySem.W.looks_findIn I.kIn iC) (fun self => PySem.W.bind_fn I.kIn self tI) hus
    (codeAny_mono (F.run _ X.stack _ _ ⟨Value.ref (hp.objs.size + 1) :: us, ks.zip ws⟩ (g (Value.ref (hp.objs.size + 1) :: us) ws) _ _ E (hr.make C us (ks.zip ws)) (I2.env0.make C us (ks.zip ws)) (hb.to _ (Value.ref (hp.objs.size + 1) :: us) ws I2.kIn e1 e2) r2 hq) fun r s' hq' => ?_))
  cases r with
  | error er => exact hx pins σ _ _ er s' I2 hq'
  | ok fl =>
    cases fl with
    | ret u =>
      obtain ⟨v, H', I3, rv, ev, q3⟩ := I2.after hq'
      subst ev
      exact ⟨rv, ⟨V.ref (hp.objs.size + 1), H', I3, rfl, q3⟩⟩
    | next => exact False.elim hq'
    | brk => exact False.elim hq'
    | cont => exact False.elim hq'
/-- C(e, .., k = v, ..), C an own exception class with its own __init__ -/
def tExk (C : Addr) (n m : Nat) (sp : Sp) (gV : List V → List V → List V) (E : XK) (t tk : TA) : TE := fun σ H Q => t σ H fun vs H1 => tk σ H1 fun zs H2 => vs.length = n ∧ zs.length = m ∧
  ∀ a, H2 a = none → sp (gV (.ref a :: vs) zs) (upd H2 a (exo a C none)) (fun v H3 => v = .non ∧ Q (.ref a) H3) E
/-- one positional argument -/
theorem pe_exp (T : OexC X.K C) (iC : PySem.W.findIn X.K (.ref C) "__init__" = some (some (.ref fI))) (tI : PySem.W.typeIn X.K (.ref fI) = some (.type "function"))
    (F : FnOk X.prog X.w X.K X.mg X.base CX k fI fd ps sp) (hr : Room (k + 1) X.A) (hb : KBn X.K fd ps 2 [] g gV) (hx : Passes CX X E) (hg : Gl X x) (hm : X.mg x = some (.ref C)) (ha : PE X e te)
    (hdb : (x == ("__debug__" : Str)) = false := by decide) (he : starEach [e] X.env = (false, eval e X.env) :: starEach [] X.env := by rfl) (hpl : (backTo pos (starEach ([] : List Expr) X.env)).any (·.1) = false := by rfl) :
    PE X (.Call (.Name x p) [e] [] pos) (tExk C 1 0 sp gV E (tCons te tNil) tNil) := by
  refine ⟨fun pins s σ H Q I h => ?_⟩
  refine wpAny_Call_Name_kw (ld_glob I hg hm ?_ hdb)
  refine PySem.W.callWith_K (h₀ := X.base) I.ok.mod.kin T.kC (thn ((pa_cons ha pa_nil he).run pos pins s σ H _ I h) fun us s1 ⟨vs, H1, I1, r1, l1, l2, q1⟩ => ⟨I1.kIn, ?_⟩) he hpl
  exact run_exk (ks := []) (ws := []) (zs := []) T iC tI F hr hb hx I1 r1 .nil l1 l2 (by omega) q1
/-- no argument -/
theorem pe_ex0 (T : OexC X.K C) (iC : PySem.W.findIn X.K (.ref C) "__init__" = some (some (.ref fI))) (tI : PySem.W.typeIn X.K (.ref fI) = some (.type "function"))
    (F : FnOk X.prog X.w X.K X.mg X.base CX k fI fd ps sp) (hr : Room (k + 1) X.A) (hb : KBn X.K fd ps 1 [] g gV) (hx : Passes CX X E) (hg : Gl X x) (hm : X.mg x = some (.ref C))
    (hdb : (x == ("__debug__" : Str)) = false := by decide) :
    PE X (.Call (.Name x p) [] [] pos) (tExk C 0 0 sp gV E tNil tNil) := by
  refine ⟨fun pins s σ H Q I h => ?_⟩
  refine wpAny_Call_Name_kw (ld_glob I hg hm ?_ hdb)
  obtain ⟨l1, l2, q1⟩ := h
  exact PySem.W.callWith_K0 I.kIn T.kC (run_exk (us := []) (vs := []) (ks := []) (ws := []) (zs := []) T iC tI F hr hb hx I .nil .nil l1 l2 (by omega) q1)
/-- keywords alone -/
theorem pe_exkw (T : OexC X.K C) (iC : PySem.W.findIn X.K (.ref C) "__init__" = some (some (.ref fI))) (tI : PySem.W.typeIn X.K (.ref fI) = some (.type "function"))
    (F : FnOk X.prog X.w X.K X.mg X.base CX k fI fd ps sp) (hr : Room (k + 1) X.A) (hb : KBn X.K fd ps 1 ks g gV) (hx : Passes CX X E) (hg : Gl X x) (hm : X.mg x = some (.ref C)) (hkw : PK X kws tk)
    (hall : (backToKw pos (keywordEach kws X.env)).all (·.1.isSome) = true := by rfl) (hks : (backToKw pos (keywordEach kws X.env)).filterMap (·.1) = ks := by rfl)
    (hdb : (x == ("__debug__" : Str)) = false := by decide)
    (hpl : ((backTo pos (starEach ([] : List Expr) X.env)).any (·.1) || (backToKw pos (keywordEach kws X.env)).any (·.1.isNone)) = false := by rfl) :
    PE X (.Call (.Name x p) [] kws pos) (tExk C 0 ks.length sp gV E tNil tk) := by
  refine ⟨fun pins s σ H Q I h => ?_⟩
  refine wpAny_Call_Name_kw (ld_glob I hg hm ?_ hdb)
  refine PySem.W.callWith_KW0 (h₀ := X.base) I.ok.mod.kin T.kC hall ?_ hpl
  refine thn (hkw.run pos pins s σ H _ I h) fun ws s2 ⟨zs, H2, I2, rz, l1, l2, q2⟩ => ⟨I2.kIn, ?_⟩
  rw [hks]
  exact run_exk (us := []) (vs := []) T iC tI F hr hb hx I2 .nil rz l1 l2 (by omega) q2
/-- X(), an own exception class without own __init__ -/
theorem pe_exn {bmB : List Value} {B newId initId : String} (F : ExcBaseFacts B newId initId bmB) (q : PySem.W.excIn X.K C bmB newId = true) (gC : X.mg x = some (.ref C)) (kC : PySem.W.keepIn X.K (.ref C) = true) (hg : Gl X x)
    (hdb : (x == ("__debug__" : Str)) = false := by decide) :
    PE X (.Call (.Name x p) [] [] pos) (fun σ H Q => ∀ a, H a = none → Q (.ref a) (upd H a (ExO (.ref C) a))) := by
  refine ⟨fun pins s σ H Q I h => ?_⟩
  refine wpAny_Call_Name_kw (ld_glob I hg gC ?_ hdb)
  refine PySem.W.callWith_K0 I.kIn kC ?_
  obtain ⟨bm, N, nm, qn, bs, hdct, sn, sub, ab, col, dd, k0, k1, k2, k3, k5, mN, hC, hN, hni, T⟩ := exc_obj I.kIn q
  obtain ⟨hp, gg, dr, tk, os⟩ := s
  refine wpAny_call_exc_subT F T hC hN hni (fun h' a hm => ?_) (by show 0 ≤ sizeLine; exact Nat.zero_le _)
  have hn : H a = none := I.hok.gone hm.new
  obtain ⟨t, ht, _, _⟩ := hm.there
  exact ⟨.ref a, upd H a (ExO (.ref C) a), I.laidN hm.keeps hm.new hn (exO_ok ht ⟨rfl, rfl⟩ rfl rfl rfl (show 4 < 6 by decide)), rfl, h a hn⟩
/-- T(), a built-in exception as a value -/
theorem pe_exb {T N I : String} (F : ExcB T N I) (hg : Gl X x) (hm : X.mg x = none) (hv : bootBuiltins x = some (.type T)) (hn : x ≠ "__name__" := by decide) (hdb : (x == ("__debug__" : Str)) = false := by decide) :
    PE X (.Call (.Name x p) [] [] pos) (fun σ H Q => ∀ a, H a = none → Q (.ref a) (upd H a (ExO (.type T) a))) := by
  refine ⟨fun pins s σ H Q I h => ?_⟩
  refine wpAny_Call_Name_kw (ld_blt I hg hm hv ?_ hn hdb)
  obtain ⟨hp1, g1, d1, tk1, os1⟩ := s
  refine PyProof.Rows.callWith_type0 (wpAny_call_exc F.call (fun h' a mk => ?_) (Nat.zero_le _))
  have hm := PySem.Heap.MadeExc.of mk
  have hn : H a = none := I.hok.gone hm.new
  obtain ⟨t, ht, _, _⟩ := hm.there
  exact ⟨.ref a, upd H a (ExO (.type T) a), I.laidN hm.keeps hm.new hn (exO_ok ht ⟨rfl, rfl⟩ rfl rfl rfl (show 4 < 6 by decide)), rfl, h a hn⟩
/-- what the written part says of an own class of exceptions -/
structure XcA (K : PySem.W.Frag) (C : Addr) : Prop where
  hg : PySem.W.findIn K (.ref C) "__getattribute__" = some (some (.builtin "BaseException.__getattribute__"))
  hk : PySem.W.findIn K (.ref C) "__getattr__" = some none
  hs : PySem.W.subIn K (.ref C) (.type "BaseException") = some true
  hd : PySem.W.hasDictIn K C = true
  ha : PySem.W.findIn K (.ref C) "__class__" = some (some (.builtin "object.__class__"))
  hn : PySem.W.specialIn K (.builtin "object.__class__") "__get__" = some (some (.builtin "getset_descriptor.__get__"))
  ht : PySem.W.takesIn K (.builtin "object.__class__") = some true
  hm : PySem.W.mroIn K C (.type "object") = some true
/-- at a: an exception, an instance of cls -/
inductive ExV (K : PySem.W.Frag) (H : Hp) (a : Addr) : Value → Prop where
  | dict {C d : Addr} {fs : List (Str × V)} (e : H a = some (exo a C (some d))) (e2 : H d = some (exd d fs)) (A : XcA K C) : ExV K H a (.ref C)
  | own {C : Addr} (e : H a = some (ExO (.ref C) a)) (A : XcA K C) : ExV K H a (.ref C)
  | blt {T : String} (e : H a = some (ExO (.type T) a)) (FX : ExcAttrFacts T) (lk : typeLookup (.type T) "__class__" = pure (some (.builtin "object.__class__"))) (so : isSubtype (.type T) (.type (".".intercalate ("object.__class__".cutAt '.').dropLast)) = pure true) (nb : (Value.type T == Value.type "builtin_function_or_method") = false) : ExV K H a (.type T)
theorem exO_at {P : Program} {w : World} {H : Hp} {h : Heap} {a : Addr} {cls : Value} (hok : HOk P w H h) (e : H a = some (ExO cls a)) : ∃ (oe : Obj) (vs : Array Value), h.get? a = some oe ∧ Zc cls none oe ∧ oe.data = .fields vs := by
  have z : ObjOk P w H h a (.ext fun h => ∃ (oe : Obj) (vs : Array Value), h.get? a = some oe ∧ Zc cls none oe ∧ oe.data = .fields vs ∧ vs[1]? = some .none ∧ vs[2]? = some .none ∧ 4 < vs.size) := hok a _ e
  obtain ⟨oe, vs, h1, h2, h3, _⟩ := z.1
  exact ⟨oe, vs, h1, h2, h3⟩
def rIsX (K : PySem.W.Frag) : List V → Hp → VK → Prop := fun xs H Q => ∃ (a : Addr) (c : V) (t u : Value) (b : Bool), xs = [.ref a, c] ∧ ClsV c u ∧ ExV K H a t ∧ PySem.W.kitOne K t u = some b ∧ Q (.bl b) H
theorem XcA.cls {K : PySem.W.Frag} (A : XcA K C) : (PySem.W.clsIn K C).isSome = true := by
  obtain ⟨cd, hc, _⟩ := PySem.W.any_some A.hd
  rw [hc]; rfl
theorem call_isX : CallR X (.builtin "isinstance") (rIsX X.K) := by
  intro pins s σ H xs us Q I r h
  obtain ⟨a, c, t, u, b, rfl, k, ty, e, q⟩ := h
  obtain ⟨u1, u2, rfl, r1, r2⟩ := vals2 r
  have e2 := k.eq r2
  subst e2
  cases (show u1 = Value.ref a from r1)
  cases ty with
  | @dict C d fs e1 e3 A =>
    obtain ⟨t1, ho⟩ := exo_at I.hok e1
    obtain ⟨mA, hns, rel⟩ := exd_at I.hok e3
    obtain ⟨oD, _, _, hoD, _, _⟩ := hns
    have J : PySem.W.InstAt s.heap a { cls := .ref C, dict := some d, data := .fields #[.ref t1, .none, .none, .none, .bool false, .none] } C (some oD) := ⟨ho, rfl, rfl, hoD⟩
    exact PySem.W.kia_one (PySem.W.kitx_exc A.cls A.hg A.hk A.hs A.ha A.hn A.ht A.hm) I.kIn J e (fun z => nomatch z) fun tk => ⟨.bl b, H, I.tok tk, rfl, q⟩
  | @own C e1 A =>
    obtain ⟨oe, vs, ho, hz, hd⟩ := exO_at I.hok e1
    have J : PySem.W.InstAt s.heap a oe C none := by
      obtain ⟨oc, od, oda, osl⟩ := oe
      obtain ⟨h1, h2⟩ := hz
      dsimp only at h1 h2 hd
      subst h1 h2 hd
      exact ⟨ho, rfl, rfl, trivial⟩
    exact PySem.W.kia_one (PySem.W.kitx_exc A.cls A.hg A.hk A.hs A.ha A.hn A.ht A.hm) I.kIn J e (fun z => nomatch z) fun tk => ⟨.bl b, H, I.tok tk, rfl, q⟩
  | @blt T e1 FX lk so nb =>
    obtain ⟨oe, vs, ho, hz, hd⟩ := exO_at I.hok e1
    exact PySem.W.kia_one (PySem.W.kitx_bexc FX lk so nb) I.kIn ⟨oe, ho, hz.1⟩ e (fun z => nomatch z) fun tk => ⟨.bl b, H, I.tok tk, rfl, q⟩
/-- e.f of an exception held as a value -/
def tExF (K : PySem.W.Frag) (f : Str) (te : TE) : TE := fun σ H Q => te σ H fun x H1 => ∃ (a C d : Addr) (fs : List (Str × V)) (v : V), x = .ref a ∧ H1 a = some (exo a C (some d)) ∧ H1 d = some (exd d fs) ∧ XcA K C ∧ PySem.W.findIn K (.ref C) f = some none ∧ fs.lookup f = some v ∧ Q v H1
theorem pe_exf (he : PE X e te) (hb : attributeBase e f X.env (eval e X.env) = eval e X.env := by rfl) : PE X (.Attribute e f pos) (tExF X.K f te) := by
  refine ⟨fun pins s σ H Q I h => ?_⟩
  refine attr_of hb (thn (he.run pins s σ H _ I h) fun u s1 hh => ?_)
  obtain ⟨x, H1, I1, rx, a, C, d, fs, v, ex, e1, e2, A, hno, hl, q⟩ := hh
  subst ex
  obtain rfl : u = Value.ref a := rx
  obtain ⟨t1, ho⟩ := exo_at I1.hok e1
  obtain ⟨mA, hns, rel⟩ := exd_at I1.hok e2
  obtain ⟨u, hu, ru⟩ := RelO.some_of (v := v) (o := mA f) (by rw [← hl]; exact rel f)
  obtain ⟨od, hod, hlk⟩ := lookIn_ns hns
  have J : PySem.W.InstAt s1.heap a { cls := .ref C, dict := some d, data := .fields #[.ref t1, .none, .none, .none, .bool false, .none] } C (some od) := ⟨ho, rfl, rfl, hod⟩
  exact HandSPX.exc_get I1.kIn J A.hg A.hk A.hs (PySem.W.findObj_own A.hd hno rfl (by rw [hlk, hu])) (handed_of ru) ⟨v, H1, I1.tok _, ru, q⟩
/-- the __init__ that keeps its one argument as the field f -/
def spInit (K : PySem.W.Frag) (f : Str) : Sp := fun vs H Q _ => ∃ (a C : Addr) (v : V), vs = [.ref a, v] ∧ OexC K C ∧ PySem.W.findIn K (.ref C) f = some none ∧ H a = some (exo a C none) ∧
  ∀ dx, H dx = none → dx ≠ a → Q .non (upd (upd H dx (exd dx [(f, v)])) a (exo a C (some dx)))
end
end L2
set_option Elab.async false
set_option linter.all false
set_option maxRecDepth 100000
set_option maxHeartbeats 4000000
namespace L2
open PySem PySem.Spec PyProof.Rows
/-- a def of the module's top that keeps its promise -/
structure Df (P : Program) (w : World) (K : PySem.W.Frag) (mg : Str → Option Value) (base : Heap) (x : Str) (k : Nat) (ps : List Str) (sp : Sp) : Prop where
  ex : ∃ (f : Addr) (fd : FuncData), FnOk P w K mg base CX0 k f fd ps sp ∧ mg x = some (.ref f) ∧ PySem.W.keepIn K (.ref f) = true ∧ Binds K fd ps []
/-- where a def stands behind the top -/
def Fn (K : PySem.W.Frag) (mg : Str → Option Value) (x : Str) (st : Stmt) : Prop := ∃ (f : Addr) (fd : FuncData), Fun K x x st f fd ∧ mg x = some (.ref f)
section
variable {P : Program} {w : World} {K : PySem.W.Frag} {mg : Str → Option Value} {base : Heap}
theorem Fn.df {x : Str} {st : Stmt} {k : Nat} {ps : List Str} {sp : Sp} (F : Fn K mg x st)
    (hb : ∀ (kV doc pm : Value) (an : Option Addr) (cdv ct : Value) (us : List Value), us.length = ps.length → bindArgs (PySem.W.fnOf x x (defArgs st) (defBody st) (defScope st) .none kV doc pm an cdv ct) ⟨us, []⟩ = pure (ps.zip us))
    (ok : ∀ (f : Addr) (fd : FuncData), Fun K x x st f fd → FnOk P w K mg base CX0 k f fd ps sp) : Df P w K mg base x k ps sp := by
  obtain ⟨f, fd, F, m⟩ := F
  exact ⟨f, fd, ok f fd F, m, F.kp, F.binds hb⟩
theorem Df.mono {x : Str} {j k : Nat} {ps : List Str} {sp : Sp} (G : Df P w K mg base x j ps sp) (h : j ≤ k) : Df P w K mg base x k ps sp := by
  obtain ⟨f, fd, o, m, kp, b⟩ := G.ex
  exact ⟨f, fd, o.mono h, m, kp, b⟩
theorem Df.imp {x : Str} {k : Nat} {ps : List Str} {sp sp' : Sp} (G : Df P w K mg base x k ps sp) (h : ∀ vs H Q E, sp' vs H Q E → sp vs H Q E) : Df P w K mg base x k ps sp' := by
  obtain ⟨f, fd, o, m, kp, b⟩ := G.ex
  exact ⟨f, fd, o.imp h, m, kp, b⟩
end
section
variable {X : Cx} {k : Nat} {ps : List Str} {sp : Sp} {x : Str} {p pos : Pos} {e : Expr} {es : List Expr} {t : TA}
theorem pe_df (G : Df X.prog X.w X.K X.mg X.base x k ps sp) (hr : Room k X.A) (hg : Gl X x) (ha : PA X (e :: es) t) (hdb : (x == ("__debug__" : Str)) = false := by decide)
    (he : starEach (e :: es) X.env = (false, eval e X.env) :: starEach es X.env := by rfl) (hpl : (backTo pos (starEach es X.env)).any (·.1) = false := by rfl) :
    PE X (.Call (.Name x p) (e :: es) [] pos) (tCall sp [] E0 t) := by
  obtain ⟨f, fd, o, m, kp, b⟩ := G.ex
  exact pe_call o hr hg m kp b .nil pass0 ha hdb he hpl
theorem pe_df0 (G : Df X.prog X.w X.K X.mg X.base x k ps sp) (hr : Room k X.A) (hg : Gl X x) (hdb : (x == ("__debug__" : Str)) = false := by decide) :
    PE X (.Call (.Name x p) [] [] pos) (tCall sp [] E0 tNil) := by
  obtain ⟨f, fd, o, m, kp, b⟩ := G.ex
  exact pe_call0 o hr hg m kp b .nil pass0 hdb
theorem op_powB : OpR X (binaryOp .Pow) (rI (fun i j => 0 ≤ j ∧ (Builtin.Int.intBits i : Int) * j ≤ 2 ^ 27) fun i j => .int (i ^ j.toNat)) := opI fun _ _ _ _ _ _ _ hc q => pow_int hc.1 hc.2 q
end
theorem same_upd {H : Hp} {p : Addr} {o : HO} (h : H p = none) : Same H (upd H p o) := fun b x e => by
  rw [upd_ne (ne_of_none e h)]
  exact e
theorem Same.seqT {K : PySem.W.Frag} {H H' : Hp} {a : Addr} {xs : List V} (e : Same H H') (h : SqT K H a xs) : SqT K H' a xs := by
  rcases h with (h | ⟨o, h⟩) | h
  · exact .inl (.inl (e _ _ h))
  · exact .inl (.inr ⟨o, e _ _ h⟩)
  · exact .inr h
mutual
theorem Dp.same {K : PySem.W.Frag} {H H' : Hp} (s : Same H H') : ∀ {v : V} {d : PyData}, Dp K H v d → Dp K H' v d
  | _, _, .non => .non
  | _, _, .bl b => .bl b
  | _, _, .int i => .int i
  | _, _, .str x => .str x
  | _, _, .lst h hs => .lst (s.seq h) (DpAll.same s hs)
  | _, _, .tup h hs => .tup (s.seqT h) (DpAll.same s hs)
theorem DpAll.same {K : PySem.W.Frag} {H H' : Hp} (s : Same H H') : ∀ {vs : List V} {ds : List PyData}, DpAll K H vs ds → DpAll K H' vs ds
  | _, _, .nil => .nil
  | _, _, .cons h hs => .cons (h.same s) (hs.same s)
end
theorem yes_run {σ : St} {H : Hp} {A B : Hp → Prop} (h : A H) : tYes σ H (fun b H3 => if b = true then A H3 else B H3) := by
  show if true = true then A H else B H
  rw [if_pos rfl]
  exact h
/-- what stood at the call stands, but for the object at p -/
def SameB (p : Addr) (H H' : Hp) : Prop := ∀ b o, b ≠ p → H b = some o → H' b = some o
theorem Same.but {p : Addr} {H H' : Hp} (s : Same H H') : SameB p H H' := fun b o _ e => s b o e
theorem SameB.upd {p : Addr} {H : Hp} {o : HO} : SameB p H (upd H p o) := fun b x n e => by rw [upd_ne n]; exact e
theorem SameB.trans {p : Addr} {H H1 H2 : Hp} (a : SameB p H H1) (b : SameB p H1 H2) : SameB p H H2 := fun c o n h => b c o n (a c o n h)
theorem SameB.refl {p : Addr} {H : Hp} : SameB p H H := fun _ _ _ h => h
/-- three ints: what is left of a cell, the cell, the turn -/
structure PurseOk (p0 p1 p2 : Int) (n : Nat) : Prop where
  a0 : 0 ≤ p0
  b0 : p0 < 10 ^ 600
  a1 : 0 ≤ p1
  b1 : p1 < 2147483647
  a2 : 0 ≤ p2
  b2 : p2 ≤ (n : Int)
theorem PurseOk.mono {p0 p1 p2 : Int} {n m : Nat} (h : PurseOk p0 p1 p2 n) (l : n ≤ m) : PurseOk p0 p1 p2 m := ⟨h.a0, h.b0, h.a1, h.b1, h.a2, by have := h.b2; omega⟩
/-- at p: a purse of at most n turns -/
def Purse (H : Hp) (p : Addr) (n : Nat) : Prop := ∃ p0 p1 p2, H p = some (.lst [.int p0, .int p1, .int p2]) ∧ PurseOk p0 p1 p2 n
theorem Purse.mono {H : Hp} {p : Addr} {n m : Nat} (h : Purse H p n) (l : n ≤ m) : Purse H p m := by
  obtain ⟨a, b, c, e, o⟩ := h
  exact ⟨a, b, c, e, o.mono l⟩
def spAt (K : PySem.W.Frag) : Sp := fun vs H Q _ => ∃ (a : Addr) (ns : List Int) (k : Nat), vs = [.ref a, .int k] ∧ SqL K H a (ns.map V.int) ∧ ∀ c, Q (.int c) H
def spMixed : Sp := fun vs H Q _ => ∃ (c k : Int), vs = [.int c, .int k] ∧ 0 ≤ c ∧ c < 2147483647 ∧ 0 ≤ k ∧ k < 2 ^ 40 ∧ ∀ m, 0 ≤ m → m < 2147483587 → Q (.int m) H
def spPurse (K : PySem.W.Frag) : Sp := fun vs H Q _ => ∃ (a : Addr) (ns : List Int) (k : Nat), vs = [.ref a, .int k] ∧ SqL K H a (ns.map V.int) ∧ k ≤ 63 ∧
  ∀ p p0 p1 p2, H p = none → PurseOk p0 p1 p2 63000 → Q (.ref p) (upd H p (.lst [.int p0, .int p1, .int p2]))
def spDraw : Sp := fun vs H Q _ => ∃ (p : Addr) (p0 p1 p2 : Int) (n : Nat) (m : Int), vs = [.ref p, .int m] ∧ H p = some (.lst [.int p0, .int p1, .int p2]) ∧ PurseOk p0 p1 p2 n ∧ n < 2 ^ 39 ∧ 1 ≤ m ∧ m < 2 ^ 62 ∧
  ∀ d q0 q1 q2, 0 ≤ d → d < m → PurseOk q0 q1 q2 (n + 1) → Q (.int d) (upd H p (.lst [.int q0, .int q1, .int q2]))
theorem pow600 : (((10 : Int) ^ (60 : Int).toNat) ^ (10 : Int).toNat) = 10 ^ 600 := by decide +kernel
theorem pow600_pos : (0 : Int) < 10 ^ 600 := by decide +kernel
end L2
set_option Elab.async false
set_option linter.all false
set_option maxRecDepth 100000
set_option maxHeartbeats 4000000
namespace L2
open PySem PySem.Spec PyProof.Rows
/-- the class at C has an __init__ that keeps one argument as the field f; how its calls bind -/
structure Ini (P : Program) (w : World) (K : PySem.W.Frag) (mg : Str → Option Value) (base : Heap) (C : Addr) (f : Str) : Prop where
  ex : ∃ (fI : Addr) (fd : FuncData), FnOk P w K mg base CX0 1 fI fd ["self", f] (spInit K f) ∧ PySem.W.findIn K (.ref C) "__init__" = some (some (.ref fI)) ∧ PySem.W.typeIn K (.ref fI) = some (.type "function") ∧
    (∃ g, KBn K fd ["self", f] 2 [] g (fun us _ => us)) ∧ (∃ g, KBn K fd ["self", f] 1 [f] g (fun us zs => us ++ zs)) ∧ (∃ g, KBn K fd ["self", f] 1 [] g (fun us _ => us ++ [.non]))
  no : PySem.W.findIn K (.ref C) f = some none
/-- at a, d: an instance of C that holds f = v -/
def Err (H : Hp) (C : Addr) (f : Str) (v x : V) : Prop := ∃ a d, x = .ref a ∧ H a = some (exo a C (some d)) ∧ H d = some (exd d [(f, v)])
theorem Err.same {H H' : Hp} {C : Addr} {f : Str} {v x : V} (s : Same H H') (h : Err H C f v x) : Err H' C f v x := by
  obtain ⟨a, d, e, h1, h2⟩ := h
  exact ⟨a, d, e, s _ _ h1, s _ _ h2⟩
def newOk (C : Addr) (f : Str) (v : V) (H : Hp) (Q : VK) : Prop := ∀ x H', Same H H' → Err H' C f v x → Q x H'
theorem newOk.init {K : PySem.W.Frag} {C : Addr} {f : Str} {v : V} {H : Hp} {Q : VK} (O : OexC K C) (no : PySem.W.findIn K (.ref C) f = some none) (q : newOk C f v H Q) (a : Addr) (ha : H a = none) :
    spInit K f [.ref a, v] (upd H a (exo a C none)) (fun u H2 => u = .non ∧ Q (.ref a) H2) E0 := by
  refine ⟨a, C, v, rfl, O, no, upd_same, fun d hd ne => ⟨rfl, q _ _ (fun b o e => ?_) ⟨a, d, rfl, upd_same, ?_⟩⟩⟩
  · have hb : b ≠ a := ne_of_none e ha
    have hd' : b ≠ d := fun z => by
      rw [z] at e hb
      rw [upd_ne hb, e] at hd
      cases hd
    rw [upd_ne hb, upd_ne hd', upd_ne hb]
    exact e
  · rw [upd_ne ne, upd_same]
section
variable {X : Cx} {x : Str} {C : Addr} {f : Str} {p pos : Pos} {e : Expr} {te : TE}
def tNewP (C : Addr) (f : Str) (te : TE) : TE := fun σ H Q => te σ H fun v H1 => newOk C f v H1 Q
theorem PE.to {t u : TE} (h : PE X e t) (i : ∀ σ H Q, u σ H Q → t σ H Q) : PE X e u := ⟨fun pins s σ H Q I hw => h.run pins s σ H Q I (i σ H Q hw)⟩
theorem pe_iniP (J : Ini X.prog X.w X.K X.mg X.base C f) (O : OexC X.K C) (hr : Room 2 X.A) (hg : Gl X x) (hm : X.mg x = some (.ref C)) (ha : PE X e te) (mono : ∀ {σ H} {Q Q' : VK}, te σ H Q → (∀ v H1, Q v H1 → Q' v H1) → te σ H Q' := by exact fun h i => by first | exact i _ _ h | exact ⟨_, h.choose_spec.1, i _ _ h.choose_spec.2⟩)
    (hdb : (x == ("__debug__" : Str)) = false := by decide) (he : starEach [e] X.env = (false, eval e X.env) :: starEach [] X.env := by rfl) (hpl : (backTo pos (starEach ([] : List Expr) X.env)).any (·.1) = false := by rfl) :
    PE X (.Call (.Name x p) [e] [] pos) (tNewP C f te) := by
  obtain ⟨fI, fd, F, iC, tI, ⟨g, b⟩, _⟩ := J.ex
  refine (pe_exp O iC tI F hr b pass0 hg hm ha hdb he hpl).to fun σ H Q h => ?_
  exact mono h fun v H1 q => ⟨rfl, rfl, newOk.init O J.no q⟩
theorem pe_ini0 (J : Ini X.prog X.w X.K X.mg X.base C f) (O : OexC X.K C) (hr : Room 2 X.A) (hg : Gl X x) (hm : X.mg x = some (.ref C)) (hdb : (x == ("__debug__" : Str)) = false := by decide) :
    PE X (.Call (.Name x p) [] [] pos) (fun _ H Q => newOk C f .non H Q) := by
  obtain ⟨fI, fd, F, iC, tI, _, _, ⟨g, b⟩⟩ := J.ex
  exact (pe_ex0 O iC tI F hr b pass0 hg hm hdb).to fun σ H Q h => ⟨rfl, rfl, newOk.init O J.no h⟩
theorem pe_iniK {kpos : Pos} (J : Ini X.prog X.w X.K X.mg X.base C f) (O : OexC X.K C) (hr : Room 2 X.A) (hg : Gl X x) (hm : X.mg x = some (.ref C)) (ha : PE X e te) (mono : ∀ {σ H} {Q Q' : VK}, te σ H Q → (∀ v H1, Q v H1 → Q' v H1) → te σ H Q' := by exact fun h i => by first | exact i _ _ h | exact ⟨_, h.choose_spec.1, i _ _ h.choose_spec.2⟩)
    (hall : (backToKw pos (keywordEach [⟨some f, e, kpos⟩] X.env)).all (·.1.isSome) = true := by rfl) (hks : (backToKw pos (keywordEach [⟨some f, e, kpos⟩] X.env)).filterMap (·.1) = [f] := by rfl)
    (hdb : (x == ("__debug__" : Str)) = false := by decide)
    (hpl : ((backTo pos (starEach ([] : List Expr) X.env)).any (·.1) || (backToKw pos (keywordEach [⟨some f, e, kpos⟩] X.env)).any (·.1.isNone)) = false := by rfl) :
    PE X (.Call (.Name x p) [] [⟨some f, e, kpos⟩] pos) (tNewP C f te) := by
  obtain ⟨fI, fd, F, iC, tI, _, ⟨g, b⟩, _⟩ := J.ex
  refine (pe_exkw O iC tI F hr b pass0 hg hm (pk_cons ha pk_nil) hall hks hdb hpl).to fun σ H Q h => ?_
  exact mono h fun v H1 q => ⟨rfl, rfl, newOk.init O J.no q⟩
end
/-- several new errors, one after another, all of them with v -/
def tNews (te : TE) : List (Addr × Str) → TA
  | [] => tNil
  | c :: l => tCons (tNewP c.1 c.2 te) (tNews te l)
inductive Errs (H : Hp) (v : V) : List (Addr × Str) → List V → Prop
  | nil : Errs H v [] []
  | cons {c : Addr × Str} {l : List (Addr × Str)} {x : V} {xs : List V} (h : Err H c.1 c.2 v x) (t : Errs H v l xs) : Errs H v (c :: l) (x :: xs)
theorem Errs.same {H H' : Hp} {v : V} (s : Same H H') : ∀ {l xs}, Errs H v l xs → Errs H' v l xs
  | _, _, .nil => .nil
  | _, _, .cons h t => .cons (h.same s) (t.same s)
theorem Errs.append {H : Hp} {v : V} : ∀ {l l' xs ys}, Errs H v l xs → Errs H v l' ys → Errs H v (l ++ l') (xs ++ ys)
  | _, _, _, _, .nil, b => b
  | _, _, _, _, .cons h t, b => .cons h (t.append b)
theorem Errs.length {H : Hp} {v : V} : ∀ {l xs}, Errs H v l xs → xs.length = l.length
  | _, _, .nil => rfl
  | _, _, .cons h t => congrArg Nat.succ t.length
theorem Errs.get {H : Hp} {v : V} : ∀ {l xs} {i : Nat} {c : Addr × Str}, Errs H v l xs → l[i]? = some c → ∃ x, xs[i]? = some x ∧ Err H c.1 c.2 v x
  | _, _, 0, _, .cons h t, e => ⟨_, rfl, by cases (Option.some.inj e); exact h⟩
  | _, _, i + 1, _, .cons h t, e => t.get (i := i) e
theorem news_run {te : TE} {σ : St} {v : V} (hv : ∀ H (Q : VK), Q v H → te σ H Q) : ∀ (l : List (Addr × Str)) {H : Hp} {Q : List V → Hp → Prop}, (∀ xs H', Same H H' → Errs H' v l xs → Q xs H') → tNews te l σ H Q
  | [], H, Q, h => h [] H (Same.refl H) .nil
  | c :: l, H, Q, h => hv _ _ fun x H1 s1 e1 => news_run hv l fun xs H2 s2 e2 => h (x :: xs) H2 (s1.trans s2) (.cons (e1.same s2) e2)
end L2
set_option Elab.async false
set_option linter.all false
set_option maxRecDepth 100000
set_option maxHeartbeats 4000000
/-! A set whose elements are tuples of ints and texts: searched, added to, laid anew, walked. -/
namespace TKS
open PySem PySem.Spec PyProof.Rows L2
abbrev hk (P : Program) (w : World) (k : List Key) : Int := tupleKeyHash (mixKind P w) k
abbrev IsK (P : Program) (w : World) (h : Heap) (k : List Key) (b : Addr) : Prop := IsTupleKey (mixKind P w) h k b
section
variable {P : Program} {w : World} {A : Around} {E : Value → Shared → Prop} {s : Shared}
theorem item_flat {ks : List Key} {vs : List Value} (h : ItemsAre (mixKind P w) ks vs) : ∀ v ∈ vs, (∃ i t, v = Value.int i t) ∨ ∃ x t, v = Value.str x t := by
  induction h with
  | nil => exact fun v hv => absurd hv List.not_mem_nil
  | @cons k0 v0 ks vs e _ ih =>
    intro v hv
    rcases List.mem_cons.mp hv with q | q
    · rw [q]
      rcases keyIs_shape (show keyIs k0 v0 = true from e) with ⟨i, t, _, z⟩ | ⟨x, t, _, z⟩
      · exact .inl ⟨i, t, z⟩
      · exact .inr ⟨x, t, z⟩
    · exact ih v q
theorem flat_cls (n : Nat) {v : Value} (h : (∃ i t, v = Value.int i t) ∨ ∃ x t, v = Value.str x t) : ofAClassStatement n v = pure false := by
  rcases h with ⟨i, t, rfl⟩ | ⟨x, t, rfl⟩ <;> cases n <;> rfl
theorem flat_hash (n : Nat) {v : Value} (h : (∃ i t, v = Value.int i t) ∨ ∃ x t, v = Value.str x t) : ∃ b, hashByValue n v = pure b := by
  rcases h with ⟨i, t, rfl⟩ | ⟨x, t, rfl⟩
  · exact ⟨true, by cases n <;> rfl⟩
  · exact ⟨false, by cases n <;> rfl⟩
/-- no tuple of plain things is of a class statement -/
theorem cls_no {k : List Key} {b : Addr} {Q : Bool → Shared → Prop} (hk : IsK P w s.heap k b) (h : Q false s) : wpAny (model P w) A (ofAClassStatement 8 (.ref b)) Q E s := by
  have ty := hk.typeIs
  obtain ⟨o, its, n, ho, _, hd, hi⟩ := hk
  have fl := item_flat hi
  unfold ofAClassStatement
  refine wpAny_bind (wpAny_typeOf ty ?_)
  dsimp only
  simp only [show (("tuple" : String) == "tuple") = true by decide, if_true, Bool.not_true, Bool.false_eq_true, if_false]
  try refine wpAny_bind (wpAny_pure ?_)
  try simp only [Bool.not_true, Bool.false_eq_true, if_false]
  show wpAny _ _ (seqItems? (.ref b) >>= _) _ _ s
  refine wpAny_bind (wpAny_seqItems ho hd ?_)
  dsimp only
  refine wpAny_bind ?_
  show wpAny _ _ (forIn its _ _) _ _ s
  rw [← Array.forIn_toList]
  refine wpAny_forIn_list _ (fun l r s' => r.1 = none ∧ s' = s ∧ ∀ v ∈ l, v ∈ its.toList) _ ?_ ?_ _ _ ⟨rfl, rfl, fun _ q => q⟩
  · rintro v l r s' ⟨hr, rfl, al⟩
    rw [flat_cls _ (fl v (al v List.mem_cons_self))]
    refine wpAny_bind (wpAny_pure ?_)
    simp only [Bool.false_eq_true, if_false]
    exact wpAny_pure ⟨rfl, rfl, fun u q => al u (List.mem_cons_of_mem _ q)⟩
  · rintro ⟨r1, r2⟩ s' ⟨hr, rfl, _⟩
    cases hr
    exact wpAny_pure h
/-- whether its hash goes by value: one of the two -/
theorem hash_any {k : List Key} {b : Addr} {Q : Bool → Shared → Prop} (hk : IsK P w s.heap k b) (h : ∀ c, Q c s) : wpAny (model P w) A (hashByValue 8 (.ref b)) Q E s := by
  have ty := hk.typeIs
  obtain ⟨o, its, n, ho, _, hd, hi⟩ := hk
  have fl := item_flat hi
  unfold hashByValue
  refine wpAny_bind (wpAny_specialOf ty F.slot_tuple_hash.lookup ?_)
  show wpAny _ _ (seqItems? (.ref b) >>= _) _ _ s
  refine wpAny_bind (wpAny_seqItems ho hd ?_)
  refine wpAny_bind ?_
  show wpAny _ _ (forIn its _ _) _ _ s
  rw [← Array.forIn_toList]
  refine wpAny_forIn_list _ (fun l r s' => s' = s ∧ r.1 = none ∧ ∀ v ∈ l, v ∈ its.toList) _ ?_ ?_ _ _ ⟨rfl, rfl, fun _ q => q⟩
  · rintro v l r s' ⟨rfl, hr, al⟩
    obtain ⟨c, e⟩ := flat_hash 7 (fl v (al v List.mem_cons_self))
    rw [e]
    refine wpAny_bind (wpAny_pure ?_)
    cases c with
    | true =>
      simp only [Bool.not_true, Bool.false_eq_true, if_false]
      exact wpAny_pure ⟨rfl, rfl, fun u q => al u (List.mem_cons_of_mem _ q)⟩
    | false =>
      simp only [Bool.not_false, if_true]
      exact wpAny_pure (wpAny_pure (h false))
  · rintro ⟨r1, r2⟩ s' ⟨rfl, hr, _⟩
    cases hr
    exact wpAny_pure (h true)
/-- a search among such tuples shows nothing -/
theorem seen_no {k : List Key} {b : Addr} {Q : Bool → Shared → Prop} (hk : IsK P w s.heap k b) {ys : List Value} (hy : ∀ y ∈ ys, ∃ k' c, y = Value.ref c ∧ IsK P w s.heap k' c) (h : Q false s) : wpAny (model P w) A (searchCouldBeSeen (.ref b) ys) Q E s := by
  unfold searchCouldBeSeen
  refine wpAny_bind ?_
  refine wpAny_forIn_list _ (fun l r s' => r.1 = none ∧ s' = s ∧ ∀ y ∈ l, y ∈ ys) _ ?_ ?_ _ _ ⟨rfl, rfl, fun _ q => q⟩
  · rintro v l r s' ⟨hr, rfl, al⟩
    obtain ⟨k', c, rfl, hc⟩ := hy v (al v List.mem_cons_self)
    have tl : ∀ y ∈ l, y ∈ ys := fun u q => al u (List.mem_cons_of_mem _ q)
    dsimp only
    by_cases same : (b == c || (carriedByValue (.ref b) && carriedByValue (.ref c))) = true
    · exact wp_if_pos same (wpAny_pure ⟨rfl, rfl, tl⟩)
    · refine wp_if_neg same (wpAny_bind (wpAny_eqIsQuiet_tuple hk ?_))
      simp only [Bool.not_true, Bool.false_eq_true, if_false]
      refine wpAny_bind (wpAny_eqIsQuiet_tuple hc ?_)
      simp only [Bool.not_true, Bool.false_eq_true, if_false]
      refine wpAny_bind (cls_no hk ?_)
      simp only [Bool.false_eq_true, if_false]
      refine wpAny_bind (cls_no hc ?_)
      simp only [Bool.false_eq_true, if_false]
      exact wpAny_pure ⟨rfl, rfl, tl⟩
  · rintro ⟨r1, r2⟩ s' ⟨hr, rfl, _⟩
    cases hr
    exact wpAny_pure h
/-- the rows of the table for the elements L: where each stands, its key -/
def rowsK (P : Program) (w : World) (L : List (Addr × List Key)) : List (Int × Value) := L.map fun p => (hk P w p.2, Value.ref p.1)
structure Tab (P : Program) (w : World) (h : Heap) (a : Addr) (L : List (Addr × List Key)) (es : Array (Int × Value)) (ep : Nat) (t : SetTable) : Prop where
  ob : ∃ o, h.get? a = some o ∧ o.ExactSet ∧ o.data = .set es ep t
  rows : es.toList = rowsK P w L
  tab : TabOk t (L.map fun p => hk P w p.2)
  nd : (L.map (·.2)).Nodup
  tup : ∀ p ∈ L, IsK P w h p.2 p.1
  led : w.params.followText "set-order" = true ∨ t.led = true
  room : L.length * 5 < t.mask * 3
  few : L.length < 64
variable {a : Addr} {L : List (Addr × List Key)} {es : Array (Int × Value)} {ep : Nat} {t : SetTable}
theorem size_of {es : Array (Int × Value)} {L : List (Addr × List Key)} (e : es.toList = rowsK P w L) : es.size = L.length := by
  rw [← Array.length_toList, e]
  exact List.length_map ..
theorem fits_of (hz : t.place.size = es.size) (hd : t.dummies = #[]) (hm : es.size ≤ t.mask) : t.fits es.size = true := by
  unfold SetTable.fits SetTable.fill
  rw [hd, Bool.and_eq_true, beq_iff_eq, decide_eq_true_eq]
  exact ⟨hz, by show t.place.size + 0 ≤ t.mask; omega⟩
theorem Tab.fit (R : Tab P w s.heap a L es ep t) : t.fits es.size = true := by
  have z := R.tab.sz
  rw [List.length_map] at z
  have := size_of R.rows
  have := R.room
  exact fits_of (by omega) R.tab.dm (by omega)
theorem row_at {es : Array (Int × Value)} {L : List (Addr × List Key)} (e : es.toList = rowsK P w L) {i : Nat} {p : Addr × List Key} (h : L[i]? = some p) : es[i]? = some (hk P w p.2, Value.ref p.1) := by
  rw [← Array.getElem?_toList, e]
  unfold rowsK
  rw [List.getElem?_map, h]
  rfl
theorem probe_dummy (m : Nat) : ∀ (n : Nat) (p : SetTable.Probe), p.dummy = none → (nth m p n).dummy = none
  | 0, _, h => h
  | n + 1, p, h => probe_dummy m n (adv m p) (by unfold adv; split <;> exact h)
end
end TKS
set_option Elab.async false
set_option linter.all false
set_option maxRecDepth 100000
set_option maxHeartbeats 4000000
namespace TKS
open PySem PySem.Spec PyProof.Rows L2
section
variable {P : Program} {w : World} {A : Around} {E : Value → Shared → Prop} {s : Shared} {a : Addr} {L : List (Addr × List Key)} {es : Array (Int × Value)} {ep : Nat} {t : SetTable}
/-- the way's state at its c-th step -/
abbrev stp (m : Nat) (g : Int) (c : Nat) : SetTable.Probe := nth m (runAt m (SetTable.bits g % (m + 1)) (SetTable.bits g)) c
theorem stp_add (m : Nat) (g : Int) (c q : Nat) : nth m (stp m g c) q = stp m g (c + q) := (nth_add m c _ q).symm
/-- from the c-th step on, K the first empty place: it ends at an equal element or at K -/
theorem search_go (R : Tab P w s.heap a L es ep t) {x : Addr} {k : List Key} (hx : IsK P w s.heap k x) (hu : A.units < cLine) {K : Nat} (hf : K < 10 * SetTable.turns t.mask)
    (h0 : way t.mask (hk P w k) K ∉ t.place.toList) (hb : ∀ c, c < K → way t.mask (hk P w k) c ∈ t.place.toList) {Q : SetFound → Shared → Prop}
    (yes : k ∈ L.map (·.2) → Q (.there none) s) (no : k ∉ L.map (·.2) → Q (.free (way t.mask (hk P w k) K) false) s) :
    ∀ (f c : Nat) (st : Option SetTable.Probe), st.getD (t.probeStart (hk P w k)) = stp t.mask (hk P w k) c → c ≤ K → K - c < f →
      (∀ (i : Nat) p, L[i]? = some p → p.2 = k → ∃ c', c ≤ c' ∧ c' < K ∧ t.place.toList[i]? = some (way t.mask (hk P w k) c')) →
      wpAny (model P w) A (setSearchFrom a (.ref x) (hk P w k) true f st) Q E s := by
  intro f
  induction f with
  | zero => exact fun c st _ _ z => absurd z (Nat.not_lt_zero _)
  | succ f ih =>
    intro c st hst hc hfu hre
    obtain ⟨o, ho, hex, hd⟩ := R.ob
    have odd : ¬ t.gaveWay = true := by
      unfold SetTable.gaveWay
      rw [mask_odd R.tab.mok]
      decide
    have dn : (stp t.mask (hk P w k) c).dummy = none := probe_dummy _ _ _ rfl
    have at_ : ∀ q, (nth t.mask (stp t.mask (hk P w k) c) q).j = way t.mask (hk P w k) (c + q) := fun q => congrArg SetTable.Probe.j (stp_add _ _ c q)
    have hrow : ∀ (i : Nat) p, L[i]? = some p → ((es[i]?.map (·.1)).getD 0) = hk P w p.2 := fun i p e => by
      rw [row_at R.rows e]
      rfl
    have spec := go_spec t R.tab.ris R.tab.dm (fun i => (es[i]?.map (·.1)).getD 0) (hk P w k) (10 * SetTable.turns t.mask) (K - c) (stp t.mask (hk P w k) c) dn (by omega)
      (fun q z => by rw [at_]; exact hb _ (by omega)) (by rw [at_, Nat.add_sub_cancel' hc]; exact h0)
    rw [setSearchFrom_succ]
    refine wpAny_bind (wpAny_setState_of ho hd R.fit ?_)
    dsimp only
    refine wp_if_neg odd ?_
    try refine wpAny_bind (wpAny_pure ?_)
    rcases spec with ⟨q, i, hq, hi, hh, fresh, found⟩ | ⟨fresh, found⟩
    · have pr : t.probe (fun i => (es[i]?.map (·.1)).getD 0) (hk P w k) (st.getD (t.probeStart (hk P w k))) = some (.candidate (way t.mask (hk P w k) (c + q)) i (stp t.mask (hk P w k) (c + (q + 1)))) := by
        rw [hst, ← at_, ← stp_add]
        exact found
      rw [pr]
      dsimp only
      rw [at_] at hi
      have il : i < L.length := by
        have z1 := (List.getElem?_eq_some_iff.mp hi).1
        have z2 := R.tab.sz
        rw [List.length_map] at z2
        rw [Array.length_toList] at z1
        omega
      obtain ⟨p, hp⟩ : ∃ p, L[i]? = some p := ⟨_, List.getElem?_eq_getElem il⟩
      have mem : p ∈ L := List.mem_of_getElem? hp
      have live := slot_live R.tab.ris hi
      have tail : wpAny (model P w) A (searchRest a (.ref x) (hk P w k) true f es t (way t.mask (hk P w k) (c + q)) i (stp t.mask (hk P w k) (c + (q + 1)))) Q E s := by
        unfold searchRest
        rw [row_at R.rows hp]
        dsimp only
        refine wpAny_bind (wpAny_holding (wpAny_eqBool_tuple hu (R.tup p mem) hx ?_))
        refine wpAny_bind (wpAny_setState_of ho hd R.fit ?_)
        dsimp only
        by_cases eq : p.2 = k
        · exact wp_if_pos (by simp [eq]) (wpAny_pure (yes (List.mem_map.mpr ⟨p, mem, eq⟩)))
        · refine wp_if_neg (by simp [eq]) ?_
          try refine wpAny_bind (wpAny_pure ?_)
          rw [sameMem]
          dsimp only
          simp only [if_true, live, row_at R.rows hp]
          refine wpAny_bind (wpAny_isSame_ref_self (wpAny_bind (wpAny_pure ?_)))
          simp only [if_true]
          refine wp_if_neg (by simp [eq]) (ih (c + (q + 1)) _ rfl (by omega) (by omega) fun i0 p0 e0 k0 => ?_)
          obtain ⟨c', b1, b2, b3⟩ := hre i0 p0 e0 k0
          refine ⟨c', ?_, b2, b3⟩
          by_cases lt : c' < c + q
          · refine absurd ((hrow i0 p0 e0).trans (congrArg (hk P w) k0)) (fresh (c' - c) i0 (by omega) ?_)
            rw [at_, Nat.add_sub_cancel' b1]
            exact b3
          · by_cases e2 : c' = c + q
            · rw [e2] at b3
              have z := slot_live R.tab.ris b3
              rw [live] at z
              injection z with z
              rw [← z, hp] at e0
              exact absurd ((congrArg Prod.snd (Option.some.inj e0)).trans k0) eq
            · omega
      by_cases ld : t.led = true
      · refine wp_if_neg (by simp [ld]) ?_
        try refine wpAny_bind (wpAny_pure ?_)
        exact tail
      · refine wp_if_pos (by simp [ld]) (wpAny_bind (seen_no hx (fun y hy => ?_) (wp_if_neg (by decide) ?_)))
        · obtain ⟨e, he, rfl⟩ := List.mem_map.mp hy
          have he2 : e ∈ es.toList := by simpa using (show e ∈ es ∧ e.1 = hk P w k by simpa using he).1
          rw [R.rows] at he2
          obtain ⟨p2, m2, rfl⟩ := List.mem_map.mp he2
          exact ⟨p2.2, p2.1, rfl, R.tup p2 m2⟩
        · try refine wpAny_bind (wpAny_pure ?_)
          exact tail
    · have pr : t.probe (fun i => (es[i]?.map (·.1)).getD 0) (hk P w k) (st.getD (t.probeStart (hk P w k))) = some (.empty (way t.mask (hk P w k) K) none) := by
        have z : way t.mask (hk P w k) K = (nth t.mask (stp t.mask (hk P w k) c) (K - c)).j := by rw [at_, Nat.add_sub_cancel' hc]
        rw [hst, z]
        exact found
      rw [pr]
      dsimp only
      refine wpAny_pure (no fun hm => ?_)
      obtain ⟨p0, m0, k0⟩ := List.mem_map.mp hm
      obtain ⟨i0, hi0⟩ := List.getElem?_of_mem m0
      obtain ⟨c', b1, b2, b3⟩ := hre i0 p0 hi0 k0
      refine fresh (c' - c) i0 (by omega) ?_ ((hrow i0 p0 hi0).trans (congrArg (hk P w) k0))
      rw [at_, Nat.add_sub_cancel' b1]
      exact b3
theorem search_ok (R : Tab P w s.heap a L es ep t) {x : Addr} {k : List Key} (hx : IsK P w s.heap k x) (hu : A.units < cLine) {Q : SetFound → Shared → Prop} (yes : k ∈ L.map (·.2) → Q (.there none) s)
    (no : ∀ K, k ∉ L.map (·.2) → way t.mask (hk P w k) K ∉ t.place.toList → (∀ c, c < K → way t.mask (hk P w k) c ∈ t.place.toList) → Q (.free (way t.mask (hk P w k) K) false) s) :
    wpAny (model P w) A (setSearch a (.ref x) (hk P w k) true) Q E s := by
  have room := R.room
  obtain ⟨K, k1, k2, k3⟩ := R.tab.first (by rw [List.length_map]; omega) (hk P w k)
  have few : 10 * SetTable.turns t.mask ≤ 1420 := by
    unfold SetTable.turns
    rcases R.tab.mok with e | e | e <;> omega
  unfold setSearch
  refine search_go R hx hu k1 k2 k3 yes (fun n => no K n k2 k3) 100000 0 none rfl (Nat.zero_le _) (by omega) fun i p hp hpk => ?_
  have hi : (L.map fun p => hk P w p.2)[i]? = some (hk P w k) := by
    rw [List.getElem?_map, hp, ← hpk]
    rfl
  have il : i < t.place.toList.length := by
    have z1 := (List.getElem?_eq_some_iff.mp hp).1
    have z2 := R.tab.sz
    rw [List.length_map] at z2
    rw [Array.length_toList]
    omega
  have hj := List.getElem?_eq_getElem il
  obtain ⟨c, b1, b2⟩ := R.tab.before k2 hi hj
  exact ⟨c, Nat.zero_le _, b1, by rw [hj, b2]⟩
/-- an element is no set -/
theorem IsK.but {h h' : Heap} {k : List Key} {a b : Addr} {o : Obj} {es : Array (Int × Value)} {ep : Nat} {t : SetTable} (hb : IsK P w h k b) (ho : h.get? a = some o) (hd : o.data = .set es ep t) (sb : Heap.SameBut a h h') : IsK P w h' k b := by
  obtain ⟨o', its, n, e1, e2, e3, e4⟩ := hb
  have ne : b ≠ a := fun z => by
    rw [z, ho] at e1
    cases e1
    rw [hd] at e3
    cases e3
  exact ⟨o', its, n, (sb.2 b ne).trans e1, e2, e3, e4⟩
theorem IsK.keep {h h' : Heap} {k : List Key} {b : Addr} (x : IsK P w h k b) (kp : ∀ o, h.get? b = some o → h'.get? b = some o) : IsK P w h' k b := by
  obtain ⟨o, its, n, e1, e⟩ := x
  exact ⟨o, its, n, kp o e1, e⟩
/-- the rows in another order -/
theorem rows_order (L : List (Addr × List Key)) (es : Array (Int × Value)) (hr : es.toList = rowsK P w L) : ∀ l : List Nat, (∀ i ∈ l, i < L.length) →
    l.filterMap (fun i => es[i]?) = rowsK P w (l.filterMap fun i => L[i]?) ∧ ((l.filterMap fun i => L[i]?).map fun p => hk P w p.2) = l.map fun i => (es.map (·.1)).getD i 0
  | [], _ => ⟨rfl, rfl⟩
  | i :: l, hl => by
    obtain ⟨e1, e2⟩ := rows_order L es hr l fun j hj => hl j (List.mem_cons_of_mem _ hj)
    have hi := hl i List.mem_cons_self
    have hp := List.getElem?_eq_getElem hi
    have he := row_at hr hp
    rw [List.filterMap_cons_some he, List.filterMap_cons_some hp, e1, List.map_cons, List.map_cons, e2]
    refine ⟨rfl, ?_⟩
    congr 1
    rw [Array.getD_eq_getD_getElem?, Array.getElem?_map, he]
    rfl
theorem range_get {α : Type} (L : List α) : (List.range L.length).filterMap (fun i => L[i]?) = L := by
  have go : ∀ n, n ≤ L.length → (List.range n).filterMap (fun i => L[i]?) = L.take n := by
    intro n
    induction n with
    | zero => exact fun _ => rfl
    | succ n ih =>
      intro hn
      rw [List.range_succ, List.filterMap_append, ih (Nat.le_of_lt hn), List.take_add_one, List.getElem?_eq_getElem hn, List.filterMap_cons_some (List.getElem?_eq_getElem hn)]
      rfl
  rw [go _ (Nat.le_refl _), List.take_length]
end
end TKS
set_option Elab.async false
set_option linter.all false
set_option maxRecDepth 100000
set_option maxHeartbeats 4000000
namespace TKS
open PySem PySem.Spec PyProof.Rows L2
section
variable {P : Program} {w : World} {A : Around} {E : Value → Shared → Prop} {s : Shared} {a : Addr} {L : List (Addr × List Key)} {es : Array (Int × Value)} {ep : Nat} {t : SetTable}
/-- all of a table's word but the room -/
structure Pre (P : Program) (w : World) (h : Heap) (a : Addr) (L : List (Addr × List Key)) (es : Array (Int × Value)) (ep : Nat) (t : SetTable) : Prop where
  ob : ∃ o, h.get? a = some o ∧ o.ExactSet ∧ o.data = .set es ep t
  rows : es.toList = rowsK P w L
  tab : TabOk t (L.map fun p => hk P w p.2)
  nd : (L.map (·.2)).Nodup
  tup : ∀ p ∈ L, IsK P w h p.2 p.1
  led : w.params.followText "set-order" = true ∨ t.led = true
  few : L.length < 64
theorem Pre.tab_ (R : Pre P w s.heap a L es ep t) (room : L.length * 5 < t.mask * 3) : Tab P w s.heap a L es ep t := ⟨R.ob, R.rows, R.tab, R.nd, R.tup, R.led, room, R.few⟩
/-- laid anew, larger -/
theorem relay_ok (R : Pre P w s.heap a L es ep t) (hfl : es.size ≤ t.mask) {wanted M : Nat} (hw : SetTable.sizeAbove wanted - 1 = M) (hM : MaskOk M) (hw2 : SetTable.sizeAbove wanted ≤ 128) (hn : L.length * 5 < M * 3) {Q : Unit → Shared → Prop}
    (q : ∀ h' L' es' ep' t', Heap.SameBut a s.heap h' → Tab P w h' a L' es' ep' t' → L'.Perm L → Q () { s with heap := h' }) : wpAny (model P w) A (setRelay a wanted) Q E s := by
  obtain ⟨o, ho, hex, hd⟩ := R.ob
  have hz := size_of R.rows
  have tz := R.tab.sz
  rw [List.length_map] at tz
  obtain ⟨t', order, e, pm, T, em, el, _, _⟩ := relaid_ok t (hs := es.map (·.1)) (wanted := wanted) hw hM (by rw [Array.size_map]; omega)
  rw [Array.size_map, hz] at pm
  have inb : ∀ i ∈ order.toList, i < L.length := fun i hi => List.mem_range.mp (pm.mem_iff.mp hi)
  obtain ⟨r1, r2⟩ := rows_order L es R.rows order.toList inb
  have pL : (order.toList.filterMap fun i => L[i]?).Perm L := by
    have z := pm.filterMap fun i => L[i]?
    rw [range_get] at z
    exact z
  have r1' : (order.filterMap (es[·]?)).toList = rowsK P w (order.toList.filterMap fun i => L[i]?) := by first | (rw [Array.toList_filterMap]; exact r1) | simpa using r1
  rw [← r2] at T
  generalize order.toList.filterMap (fun i => L[i]?) = L2 at T pL r1'
  have z2 : (order.filterMap (es[·]?)).size = es.size := by rw [size_of r1', pL.length_eq, hz]
  rw [setRelay_eq]
  refine wpAny_bind (wpAny_setState_of ho hd (fits_of (by omega) R.tab.dm hfl) ?_)
  dsimp only
  refine wp_if_neg (by rw [sizeLine_eq]; omega) ?_
  try refine wpAny_bind (wpAny_pure ?_)
  rw [e]
  dsimp only
  refine wpAny_bind (wp_if_neg (by rw [z2]; simp) ?_)
  try refine wpAny_bind (wpAny_pure ?_)
  refine wpAny_pure ?_
  dsimp only
  have few := R.few
  refine wpAny_storeSet_of ho hd ?_ (by rw [z2, hz, sizeLine_eq]; omega)
  have sb : Heap.SameBut a s.heap (s.heap.update a (Obj.putSet (order.filterMap (es[·]?)) t')) := Heap.SameBut.update ..
  exact q _ L2 (order.filterMap (es[·]?)) (ep + 1) t' sb ⟨⟨_, store_at ho hd, ⟨hex.1, hex.2.1, hex.2.2⟩, rfl⟩, r1', T, (pL.map (·.2)).nodup_iff.mpr R.nd, fun p hp => (R.tup p (pL.mem_iff.mp hp)).but ho hd sb,
    by rw [el]; exact R.led, by rw [pL.length_eq, em]; exact hn, by rw [pL.length_eq]; exact few⟩ pL
theorem tab_plain {t : SetTable} {hs : List Int} (T : TabOk t hs) (b : Bool) : TabOk { t with plain := b } hs := ⟨T.ris, T.dm, T.sz, T.mok, T.bd, T.reach⟩
/-- adding: an equal element is there, or it's one more -/
theorem add_ok (R : Tab P w s.heap a L es ep t) {x : Addr} {k : List Key} (hx : IsK P w s.heap k x) (hu : A.units < cLine) (hfew : L.length + 1 < 64) {Q : Bool → Shared → Prop}
    (q : ∀ b h' L' es' ep' t', Heap.SameBut a s.heap h' → Tab P w h' a L' es' ep' t' → (k ∈ L.map (·.2) → L' = L) → (k ∉ L.map (·.2) → L'.Perm ((x, k) :: L)) → Q b { s with heap := h' }) :
    wpAny (model P w) A (setAddHashed a (.ref x) (hk P w k)) Q E s := by
  obtain ⟨o, ho, hex, hd⟩ := R.ob
  have hz := size_of R.rows
  have room := R.room
  unfold setAddHashed
  refine wpAny_holding ?_
  rw [show (100000 : Nat) = 99999 + 1 from rfl, setAddHashedIn_succ]
  refine wpAny_bind (wpAny_setState_of ho hd R.fit ?_)
  dsimp only
  refine wp_if_neg (by simp [byScan, Value.scannable]) ?_
  try refine wpAny_bind (wpAny_pure ?_)
  refine wpAny_bind (search_ok R hx hu (fun hm => ?_) fun K hm hK hb => ?_)
  · dsimp only
    exact wpAny_pure (q false s.heap L es ep t (Heap.SameBut.refl a s.heap) R (fun _ => rfl) fun z => absurd hm z)
  · dsimp only
    refine wpAny_bind (wpAny_setState_of ho hd R.fit ?_)
    dsimp only
    obtain ⟨g1, g2, g3, g4, g5, _, _, _, g9⟩ := R.tab.put hK hb
    generalize hpt : t.put (way t.mask (hk P w k) K) = pt at g1 g3 g4 g5 g9 ⊢
    obtain ⟨t1, p⟩ := pt
    dsimp only at g1 g3 g4 g5 g9 ⊢
    rw [← g1] at g2 g3
    -- behind the look at the hash: plain or not, the table is the same else
    have rest : ∀ c : Bool, wpAny (model P w) A (do
        let t' := if c = true then t1 else { t1 with plain := false }
        storeSet a (SetTable.insertAt es p (hk P w k, Value.ref x)) t'
        if !false && t'.tooFull then setRelay a (SetTable.grown (es.size + 1))
        pure true) Q E s := by
      intro c
      have T2 : TabOk (if c = true then t1 else { t1 with plain := false }) ((L.map fun p => hk P w p.2).take p ++ hk P w k :: (L.map fun p => hk P w p.2).drop p) := by
        cases c with
        | true => exact g3
        | false => exact tab_plain g3 false
      have m2 : (if c = true then t1 else { t1 with plain := false }).mask = t.mask := by cases c <;> exact g4
      have l2 : (if c = true then t1 else { t1 with plain := false }).led = t.led := by cases c <;> exact g5
      have f2 : (if c = true then t1 else { t1 with plain := false }).fill = L.length + 1 := by
        rw [List.length_map] at g9
        cases c <;> exact g9
      dsimp only
      generalize (if c = true then t1 else { t1 with plain := false }) = t2 at T2 m2 l2 f2 ⊢
      have hin : (SetTable.insertAt es p (hk P w k, Value.ref x)).toList = rowsK P w (L.take p ++ (x, k) :: L.drop p) := by
        rw [SetTable.toList_insertAt, R.rows]
        unfold rowsK
        rw [List.map_append, List.map_cons, List.map_take, List.map_drop]
      have hhs : (L.map fun p => hk P w p.2).take p ++ hk P w k :: (L.map fun p => hk P w p.2).drop p = (L.take p ++ (x, k) :: L.drop p).map fun p => hk P w p.2 := by
        rw [List.map_append, List.map_cons, List.map_take, List.map_drop]
      rw [hhs] at T2
      have pm : (L.take p ++ (x, k) :: L.drop p).Perm ((x, k) :: L) := put_perm L p (x, k)
      have hes := size_of hin
      rw [pm.length_eq, List.length_cons] at hes
      generalize SetTable.insertAt es p (hk P w k, Value.ref x) = es1 at hin hes ⊢
      generalize L.take p ++ (x, k) :: L.drop p = L1 at hin T2 pm
      have len1 : L1.length = L.length + 1 := pm.length_eq
      refine wpAny_bind (wpAny_storeSet_of ho hd ?_ (by rw [hes, sizeLine_eq]; omega))
      have sb : Heap.SameBut a s.heap (s.heap.update a (Obj.putSet es1 t2)) := Heap.SameBut.update ..
      have R1 : Pre P w (s.heap.update a (Obj.putSet es1 t2)) a L1 es1 (ep + 1) t2 := by
        refine ⟨⟨_, store_at ho hd, ⟨hex.1, hex.2.1, hex.2.2⟩, rfl⟩, hin, T2, ?_, fun p hp => ?_, by rw [l2]; exact R.led, by rw [len1]; exact hfew⟩
        · refine (pm.map (·.2)).nodup_iff.mpr ?_
          rw [List.map_cons]
          exact List.nodup_cons.mpr ⟨hm, R.nd⟩
        · rcases List.mem_cons.mp (pm.mem_iff.mp hp) with z | z
          · rw [z]
            exact IsK.but hx ho hd sb
          · exact IsK.but (R.tup p z) ho hd sb
      generalize s.heap.update a (Obj.putSet es1 t2) = h1 at sb R1 ⊢
      by_cases full : t2.tooFull = true
      · first
          | (refine wpAny_bind ?_; refine wp_if_pos (by simp [full]) ?_)
          | (refine wp_if_pos (by simp [full]) ?_; refine wpAny_bind ?_)
        have big : (L.length + 1) * 5 ≥ t2.mask * 3 := by
          have z := full
          unfold SetTable.tooFull at z
          rw [decide_eq_true_eq, f2] at z
          exact z
        rw [hz]
        have two : (t.mask = 7 ∧ L.length = 4) ∨ (t.mask = 31 ∧ L.length = 18) := by
          rcases R.tab.mok with e | e | e
          · left; rw [m2, e] at big; rw [e] at room; exact ⟨e, by omega⟩
          · right; rw [m2, e] at big; rw [e] at room; exact ⟨e, by omega⟩
          · exfalso; rw [m2, e] at big; omega
        have go : ∀ M, SetTable.sizeAbove (SetTable.grown (L.length + 1)) - 1 = M → MaskOk M → SetTable.sizeAbove (SetTable.grown (L.length + 1)) ≤ 128 → (L.length + 1) * 5 < M * 3 →
            wpAny (model P w) A (setRelay a (SetTable.grown (L.length + 1))) (fun _ s' => wpAny (model P w) A (pure true) Q E s') E { s with heap := h1 } := fun M b1 b2 b3 b4 => by
          refine relay_ok (s := { s with heap := h1 }) R1 (by rw [hes, m2]; rcases two with ⟨e, e2⟩ | ⟨e, e2⟩ <;> omega) b1 b2 b3 (by rw [len1]; exact b4) fun h2 L2 es2 ep2 t3 sb2 R2 pm2 => ?_
          exact wpAny_pure (q true h2 L2 es2 ep2 t3 (sb.trans sb2) R2 (fun z => absurd z hm) fun _ => pm2.trans pm)
        rcases two with ⟨_, e2⟩ | ⟨_, e2⟩
        · exact go 31 (by rw [e2, size_20]) (.inr (.inl rfl)) (by rw [e2, size_20]; decide) (by omega)
        · exact go 127 (by rw [e2, size_76]) (.inr (.inr rfl)) (by rw [e2, size_76]; decide) (by omega)
      · first
          | refine wp_if_neg (by simp [full]) ?_
          | (refine wpAny_bind ?_; refine wp_if_neg (by simp [full]) ?_; refine wpAny_pure ?_)
        refine wpAny_pure (q true h1 L1 es1 (ep + 1) t2 sb (R1.tab_ (s := { s with heap := h1 }) ?_) (fun z => absurd z hm) fun _ => pm)
        have z := full
        unfold SetTable.tooFull at z
        rw [decide_eq_true_eq, f2] at z
        rw [len1]
        omega
    by_cases pl : t1.plain = true
    · first
        | (refine wpAny_bind ?_; refine wp_if_pos pl ?_; exact hash_any hx fun c => rest c)
        | exact wp_if_pos pl (wpAny_bind (hash_any hx fun c => rest c))
    · first
        | (refine wpAny_bind ?_; refine wp_if_neg pl ?_; exact wpAny_pure (rest true))
        | exact wp_if_neg pl (wpAny_bind (wpAny_pure (rest true)))
end
end TKS
set_option Elab.async false
set_option linter.all false
set_option maxRecDepth 100000
set_option maxHeartbeats 4000000
/-! {elt for target in iter if ..}: the new set is told by O (empty) and Ad (one element more), whatever the elements are. -/
namespace L2
open PySem PySem.Spec PyProof.Rows PpSet
abbrev TAd := Addr → V → Hp → (Hp → Prop) → Prop
/-- the set object as it is made -/
abbrev newSetObj (w : World) : Obj := { cls := .type "set", dict := none, data := .set #[] 0 (.fresh 0 0 (!w.params.followText "set-order")) }
/-- adding one element by Ad, in the context X -/
def AdOk (X : Cx) (Ad : TAd) : Prop := ∀ (pins : List (Addr × Obj)) (σ : St) (H : Hp) (s : Shared) (E : Value → Shared → Prop) (D : Addr) (y : V) (u : Value) (Nx : Hp → Prop) (Q : Value → Shared → Prop),
  Inv X pins σ H s → RelV y u → Ad D y H Nx → (∀ H' s' v, Inv X pins σ H' s' → Nx H' → Q v s') → wpAny (model X.prog X.w) X.A (call (.builtin "set.add") [.ref D, u]) Q E s
def tScG (O : Addr → HO) (Ad : TAd) (wi : TI) (g : TG) (tt : TT) (te : TE) (vs : List Nat) : TE := fun σ H Q => wi σ H fun J H1 => ∀ D, H1 D = none → ∃ W : Nat → Nat → Hp → Prop, (∃ m, W 0 m (upd H1 D (O D))) ∧ ∀ i m H, W i m H →
  (J.stop i H ∧ Q (.ref D) H) ∨ (J.go i H ∧ ∃ Nx : Hp → Prop, (∀ H', Nx H' → ∃ m', m' < m ∧ W (i + 1) m' H') ∧ ∀ x H', J.yld i H x H' → g x (wipe σ vs) H' fun σ2 H2 => wipe σ2 vs = wipe σ vs ∧ tt σ2 H2 fun b H3 =>
    if b = true then te σ2 H3 fun y H4 => Ad D y H4 Nx else Nx H3)
section
variable {X : Cx} {O : Addr → HO} {Ad : TAd}
theorem scG_core {pins : List (Addr × Obj)} {s : Shared} {σ : St} {H : Hp} {Q : VK} {elt tg iter : Expr} {ifs : List Expr} {scope : Scope} {own : List (Str × Nat)} {pos pos' : Pos} {wi : TI} {g : TG} {tt : TT} {te : TE} {Qf : Value → Shared → Prop}
    (hO : ∀ (H : Hp) (h : Heap), ObjOk X.prog X.w H (h.push (newSetObj X.w)) h.objs.size (O h.objs.size)) (hA : ∀ s H ce fp, AdOk (X.blk s H scope ce fp) Ad)
    (calm : X.calm = true) (nd : X.N.Nodup) (I : Inv X pins σ H s) (hi : PI X tg iter wi) (ok : BlkOk X.N X.env.scope scope own)
    (hg : ∀ s H C cl fp, PG (X.blk s H scope (compEnvC scope cl C X.env) fp) tg g) (ht : ∀ s H C cl fp, PTs (X.blk s H scope (compEnvC scope cl C X.env) fp) ifs tt)
    (he : ∀ s H C cl fp, PE (X.blk s H scope (compEnvC scope cl C X.env) fp) elt te) (hs : ∀ x, foldedSetIterable iter X.env x = pure x)
    (h : tScG O Ad wi g tt te (own.map (·.2)) σ H Q)
    (fin0 : ∀ D C s' m H', Inv X pins σ H' s' → Q (.ref D) H' → s'.heap.Ns C m → FpOk X pins H' C → compPost (model X.prog X.w) X.A X.xe none Qf (.ref D) C (.ok .next) s') :
    wpAny (model X.prog X.w) X.A (comprehension (.SetComp elt [⟨tg, iter, ifs, 0⟩] scope pos) scope X.env pos' (newSet (.type "set")) false (eval iter X.env) none) Qf X.xe s := by
  have cells : ∀ y ∈ scope.names, y.2 = .free → ∃ c, X.env.cells.lookup y.1 = some c := fun y hy e => (ok.free y hy e).elim (fun k => I.ok.has _ (.inl k)) fun k => I.ok.has _ (.inr k)
  refine wpAny_comprehension_free (use := none) rfl hs (closure_ok cells) ok.kind (fun y hy e => by rw [ok.uniq y hy, e]) (thn (hi.run pins s σ H _ I h) fun xv s1 hx => thn hx fun itv s2 z2 => ?_)
  obtain ⟨it, fp, tn, J, H2, e, I2, T, tn2, fp2, q⟩ := z2
  cases e
  refine newSet_ok (newEnv_comp ?_)
  have hS := hO (upd H2 s2.heap.objs.size (O s2.heap.objs.size)) s2.heap
  generalize hD : s2.heap.objs.size = D at hS ⊢
  obtain ⟨W, ⟨m0, w0⟩, turn⟩ := q D (I2.hok.fresh (Nat.le_of_eq hD))
  generalize hs3 : ({ s2 with heap := s2.heap.push (newSetObj X.w) } : Shared) = s3
  have h3 : s3.heap = s2.heap.push (newSetObj X.w) := by rw [← hs3]
  have I3 : Inv X pins σ (upd H2 D (O D)) s3 := by
    rw [← hs3]
    exact I2.laid (t' := s2.toks) (fun b o e => Heap.get?_push_of_some _ e) (Nat.le_of_eq hD) hS
  generalize hH3 : upd H2 D (O D) = H3 at I3 w0
  have below : ∀ b ∈ fp, b < s2.heap.objs.size := fun b hb => let ⟨_, e, _⟩ := T.obj _ _ tn2 b hb; Heap.lt_size e
  have fp3 : ∀ b ∈ fp, FpOk X pins H3 b ∧ b < s3.heap.objs.size := fun b hb => by
    have lt := below b hb
    refine ⟨⟨?_, (fp2 b hb).2⟩, by rw [h3, Heap.size_push]; exact Nat.lt_succ_of_lt lt⟩
    rw [← hH3, upd_ne (by rw [← hD]; exact Nat.ne_of_lt lt)]
    exact (fp2 b hb).1
  have free3 : ∀ b ∈ fp, H3 b = none := fun b hb => (fp3 b hb).1.1
  have tn3 : tn 0 s3.heap := T.keep _ _ _ tn2 fun b _ o e => by rw [h3]; exact Heap.get?_push_of_some _ e
  have I4 := block_start I3 ok nd fp3
  generalize hC : s3.heap.objs.size = C at I4 ⊢
  generalize hcl : cellsFrom (C + 1) scope.names (cloFrom X.env.cells scope.names []) = cl at I4
  have pg := hg s3 H3 C cl fp
  have pt := ht s3 H3 C cl fp
  have pe := he s3 H3 C cl fp
  show codeAny _ _ (.compStart (.SetComp elt [⟨tg, iter, ifs, 0⟩] scope pos) 0 (.ref it) (.ref D) (compEnvC scope cl C X.env)) (compPost (model X.prog X.w) X.A X.xe none Qf (.ref D) C) { s3 with heap := pushCells (s3.heap.push { cls := .type "dict", data := .dict #[] }) scope.names }
  have envL : (compEnvC scope cl C X.env).locals = C := rfl
  generalize compEnvC scope cl C X.env = ce at I4 pg pt pe envL ⊢
  have ad := hA s3 H3 ce fp
  generalize hs4 : ({ s3 with heap := pushCells (s3.heap.push { cls := .type "dict", data := .dict #[] }) scope.names } : Shared) = s4 at I4 ⊢
  have tn4 : tn 0 s4.heap := T.keep _ _ _ tn3 fun b _ o e => by rw [← hs4]; exact pushCells_keeps _ _ _ _ (Heap.get?_push_of_some _ e)
  have pinOk : ∀ {σ' : St} {H' : Hp} {s' : Shared}, Inv (X.blk s3 H3 scope ce fp) [] σ' H' s' → (∀ b ∈ fp, H' b = none) → ∀ b ∈ fp, FpOk (X.blk s3 H3 scope ce fp) [] H' b := fun I' hn b hb =>
    ⟨hn b hb, (I'.ok.exf b hb).1, I'.ok.exfs b hb, .inl hb, fun x c e => (I'.ok.exf b hb).2 x c e, fun p hp => absurd (show p ∈ ([] : List (Addr × Obj)) ++ [] from hp) (by simp)⟩
  have loop : codeAny (model X.prog X.w) X.A (.compLoop (.SetComp elt [⟨tg, iter, ifs, 0⟩] scope pos) 0 (.ref it) (.ref D) ce) (compPost (model X.prog X.w) X.A X.xe none Qf (.ref D) C) s4 := by
    refine compLoopS_any (fun n s' => ∃ i H', Inv (X.blk s3 H3 scope ce fp) [] (wipe σ (own.map (·.2))) H' s' ∧ tn i s'.heap ∧ (∀ b ∈ fp, H' b = none) ∧ W i n H') ?_ m0 ⟨0, H3, I4, tn4, free3, w0⟩
    rintro n s5 ⟨i, H5, I5, tn5, free5, w5⟩
    rcases turn i n H5 w5 with ⟨stop, done⟩ | ⟨go, Nx, hNx, step⟩
    · refine thnF (T.done (X.blk s3 H3 scope ce fp) rfl rfl rfl calm i [] s5 _ H5 (fun _ _ => False) I5 (pinOk I5 free5) tn5 stop) fun r s6 ⟨hr, I6⟩ => ?_
      cases hr
      have I7 : Inv X pins σ H5 s6 := I3.call' (ch := fp) I6.os I6.base I6.hok I6.bare fun b hb => ⟨(fp3 b hb).1.2.2.2.1, (fp3 b hb).1.2.1, (fp3 b hb).1.2.2.2.2.1, (fp3 b hb).1.2.2.2.2.2⟩
      have freeC : H5 C = none := by
        have z : H5 ce.locals = none := I6.free
        rwa [envL] at z
      obtain ⟨m, hn, _⟩ := I6.loc
      have hn : s6.heap.Ns ce.locals m := hn
      rw [envL] at hn
      exact fin0 D C s6 m H5 I7 done hn (I3.fpOk (Nat.le_of_eq hC) freeC)
    · refine thnF (T.item (X.blk s3 H3 scope ce fp) rfl rfl rfl calm i [] s5 _ H5 (fun _ _ => False) I5 (pinOk I5 free5) tn5 go) fun r s6 ⟨u, hr, h6⟩ => ?_
      cases hr
      refine thnF h6 fun _ s7 ⟨x, H7, I7, r7, y7, tn7, free7⟩ => ?_
      refine thnF (pg.run _ s7 _ H7 x u _ (I7.pinned (pinOk I7 free7) (T.obj _ _ tn7)) r7 (step x H7 y7)) fun _ s8 ⟨σ8, H8, I8, hw8, q8⟩ => thnF (pt.run _ s8 σ8 H8 _ I8 q8) fun b s9 ⟨H9, I9, q9⟩ => ?_
      have next : ∀ {s' : Shared} {H' : Hp}, Inv (X.blk s3 H3 scope ce fp) ([] ++ pinsAt fp s7.heap) σ8 H' s' → Nx H' → ∃ m, m < n ∧ ∃ i H', Inv (X.blk s3 H3 scope ce fp) [] (wipe σ (own.map (·.2))) H' s' ∧ tn i s'.heap ∧ (∀ b ∈ fp, H' b = none) ∧ W i m H' := fun {s' H'} I' nx => by
        obtain ⟨m', hm, w'⟩ := hNx H' nx
        have pinned : ∀ b ∈ fp, ∀ o, s7.heap.get? b = some o → s'.heap.get? b = some o ∧ H' b = none := fun b hb o e =>
          let z := I'.pin (b, o) (List.mem_append_right _ (List.mem_append_right _ (mem_pinsAt hb e)))
          ⟨z.1, z.2.1⟩
        refine ⟨m', hm, i + 1, H', (I'.unpinned (pins := [])).weak (by rw [← hw8, wipe_length]) (fun j v e => ?_), T.keep _ _ _ tn7 fun b hb o e => (pinned b hb o e).1, fun b hb => ?_, w'⟩
        · rw [← hw8] at e
          exact (wipe_some e).1
        · obtain ⟨o, e, _⟩ := T.obj _ _ tn7 b hb
          exact (pinned b hb o e).2
      cases b with
      | false =>
        simp only [Bool.false_eq_true, if_false] at q9 ⊢
        exact next I9 q9
      | true =>
        simp only [if_true] at q9 ⊢
        refine thnF (pe.run _ s9 σ8 H9 _ I9 q9) fun z s10 ⟨yv, H10, I10, r10, q10⟩ => ?_
        exact ad _ _ _ _ _ _ _ _ _ _ I10 r10 q10 fun H' s' v I' nx => next I' nx
  exact codeAny_compStart_set loop (T.self X.A 0 _ _ _ tn4 loop)
theorem pe_scG {elt tg iter : Expr} {ifs : List Expr} {scope : Scope} {own : List (Str × Nat)} {pos : Pos} {wi : TI} {g : TG} {tt : TT} {te : TE} (hO : ∀ (H : Hp) (h : Heap), ObjOk X.prog X.w H (h.push (newSetObj X.w)) h.objs.size (O h.objs.size))
    (hA : ∀ s H ce fp, AdOk (X.blk s H scope ce fp) Ad) (calm : X.calm = true) (nd : X.N.Nodup) (hi : PI X tg iter wi) (ok : BlkOk X.N X.env.scope scope own)
    (hg : ∀ s H C cl fp, PG (X.blk s H scope (compEnvC scope cl C X.env) fp) tg g) (ht : ∀ s H C cl fp, PTs (X.blk s H scope (compEnvC scope cl C X.env) fp) ifs tt)
    (he : ∀ s H C cl fp, PE (X.blk s H scope (compEnvC scope cl C X.env) fp) elt te) (hs : ∀ x, foldedSetIterable iter X.env x = pure x := by intro _; rfl) :
    PE X (.SetComp elt [⟨tg, iter, ifs, 0⟩] scope pos) (tScG O Ad wi g tt te (own.map (·.2))) := by
  refine ⟨fun pins s σ H Q I h => ?_⟩
  rw [eval_SetComp]
  refine scG_core hO hA calm nd I hi ok hg ht he hs h fun D C s' m H' I' q hn f => ⟨m, hn, fun h'' sb => ?_⟩
  obtain ⟨f0, f1, _, f3, f4, f5⟩ := f
  exact ⟨.ref D, H', I'.turned (t' := s'.toks) (fun b o hb e => (sb.2 b hb).trans e) f0 f1 f3 f4 f5, rfl, q⟩
end
end L2
set_option Elab.async false
set_option linter.all false
set_option maxRecDepth 100000
set_option maxHeartbeats 4000000
namespace L2
open PySem PySem.Spec PyProof.Rows PpSet TKS
/-- the table at a, without its elements' own objects -/
def Tab0 (P : Program) (w : World) (h : Heap) (a : Addr) (L : List (Addr × List Key)) : Prop := ∃ (es : Array (Int × Value)) (ep : Nat) (t : SetTable), (∃ o, h.get? a = some o ∧ o.ExactSet ∧ o.data = .set es ep t) ∧ es.toList = rowsK P w L ∧ TabOk t (L.map fun p => hk P w p.2) ∧
  (L.map (·.2)).Nodup ∧ (w.params.followText "set-order" = true ∨ t.led = true) ∧ L.length * 5 < t.mask * 3 ∧ L.length < 64
/-- the set of the tuples L: addresses and keys -/
def TupSet (P : Program) (w : World) (a : Addr) (L : List (Addr × List Key)) : HO := .ext fun h => Tab0 P w h a L
theorem Tab0.full {P : Program} {w : World} {h : Heap} {a : Addr} {L : List (Addr × List Key)} (R : Tab0 P w h a L) (ht : ∀ p ∈ L, IsK P w h p.2 p.1) : ∃ es ep t, Tab P w h a L es ep t := by
  obtain ⟨es, ep, t, h1, h2, h3, h4, h5, h6, h7⟩ := R
  exact ⟨es, ep, t, h1, h2, h3, h4, ht, h5, h6, h7⟩
theorem tab_zero {P : Program} {w : World} {h : Heap} {a : Addr} {L : List (Addr × List Key)} {es : Array (Int × Value)} {ep : Nat} {t : SetTable} (R : Tab P w h a L es ep t) : Tab0 P w h a L := ⟨es, ep, t, R.ob, R.rows, R.tab, R.nd, R.led, R.room, R.few⟩
theorem tset_ok {P : Program} {w : World} {H : Hp} {h : Heap} {a : Addr} {L : List (Addr × List Key)} (R : Tab0 P w h a L) : ObjOk P w H h a (TupSet P w a L) := by
  have ⟨es, ep, t, ⟨o, ho, _⟩, _⟩ := R
  exact ⟨R, ⟨o, ho⟩, fun h1 h2 ⟨es, ep, t, ⟨o, e, x⟩, y⟩ k => ⟨es, ep, t, ⟨o, k o e, x⟩, y⟩⟩
theorem tab_fresh {P : Program} {h : Heap} (w : World) : Tab0 P w (h.push (newSetObj w)) h.objs.size [] :=
  ⟨#[], 0, _, ⟨_, Heap.get?_push_size _ rfl, ⟨rfl, rfl, rfl⟩, rfl⟩, rfl, ⟨List.Pairwise.nil, rfl, rfl, .inl rfl, fun x hx => absurd hx List.not_mem_nil, fun i g j e => by simp at e⟩, List.nodup_nil,
    (by
      show _ ∨ (!w.params.followText "set-order") = true
      cases w.params.followText "set-order"
      · exact .inr rfl
      · exact .inl rfl), (by show 0 * 5 < 7 * 3; decide), (by decide)⟩
theorem tset_new (X : Cx) (H : Hp) (h : Heap) : ObjOk X.prog X.w H (h.push (newSetObj X.w)) h.objs.size (TupSet X.prog X.w h.objs.size []) := tset_ok (tab_fresh X.w)
theorem keys_vals {P : Program} {w : World} : ∀ {k : List Key} {us : List Value}, Vals (k.map kV) us → ItemsAre (mixKind P w) k us
  | [], _, .nil => .nil
  | k :: ks, _, .cons r t => .cons (kV_is r) (keys_vals t)
section
variable {X : Cx} {pins : List (Addr × Obj)} {σ : St} {H : Hp} {s : Shared}
theorem Inv.isK {b : Addr} {k : List Key} (I : Inv X pins σ H s) (h : SqT X.K H b (k.map kV)) : IsK X.prog X.w s.heap k b := by
  obtain ⟨its, r, ⟨o, ho, hc, n, hd⟩, _⟩ := I.tuple h
  exact ⟨o, its.toArray, n, ho, hc, hd, by simpa using keys_vals r⟩
theorem Inv.tset {D : Addr} {L : List (Addr × List Key)} (I : Inv X pins σ H s) (hD : H D = some (TupSet X.prog X.w D L)) : Tab0 X.prog X.w s.heap D L := (show ObjOk X.prog X.w H s.heap D (.ext fun h => Tab0 X.prog X.w h D L) from I.hok D _ hD).1
/-- D.add(y), y a tuple of keys at b -/
def adT (K : PySem.W.Frag) (P : Program) (w : World) : TAd := fun D y H Nx => ∃ (b : Addr) (k : List Key) (L : List (Addr × List Key)), y = .ref b ∧ H D = some (TupSet P w D L) ∧ SqT K H b (k.map kV) ∧ (∀ p ∈ L, SqT K H p.1 (p.2.map kV)) ∧ L.length + 1 < 64 ∧
  ∀ L', (k ∈ L.map (·.2) → L' = L) → (k ∉ L.map (·.2) → L'.Perm ((b, k) :: L)) → Nx (upd H D (TupSet P w D L'))
theorem adT_ok (hu : X.A.units + 1 < cLine) : AdOk X (adT X.K X.prog X.w) := by
  intro pins σ H s E D y u Nx Q I ry h fin
  obtain ⟨b, k, L, rfl, hD, hb, hL, few, q⟩ := h
  obtain rfl : u = Value.ref b := ry
  have hk := I.isK hb
  obtain ⟨es, ep, t, R⟩ := (I.tset hD).full fun p hp => I.isK (hL p hp)
  obtain ⟨o, ho, hex, hd⟩ := R.ob
  refine wpAny_call_entry F.slot_set_add ⟨o, ho, hex.1⟩ F.entry_set_add ?_ (F.args_set_add_2 _ _)
  unfold Builtin.«set.add» Builtin.Frozenset.oneOther
  simp only [List.isEmpty_nil, bind_assoc]
  unfold Builtin.Frozenset.addrOf setAdd
  refine wpAny_bind (wpAny_pure ?_)
  try dsimp only
  refine wpAny_bind (wpAny_pure ?_)
  try dsimp only
  refine wpAny_bind (wpAny_holding ?_)
  refine wpAny_bind (wpAny_pyHash_tuple (by show X.A.in1.units < cLine; exact hu) hk ?_)
  refine add_ok (s := { s with toks := s.toks + (k.length + 1) }) R hk (by show X.A.in1.units < cLine; exact hu) few fun c h' L' es' ep' t' sb R' hin hout => ?_
  show wpAny _ _ (ret Value.none) _ _ _
  have ⟨o', ho', _⟩ := R'.ob
  exact wpAny_pure ⟨_, rfl, fin _ _ _ (I.write (e := D) (x := D) (t' := s.toks + (k.length + 1)) (by rw [hD]; trivial) (.inl rfl) (fun b' u' hb' hu' => (sb.2 b' hb').trans hu') ⟨o', ho'⟩ (tset_ok (tab_zero R'))) (q L' hin hout)⟩
end
end L2
set_option Elab.async false
set_option linter.all false
set_option maxRecDepth 100000
set_option maxHeartbeats 4000000
/-! Tuples of texts: their order, and sorting by it. -/
namespace TKS
open PySem PySem.Spec PyProof.Rows L2
/-- texts by their code points -/
def slt (x y : Str) : Bool := decide (x.cps.toList < y.cps.toList)
theorem slt_irr (x : Str) : slt x x = false := decide_eq_false (List.lt_irrefl _)
theorem slt_tr {x y z : Str} (h1 : slt x y = true) (h2 : slt y z = true) : slt x z = true := decide_eq_true (List.lt_trans (of_decide_eq_true h1) (of_decide_eq_true h2))
theorem slt_as {x y : Str} (h : slt x y = true) : slt y x = false := decide_eq_false (List.lt_asymm (of_decide_eq_true h))
theorem slt_tri {x y : Str} (h1 : slt x y = false) (h2 : slt y x = false) : x = y := by
  have e : x.cps.toList = y.cps.toList := List.le_antisymm (List.not_lt.mp (of_decide_eq_false h2)) (List.not_lt.mp (of_decide_eq_false h1))
  cases x
  cases y
  congr 1
  exact Array.toList_inj.mp e
/-- tuples of texts, item by item -/
def llt : List Str → List Str → Bool
  | [], [] => false
  | [], _ :: _ => true
  | _ :: _, [] => false
  | x :: xs, y :: ys => if x = y then llt xs ys else slt x y
theorem llt_irr : ∀ x : List Str, llt x x = false
  | [] => rfl
  | x :: xs => by
    show (if x = x then llt xs xs else slt x x) = false
    rw [if_pos rfl]
    exact llt_irr xs
theorem llt_cons {x y : Str} {xs ys : List Str} : llt (x :: xs) (y :: ys) = if x = y then llt xs ys else slt x y := rfl
theorem llt_as : ∀ {x y : List Str}, llt x y = true → llt y x = false
  | [], [], _ => rfl
  | [], _ :: _, _ => rfl
  | _ :: _, [], h => by cases h
  | x :: xs, y :: ys, h => by
    rw [llt_cons] at h ⊢
    by_cases e : x = y
    · rw [if_pos e] at h
      rw [if_pos e.symm]
      exact llt_as h
    · rw [if_neg e] at h
      rw [if_neg (Ne.symm e)]
      exact slt_as h
theorem llt_tri : ∀ {x y : List Str}, llt x y = false → llt y x = false → x = y
  | [], [], _, _ => rfl
  | [], _ :: _, h, _ => by cases h
  | _ :: _, [], _, h => by cases h
  | x :: xs, y :: ys, h1, h2 => by
    rw [llt_cons] at h1 h2
    by_cases e : x = y
    · rw [if_pos e] at h1
      rw [if_pos e.symm] at h2
      rw [e, llt_tri h1 h2]
    · rw [if_neg e] at h1
      rw [if_neg (Ne.symm e)] at h2
      exact absurd (slt_tri h1 h2) e
theorem llt_tr : ∀ {x y z : List Str}, llt x y = true → llt y z = true → llt x z = true
  | [], [], _, h, _ => by cases h
  | _ :: _, [], _, h, _ => by cases h
  | [], _ :: _, [], _, h => by cases h
  | [], _ :: _, _ :: _, _, _ => rfl
  | _ :: _, _ :: _, [], _, h => by cases h
  | x :: xs, y :: ys, z :: zs, h1, h2 => by
    rw [llt_cons] at h1 h2 ⊢
    by_cases e1 : x = y
    · rw [if_pos e1] at h1
      by_cases e2 : y = z
      · rw [if_pos e2] at h2
        rw [if_pos (e1.trans e2)]
        exact llt_tr h1 h2
      · rw [if_neg e2] at h2
        rw [if_neg (by rw [e1]; exact e2), e1]
        exact h2
    · rw [if_neg e1] at h1
      by_cases e2 : y = z
      · rw [if_pos e2] at h2
        rw [if_neg (by rw [← e2]; exact e1), ← e2]
        exact h1
      · rw [if_neg e2] at h2
        have h3 := slt_tr h1 h2
        rw [if_neg (fun e => by rw [e, slt_irr] at h3; cases h3)]
        exact h3
theorem swo_llt (k : Value → List Str) : SrtO.Swo fun v u => llt (k v) (k u) := by
  refine ⟨fun x y h => llt_as h, fun x y z h1 h2 => ?_⟩
  cases h : llt (k z) (k x) with
  | false => rfl
  | true =>
    cases g : llt (k x) (k y) with
    | true =>
      rw [llt_tr h g] at h2
      cases h2
    | false =>
      have e := llt_tri g h1
      rw [e, h2] at h
      cases h
/-- one sorted list alone -/
theorem sorted_uniq {α : Type} {k : α → List Str} : ∀ {l m : List α}, l.Perm m → l.Pairwise (fun x y => llt (k y) (k x) = false) → m.Pairwise (fun x y => llt (k y) (k x) = false) → l.map k = m.map k := by
  intro l m p h1 h2
  have e1 : (l.map k).Pairwise (fun x y => llt y x = false) := List.pairwise_map.mpr h1
  have e2 : (m.map k).Pairwise (fun x y => llt y x = false) := List.pairwise_map.mpr h2
  refine List.Perm.eq_of_pairwise (le := fun x y => llt y x = false) ?_ e1 e2 (p.map k)
  intro a b _ _ g1 g2
  exact llt_tri g2 g1
section
variable {P : Program} {w : World} {A : Around} {E : Value → Shared → Prop} {s : Shared}
theorem lex_txt {b fin : Bool} {Q : Bool → Shared → Prop} : ∀ {ks ls : List Str} {xs ys : List Value} (i : Nat), ItemsAre (mixKind P w) (ks.map Sum.inr) xs → ItemsAre (mixKind P w) (ls.map Sum.inr) ys → fin = decide (ks.length < ls.length) → Q (llt ks ls) s → PySem.W.KatLex P w A b fin Q (xs.zip ys) i s
  | [], [], _, _, _, .nil, .nil, hf, h => by
    rw [hf]
    exact h
  | [], _ :: _, _, _, _, .nil, .cons _ _, hf, h => by
    rw [hf, decide_eq_true (by rw [List.length_cons]; exact Nat.succ_pos _)]
    exact h
  | _ :: _, [], _, _, _, .cons _ _, .nil, hf, h => by
    rw [hf, decide_eq_false (by rw [List.length_nil]; exact Nat.not_lt_zero _)]
    exact h
  | k :: ks, l :: ls, _, _, i, .cons (v := v) (vs := vs) e1 r1, .cons (v := u) (vs := us) e2 r2, hf, h => by
    obtain ⟨t1, rfl⟩ : ∃ t, v = .str k t := by
      rcases keyIs_shape (show keyIs (.inr k) v = true from e1) with ⟨_, _, z, _⟩ | ⟨x, t, z, q⟩
      · cases z
      · cases z
        exact ⟨t, q⟩
    obtain ⟨t2, rfl⟩ : ∃ t, u = .str l t := by
      rcases keyIs_shape (show keyIs (.inr l) u = true from e2) with ⟨_, _, z, _⟩ | ⟨x, t, z, q⟩
      · cases z
      · cases z
        exact ⟨t, q⟩
    show PySem.W.KatLex P w A b fin Q ((.str k t1, .str l t2) :: vs.zip us) i s
    refine PySem.W.kat_cons (eqBool_str ?_)
    refine PySem.W.kat_go (fun z => ?_) (fun z => ?_)
    · have ek : k = l := by simpa using z
      refine PySem.W.kat_yes (lex_txt (i + 1) r1 r2 ?_ ?_)
      · rw [hf, List.length_cons, List.length_cons]
        exact decide_eq_decide.mpr (Nat.succ_lt_succ_iff)
      · rw [llt_cons, if_pos ek] at h
        exact h
    · have ek : ¬ k = l := by simpa using z
      rw [llt_cons, if_neg ek] at h
      refine PySem.W.kat_no ?_
      cases (b && i == 0) with
      | true => exact oneLt_str h
      | false => exact PySem.W.kat_one _ _ (PyProof.Rows.lt_str (Q := PySem.W.BoolBack Q) h)
/-- a tuple of texts, not empty -/
def TxtAt (P : Program) (w : World) (h : Heap) (v : Value) (ks : List Str) : Prop := ∃ b, v = .ref b ∧ IsK P w h (ks.map Sum.inr) b ∧ ks ≠ []
theorem TxtAt.keep {h h' : Heap} {v : Value} {ks : List Str} (x : TxtAt P w h v ks) (kp : ∀ b o, h.get? b = some o → o.cls = .type "tuple" → h'.get? b = some o) : TxtAt P w h' v ks := by
  obtain ⟨b, e, ⟨o, its, n, e1, e2, r⟩, ne⟩ := x
  exact ⟨b, e, ⟨o, its, n, kp b o e1 e2, e2, r⟩, ne⟩
theorem txt_cmp {vs : List Value} {k : Value → List Str} {b : Bool} (hp : ∀ v ∈ vs, TxtAt P w s.heap v (k v)) : SrtO.Cmp P w A s (tuples' b) (fun p => p.1 ∈ vs) (SrtO.lt2 fun v u => llt (k v) (k u)) := by
  intro p q hm hm'
  show wpAny (model P w) A (keyLt' (tuples' b) p.1 q.1) (fun r s' => s' = s ∧ r = llt (k p.1) (k q.1)) (fun _ _ => False) s
  obtain ⟨b1, e1, ⟨o1, i1, n1, ho1, hc1, hd1, r1⟩, _⟩ := hp _ hm
  obtain ⟨b2, e2, ⟨o2, i2, n2, ho2, hc2, hd2, r2⟩, _⟩ := hp _ hm'
  generalize k p.1 = x at r1 ⊢
  generalize k q.1 = y at r2 ⊢
  rw [e1, e2]
  refine PySem.W.kat_lt ho1 hd1 ho2 hd2 (lex_txt 0 r1 r2 ?_ ⟨rfl, rfl⟩)
  have z1 : x.length = i1.size := by simpa using r1.length
  have z2 : y.length = i2.size := by simpa using r2.length
  rw [z1, z2]
theorem txt_firsts {k : Value → List Str} : ∀ {vs : List Value}, (∀ v ∈ vs, TxtAt P w s.heap v (k v)) → ∃ fs, PySem.W.KatTups s.heap vs fs ∧ fs.length = vs.length ∧ ∀ f ∈ fs, ∃ x t, f = Value.str x t
  | [], _ => ⟨[], .nil, rfl, fun f hf => absurd hf List.not_mem_nil⟩
  | v :: vs, h => by
    obtain ⟨fs, h1, h2, h3⟩ := txt_firsts (vs := vs) fun u hu => h u (List.mem_cons_of_mem _ hu)
    obtain ⟨b, rfl, ⟨o, its, n, ho, hc, hd, r⟩, ne⟩ := h v List.mem_cons_self
    generalize k (.ref b) = ks at r ne
    cases ks with
    | nil => exact absurd rfl ne
    | cons x xs =>
      cases hl : its.toList with
      | nil =>
        rw [hl] at r
        cases r
      | cons f r0 =>
        rw [hl] at r
        cases r with
        | cons e r1 =>
          obtain ⟨t1, rfl⟩ : ∃ t, f = .str x t := by
            rcases keyIs_shape (show keyIs (.inr x) f = true from e) with ⟨_, _, z, _⟩ | ⟨x', t, z, q⟩
            · cases z
            · cases z
              exact ⟨t, q⟩
          refine ⟨.str x t1 :: fs, .cons ho hc hd (by rw [← Array.getElem?_toList, hl]; rfl) h1, congrArg Nat.succ h2, fun g hg => ?_⟩
          rcases List.mem_cons.mp hg with z | z
          · exact ⟨x, t1, z⟩
          · exact h3 g z
theorem txt_sortable {a : Addr} {vs : List Value} {k : Value → List Str} (h0 : 0 < vs.length) (hp : ∀ v ∈ vs, TxtAt P w s.heap v (k v)) (ha : ∀ o, s.heap.get? a = some o → o.cls ≠ .type "tuple") : SrtO.SortableO P w A s a vs fun v u => llt (k v) (k u) := by
  intro h' keep
  have hp' : ∀ v ∈ vs, TxtAt P w h' v (k v) := fun v hm => (hp v hm).keep fun b o e c => keep b o (fun z => by subst z; exact ha o e c) e
  obtain ⟨fs, h1, h2, h3⟩ := txt_firsts (s := { s with heap := h' }) hp'
  refine ⟨tuples' true, fun Q E hq => ?_, txt_cmp hp'⟩
  refine PySem.W.kat_kind (T := .type "str") h1 (by omega) (fun f hm => ?_) (by rfl) ?_
  · obtain ⟨x, t, rfl⟩ := h3 f hm
    exact PySem.W.Looks.now
  · have e : (Value.type "str" != Value.type "tuple") = true := by first | decide +kernel | rfl | decide
    rw [e]
    exact hq
end
end TKS
set_option Elab.async false
set_option linter.all false
set_option maxRecDepth 100000
set_option maxHeartbeats 4000000
namespace L2
open PySem PySem.Spec PyProof.Rows PpSet TKS
/-- tuples by their places: each a tuple of texts, not empty -/
def TxtTups (K : PySem.W.Frag) (H : Hp) (M : List (Addr × List Str)) : Prop := ∀ p ∈ M, SqT K H p.1 (p.2.map V.str) ∧ p.2 ≠ []
abbrev refsOf (M : List (Addr × List Str)) : List V := M.map fun p => V.ref p.1
abbrev keysOf (M : List (Addr × List Str)) : List (Addr × List Key) := M.map fun p => (p.1, p.2.map Sum.inr)
def SortedT (M : List (Addr × List Str)) : Prop := M.Pairwise fun x y => llt y.2 x.2 = false
def adr : Value → Addr
  | .ref a => a
  | _ => 0
/-- the texts of the tuple that a value names -/
def keyFn (M : List (Addr × List Str)) (v : Value) : List Str := ((M.find? fun p => decide (p.1 = adr v)).map (·.2)).getD []
theorem map_kv (ks : List Str) : (ks.map (Sum.inr : Str → Key)).map kV = ks.map V.str := by
  rw [List.map_map]
  rfl
theorem refs_vals : ∀ {M : List (Addr × List Str)} {us : List Value}, Vals (refsOf M) us → us = M.map fun p => Value.ref p.1
  | [], _, .nil => rfl
  | p :: M, _, .cons r t => by
    rw [List.map_cons, ← refs_vals t]
    exact congrArg (· :: _) r
theorem valsRefsT : ∀ M : List (Addr × List Str), Vals (refsOf M) (M.map fun p => Value.ref p.1)
  | [] => .nil
  | p :: M => .cons rfl (valsRefsT M)
section
variable {X : Cx} {pins : List (Addr × Obj)} {σ : St} {H : Hp} {s : Shared} {M : List (Addr × List Str)}
theorem Inv.isTx (I : Inv X pins σ H s) {b : Addr} {ks : List Str} (h : SqT X.K H b (ks.map V.str)) : IsK X.prog X.w s.heap (ks.map Sum.inr) b := I.isK (by rw [map_kv]; exact h)
theorem key_at (I : Inv X pins σ H s) (hM : TxtTups X.K H M) {p : Addr × List Str} (hp : p ∈ M) : keyFn M (.ref p.1) = p.2 := by
  unfold keyFn
  cases e : M.find? fun q => decide (q.1 = adr (.ref p.1)) with
  | none =>
    have z := List.find?_eq_none.mp e p hp
    exact absurd (decide_eq_true rfl) z
  | some q =>
    have hq := List.mem_of_find?_eq_some e
    have ea : q.1 = p.1 := of_decide_eq_true (List.find?_some (p := fun q : Addr × List Str => decide (q.1 = adr (.ref p.1))) e)
    have h1 := I.isTx (hM q hq).1
    rw [ea] at h1
    have h2 := I.isTx (hM p hp).1
    have z := h1.inj h2
    show q.2 = p.2
    exact (List.map_inj_right (f := (Sum.inr : Str → Key)) fun _ _ e => Sum.inr.inj e).mp z
theorem key_tup (I : Inv X pins σ H s) (hM : TxtTups X.K H M) {v : Value} (hv : v ∈ M.map fun p => Value.ref p.1) : TxtAt X.prog X.w s.heap v (keyFn M v) := by
  obtain ⟨p, hp, rfl⟩ := List.mem_map.mp hv
  rw [key_at I hM hp]
  exact ⟨p.1, rfl, I.isTx (hM p hp).1, (hM p hp).2⟩
/-- what a sort puts out, as tuples by their places -/
theorem outs_of (I : Inv X pins σ H s) (hM : TxtTups X.K H M) {out : List Value} (pm : out.Perm (M.map fun p => Value.ref p.1)) (sr : SrtO.Srtd (fun v u => llt (keyFn M v) (keyFn M u)) out) :
    ∃ M' : List (Addr × List Str), M'.Perm M ∧ SortedT M' ∧ out = M'.map fun p => Value.ref p.1 := by
  refine ⟨out.map fun v => (adr v, keyFn M v), ?_, ?_, ?_⟩
  · have z := pm.map fun v => (adr v, keyFn M v)
    rw [List.map_map] at z
    have e : M.map ((fun v => (adr v, keyFn M v)) ∘ fun p => Value.ref p.1) = M := by
      refine (List.map_congr_left (g := id) fun p hp => ?_).trans (List.map_id M)
      show (adr (.ref p.1), keyFn M (.ref p.1)) = p
      rw [key_at I hM hp]
      rfl
    rw [e] at z
    exact z
  · exact List.pairwise_map.mpr sr
  · rw [List.map_map]
    refine ((List.map_congr_left (g := id) fun v hv => ?_).trans (List.map_id out)).symm
    obtain ⟨p, hp, rfl⟩ := List.mem_map.mp (pm.mem_iff.mp hv)
    rfl
end
section
variable {X : Cx}
/-- sorted(xs), xs a list of tuples of texts -/
def rSortTL (K : PySem.W.Frag) : List V → Hp → VK → Prop := fun vs H Q => ∃ (a : Addr) (M : List (Addr × List Str)), vs = [V.ref a] ∧ SqL K H a (refsOf M) ∧ TxtTups K H M ∧ ∀ (M' : List (Addr × List Str)) (p : Addr), M'.Perm M → SortedT M' → H p = none → Q (.ref p) (upd H p (.lst (refsOf M')))
theorem cr_sortTL : CallR X (.builtin "sorted") (rSortTL X.K) := by
  intro pins s σ H vs us Q I r h
  obtain ⟨a, M, rfl, hs, hM, q⟩ := h
  obtain ⟨its, rv, hl, hz⟩ := I.list hs
  rw [Vals.ref1 r]
  have ei := refs_vals rv
  have len : its.length = M.length := by rw [ei, List.length_map]
  rw [List.length_map] at hz
  refine SrtO.sorted_ord (swo_llt (keyFn M)) hl.isList (by rw [len]; exact hz) (fun h2 h₁ b e kp => ?_) fun out sr st => ?_
  · refine txt_sortable (by omega) (fun v hv => ?_) fun o ho => ?_
    · rw [ei] at hv
      exact (key_tup I hM hv).keep fun c o ho _ => (kp c o ho).2
    · have z : some o = some (seqObj "list" its.toArray 0) := ho.symm.trans e
      cases z
      exact fun z => absurd (show Value.type "list" = Value.type "tuple" from z) (by decide)
  · have pm := st.perm
    rw [ei] at pm
    obtain ⟨M', g1, g2, g3⟩ := outs_of I hM pm sr
    obtain ⟨ep, he⟩ := sortedAll_at s.heap its out.toArray
    refine ⟨.ref _, upd H (s.heap.objs.size + 1) (.lst (refsOf M')), I.laid (t' := s.toks) (fun _ _ => sortedAll_old) (Nat.le_succ _) ⟨by rw [List.length_map, g1.length_eq]; exact hz, out, ep, by rw [g3]; exact valsRefsT M', he⟩, rfl, q M' _ g1 g2 (I.hok.fresh (Nat.le_succ _))⟩
/-- sorted(xs), xs a set of tuples of texts -/
def rSortTS (K : PySem.W.Frag) (P : Program) (w : World) : List V → Hp → VK → Prop := fun vs H Q => ∃ (a : Addr) (M : List (Addr × List Str)), vs = [V.ref a] ∧ H a = some (TupSet P w a (keysOf M)) ∧ TxtTups K H M ∧ ∀ (M' : List (Addr × List Str)) (p : Addr), M'.Perm M → SortedT M' → H p = none → Q (.ref p) (upd H p (.lst (refsOf M')))
theorem cr_sortTS (hc : X.calm = true) : CallR X (.builtin "sorted") (rSortTS X.K X.prog X.w) := by
  intro pins s σ H vs us Q I r h
  obtain ⟨a, M, rfl, ha, hM, q⟩ := h
  rw [Vals.ref1 r]
  obtain ⟨es, ep, t, R⟩ := (I.tset ha).full fun p hp => by
    obtain ⟨p0, hp0, rfl⟩ := List.mem_map.mp hp
    exact I.isTx (hM p0 hp0).1
  obtain ⟨o, ho, hex, hd⟩ := R.ob
  have hz := size_of R.rows
  have few := R.few
  rw [List.length_map] at hz few
  have er : es.toList.map (·.2) = M.map fun p => Value.ref p.1 := by
    rw [R.rows]
    unfold rowsK
    rw [List.map_map, List.map_map]
    rfl
  have hh : X.A.in1.handled = none := I.ok.hd hc
  refine Calls.call_function_entry kind_sorted plain_sorted entry_sorted (args_sorted1 _) ?_
  unfold Builtin.«sorted»
  refine wpAny_bind (m := checkCount "sorted" 1 1 _) (wpAny_pure ?_)
  refine wpAny_bind (collect_set (A := X.A.in1) hh ⟨o, ho, hex.1, hd⟩ R.fit (by unfold scanBound; omega) R.tab.ris R.led fun s1 vs k1 z1 g1 o1 pm => ?_)
  rw [er] at pm
  have lv : vs.length = M.length := by rw [pm.length_eq, List.length_map]
  refine wpAny_bind (wpAny_newList ?_ (by rw [sizeLine_eq]; omega))
  have hoL : (s1.heap.push (seqObj "list" vs.toArray 0)).get? s1.heap.objs.size = some (seqObj "list" vs.toArray 0) := Heap.get?_push_size _ rfl
  have kp : ∀ b u, s.heap.get? b = some u → (s1.heap.push (seqObj "list" vs.toArray 0)).get? b = some u := fun b u e => Heap.get?_push_of_some _ (k1 b u e)
  refine wpAny_bind (wpAny_holding (wpAny_call_entry slot_list_sort ⟨_, hoL, rfl⟩ entry_list_sort (SrtO.list_sort_ord (s := { s1 with heap := s1.heap.push (seqObj "list" vs.toArray 0) }) (swo_llt (keyFn M)) hoL (by rw [sizeLine_eq]; omega) (fun h2 => ?_) fun out sr st => ⟨_, rfl, ?_⟩) (args_list_sort _)))
  · refine txt_sortable (by omega) (fun v hv => (key_tup I hM (pm.mem_iff.mp hv)).keep fun c o ho _ => kp c o ho) fun o ho => ?_
    have z : some o = some (seqObj "list" vs.toArray 0) := ho.symm.trans hoL
    cases z
    exact fun z => absurd (show Value.type "list" = Value.type "tuple" from z) (by decide)
  · obtain ⟨c, hcc⟩ := sortedHeap_at (vs := vs) (out := out.toArray) hoL
    obtain ⟨M', m1, m2, m3⟩ := outs_of I hM (st.perm.trans pm) sr
    refine wpAny_pure ⟨_, rfl, ?_⟩
    have fresh : H s1.heap.objs.size = none := I.hok.fresh z1
    have old : ∀ b u, s.heap.get? b = some u → (sortedHeap (s1.heap.push (seqObj "list" vs.toArray 0)) s1.heap.objs.size vs out.toArray).get? b = some u := fun b u e => by
      have lt := Heap.lt_size (k1 b u e)
      rw [sortedHeap_old (Nat.ne_of_lt lt) (by rw [size_push']; exact Nat.lt_succ_of_lt lt)]
      exact kp b u e
    have J : Inv X pins σ (upd H s1.heap.objs.size (.lst (refsOf M'))) ⟨sortedHeap (s1.heap.push (seqObj "list" vs.toArray 0)) s1.heap.objs.size vs out.toArray, s1.gens, s1.drawn, s1.toks, s1.os⟩ := by
      refine I.call' (ch := []) o1 (Un.laid old z1 fresh) (I.hok.laid old z1 ⟨by rw [List.length_map, m1.length_eq, sizeLine_eq]; omega, out, c, by rw [m3]; exact valsRefsT M', hcc⟩) ?_ fun _ z => nomatch z
      rw [g1]
      exact I.bare
    exact ⟨.ref _, _, J, rfl, q M' _ m1 m2 fresh⟩
end
end L2
set_option Elab.async false
set_option linter.all false
set_option maxRecDepth 100000
set_option maxHeartbeats 4000000
/-! Sets of texts: added to one by one, made of a list, sorted. -/
namespace TKS
open PySem PySem.Spec PyProof.Rows L2
section
variable {P : Program} {w : World} {A : Around} {E : Value → Shared → Prop} {s : Shared}
/-- a row of the table: the text x, its hash -/
def RowT (P : Program) (w : World) (e : Int × Value) (x : Str) : Prop := ∃ t, e.2 = Value.str x t ∧ e.1 = (mixKind P w).hash (.inr x)
theorem paired_perm {α β : Type} {R : α → β → Prop} : ∀ {l l' : List α}, l'.Perm l → ∀ {m : List β}, Paired R l m → ∃ m', m'.Perm m ∧ Paired R l' m' := by
  intro l l' p
  induction p with
  | nil =>
    intro m h
    cases h
    exact ⟨[], .refl _, .nil⟩
  | cons x _ ih =>
    intro m h
    cases h with
    | cons a t =>
      obtain ⟨m', p', h'⟩ := ih t
      exact ⟨_ :: m', p'.cons _, .cons a h'⟩
  | swap x y l =>
    intro m h
    cases h with
    | cons a t =>
      cases t with
      | cons b t => exact ⟨_ :: _ :: _, .swap _ _ _, .cons b (.cons a t)⟩
  | trans p1 p2 ih1 ih2 =>
    intro m h
    obtain ⟨m1, q1, h1⟩ := ih2 h
    obtain ⟨m2, q2, h2⟩ := ih1 h1
    exact ⟨m2, q2.trans q1, h2⟩
theorem paired_mem {α β : Type} {R : α → β → Prop} : ∀ {l : List α} {m : List β}, Paired R l m → ∀ {x : α}, x ∈ l → ∃ y, y ∈ m ∧ R x y
  | _, _, .cons a t, x, h => by
    rcases List.mem_cons.mp h with z | z
    · exact ⟨_, List.mem_cons_self, by rw [z]; exact a⟩
    · obtain ⟨y, h1, h2⟩ := paired_mem t z
      exact ⟨y, List.mem_cons_of_mem _ h1, h2⟩
theorem paired_mem2 {α β : Type} {R : α → β → Prop} : ∀ {l : List α} {m : List β}, Paired R l m → ∀ {y : β}, y ∈ m → ∃ x, x ∈ l ∧ R x y
  | _, _, .cons a t, x, h => by
    rcases List.mem_cons.mp h with z | z
    · exact ⟨_, List.mem_cons_self, by rw [z]; exact a⟩
    · obtain ⟨y, h1, h2⟩ := paired_mem2 t z
      exact ⟨y, List.mem_cons_of_mem _ h1, h2⟩
/-- the set of the texts D (in some order) at a -/
def TxtSet0 (P : Program) (w : World) (h : Heap) (a : Addr) (D : List Str) : Prop := ∃ o es ep t D', h.get? a = some o ∧ o.ExactSet ∧ o.data = .set es ep t ∧ Paired (RowT P w) es.toList D' ∧ D'.Perm D ∧ D.Nodup ∧ es.size < scanBound ∧ t.fits es.size = true ∧ Ris t.place.toList ∧ (w.params.followText "set-order" = true ∨ t.led = true)
theorem TxtSet0.keep {h h' : Heap} {a : Addr} {D : List Str} (R : TxtSet0 P w h a D) (k : ∀ o, h.get? a = some o → h'.get? a = some o) : TxtSet0 P w h' a D := by
  obtain ⟨o, es, ep, t, D', e, r⟩ := R
  exact ⟨o, es, ep, t, D', k o e, r⟩
theorem txt_fresh {h : Heap} {a : Addr} (e : h.get? a = some (newSetObj w)) : TxtSet0 P w h a [] :=
  ⟨_, #[], 0, _, [], e, ⟨rfl, rfl, rfl⟩, rfl, .nil, .refl _, List.nodup_nil, by decide, by rfl, List.Pairwise.nil, by
    show _ ∨ (!w.params.followText "set-order") = true
    cases w.params.followText "set-order"
    · exact .inr rfl
    · exact .inl rfl⟩
theorem row_elems {l : List (Int × Value)} {D : List Str} (g : Paired (RowT P w) l D) : ElemsOf (mixKind P w) l := fun e he => by
  obtain ⟨x, _, t, h1, h2⟩ := paired_mem g he
  rw [h1]
  exact ⟨⟨.inr x, keyIs_str x t, h2⟩, rfl⟩
theorem row_find {l : List (Int × Value)} {D : List Str} (g : Paired (RowT P w) l D) (x : Str) : (l.findIdx? fun e => (mixKind P w).is (.inr x) e.2).isSome = true ↔ x ∈ D := by
  rw [List.findIdx?_isSome, List.any_eq_true]
  constructor
  · rintro ⟨e, he, q⟩
    obtain ⟨y, hy, t, h1, _⟩ := paired_mem g he
    rw [h1] at q
    rcases keyIs_shape (show keyIs (.inr x) (.str y t) = true from q) with ⟨_, _, z, _⟩ | ⟨x', t', z, z2⟩
    · cases z
    · cases z
      cases z2
      exact hy
  · intro hx
    obtain ⟨e, he, t, h1, _⟩ := paired_mem2 g hx
    exact ⟨e, he, by rw [h1]; exact keyIs_str x t⟩
/-- adding one text -/
theorem txt_add {a : Addr} {D : List Str} {x : Str} {tk : Tok} {Q : Bool → Shared → Prop} (R : TxtSet0 P w s.heap a D) (room : D.length + 1 < scanBound)
    (q : ∀ b h', Heap.SameBut a s.heap h' → TxtSet0 P w h' a (if x ∈ D then D else x :: D) → Q b { s with heap := h', toks := s.toks + 1 }) : wpAny (model P w) A (setAdd a (.str x tk)) Q E s := by
  unfold setAdd
  refine wpAny_holding (wpAny_bind ((mixKind P w).pyHash (mixKind_str P w x tk) ?_))
  obtain ⟨o, es, ep, t, D', ho, hex, hd, g, pD, nd, hb, hf, hr, hl⟩ := R
  have hsc : (Value.str x tk).scannable = true := rfl
  have hel := row_elems g
  have found := row_find g x
  have hz : es.size = D.length := by rw [← Array.length_toList, Paired.length g, pD.length_eq]
  unfold setAddHashed
  refine wpAny_holding ?_
  rw [show (100000 : Nat) = 99999 + 1 from rfl, setAddHashedIn_succ]
  refine wpAny_bind (wpAny_setState_of (s := { s with toks := s.toks + 1 }) ho hd hf ?_)
  dsimp only
  refine wp_if_pos (byScan_of hsc hb hel) ?_
  unfold setAddByScan
  refine wpAny_bind (wpAny_bind (wpAny_rule (wpAny_bind (wpAny_setScan_of (s := { s with toks := s.toks + 1 }) (mixKind_str P w x tk) ho hd hf hel ?_))))
  cases hfi : List.findIdx? (fun e => (mixKind P w).is (.inr x) e.2) es.toList with
  | some j =>
    dsimp only
    have hm : x ∈ D := pD.mem_iff.mp (found.mp (by rw [hfi]; rfl))
    refine wpAny_pure (wpAny_pure (q false s.heap (Heap.SameBut.refl a s.heap) ?_))
    rw [if_pos hm]
    exact ⟨o, es, ep, t, D', ho, hex, hd, g, pD, nd, hb, hf, hr, hl⟩
  | none =>
    dsimp only
    have hm : x ∉ D := fun z => by
      have := found.mpr (pD.mem_iff.mpr z)
      rw [hfi] at this
      cases this
    have gw : ∀ (b : Bool) {s₁ : Shared} {Q' : Unit → Shared → Prop}, Q' () s₁ → wpAny (model P w) A (match b with | true => rule "set.scan.the-table-gave-way" | false => pure ()) Q' E s₁ := fun b s₁ Q' q => by cases b <;> first | exact wpAny_pure q | exact wpAny_rule q
    have p1 := layNew_perm t es ((mixKind P w).hash (.inr x)) (.str x tk)
    have f1 := layNew_fits t es ((mixKind P w).hash (.inr x)) (.str x tk)
    have r1 := layNew_ris t es ((mixKind P w).hash (.inr x)) (.str x tk) hr
    have l1 := layNew_led t es ((mixKind P w).hash (.inr x)) (.str x tk)
    generalize layNew t es ((mixKind P w).hash (.inr x)) (.str x tk) = Z at p1 f1 r1 l1 ⊢
    obtain ⟨es1, t1, wd, gave⟩ := Z
    dsimp only at p1 f1 r1 l1 ⊢
    rw [Array.toList_push] at p1
    obtain ⟨D1, pD1, g1⟩ := paired_perm (p1.trans (List.perm_append_singleton _ _)) (Paired.cons (F := RowT P w) (a := ((mixKind P w).hash (.inr x), Value.str x tk)) (b := x) ⟨tk, rfl, rfl⟩ g)
    have pD2 : D1.Perm (x :: D) := pD1.trans (pD.cons x)
    have nd1 : (x :: D).Nodup := List.nodup_cons.mpr ⟨hm, nd⟩
    have z1 : es1.size = D.length + 1 := by rw [← Array.length_toList, Paired.length g1, pD2.length_eq, List.length_cons]
    have b1 : es1.size < scanBound := by rw [z1]; exact room
    have led1 : w.params.followText "set-order" = true ∨ t1.led = true := hl.imp id fun z => by rw [l1]; exact z
    -- the end, for a table that fits, rises, is led
    have tail : ∀ t2 : SetTable, t2.fits es1.size = true → Ris t2.place.toList → (w.params.followText "set-order" = true ∨ t2.led = true) →
        wpAny (model P w) A (do
          storeSet a es1 t2
          if (!wd && t2.tooFull) = true then do
              (match (relayAll t2 es1 (SetTable.grown es1.size)).2.2 with | true => rule "set.scan.the-table-gave-way" | false => pure ())
              storeSet a (relayAll t2 es1 (SetTable.grown es1.size)).1 (relayAll t2 es1 (SetTable.grown es1.size)).2.1
              pure (some true)
            else pure (some true)) (fun r s' => ∃ b h', r = some b ∧ s' = { s with heap := h', toks := s.toks + 1 } ∧ Heap.SameBut a s.heap h' ∧ TxtSet0 P w h' a (x :: D)) E { s with toks := s.toks + 1 } := by
      intro t2 f2 r2 l2
      refine wpAny_bind (wpAny_storeSet_of (s := { s with toks := s.toks + 1 }) ho hd ?_ (fits_of_scanBound b1))
      have ho1 := store_at (es' := es1) (t' := t2) ho hd
      have sb1 := Heap.SameBut.update s.heap a (Obj.putSet es1 t2)
      split
      · have pm := relayAll_perm t2 es1 (SetTable.grown es1.size)
        have f3 := relayAll_fits t2 es1 (SetTable.grown es1.size)
        have r3 := relayAll_ris t2 es1 (SetTable.grown es1.size)
        have l3 := relayAll_led t2 es1 (SetTable.grown es1.size)
        generalize relayAll t2 es1 (SetTable.grown es1.size) = Z at pm f3 r3 l3 ⊢
        obtain ⟨es2, t3, gave2⟩ := Z
        dsimp only at pm f3 r3 l3 ⊢
        obtain ⟨D2, pD3, g2⟩ := paired_perm pm g1
        have z2 : es2.size = es1.size := by rw [← Array.length_toList, pm.length_eq, Array.length_toList]
        refine wpAny_bind (gw _ ?_)
        refine wpAny_bind (wpAny_storeSet_of ho1 rfl ?_ (fits_of_scanBound (by rw [z2]; exact b1)))
        have ho2 := store_at (es' := es2) (t' := t3) ho1 rfl
        exact wpAny_pure ⟨true, _, rfl, rfl, sb1.trans (Heap.SameBut.update _ a _), ⟨_, es2, _, t3, D2, ho2, hex, rfl, g2, pD3.trans pD2, nd1, by rw [z2]; exact b1, f3, r3, l2.imp id fun z => by rw [l3]; exact z⟩⟩
      · exact wpAny_pure ⟨true, _, rfl, rfl, sb1, ⟨_, es1, _, t2, D1, ho1, hex, rfl, g1, pD2, nd1, b1, f2, r2, l2⟩⟩
    have fin : ∀ (r : Option Bool) s', (∃ b h', r = some b ∧ s' = { s with heap := h', toks := s.toks + 1 } ∧ Heap.SameBut a s.heap h' ∧ TxtSet0 P w h' a (x :: D)) → wpAny (model P w) A (match r with | some added => pure added | none => setAddHashedIn a (.str x tk) ((mixKind P w).hash (.inr x)) 99999) Q E s' := by
      rintro r s' ⟨b, h', rfl, rfl, sb, R'⟩
      dsimp only
      refine wpAny_pure (q b h' sb ?_)
      rw [if_neg hm]
      exact R'
    refine wpAny_bind (gw _ ?_)
    split
    · refine wpAny_bind ?_
      rw [hashByValue_scannable 8 hsc]
      refine wpAny_pure ?_
      refine wpAny_mono (tail _ ?_ ?_ ?_) (fun r s' z => fin r s' z) fun _ _ z => z
      · first | (split <;> first | exact f1 | exact SetTable.fits_plain_off f1) | exact f1
      · first | (split <;> exact r1) | exact r1
      · first | (split <;> exact led1) | exact led1
    · refine wpAny_bind (wpAny_pure ?_)
      simp only [↓reduceIte]
      exact wpAny_mono (tail _ f1 r1 led1) (fun r s' z => fin r s' z) fun _ _ z => z
end
end TKS
set_option Elab.async false
set_option linter.all false
set_option maxRecDepth 100000
set_option maxHeartbeats 4000000
namespace TKS
open PySem PySem.Spec PyProof.Rows L2
section
variable {P : Program} {w : World} {A : Around} {E : Value → Shared → Prop} {s : Shared}
/-- what is kept of the set at S behind i items, and how one more is added -/
structure Adds (P : Program) (w : World) (A : Around) (S : Addr) (items : Array Value) (h0 : Heap) (Sd : Nat → Heap → Prop) : Prop where
  keep : ∀ i h h', Sd i h → (∀ o, h.get? S = some o → h'.get? S = some o) → Sd i h'
  add : ∀ (i : Nat) (v : Value) (s : Shared) (E : Value → Shared → Prop) (Q : Bool → Shared → Prop), items[i]? = some v → (∀ b o, h0.get? b = some o → s.heap.get? b = some o) → Sd i s.heap →
    (∀ b h' tk, s.toks ≤ tk → Heap.SameBut S s.heap h' → Sd (i + 1) h' → Q b { s with heap := h', toks := tk }) → wpAny (model P w) A.in1 (setAdd S v) Q E s
theorem upd_loop {I S : Addr} {fp wr : List Addr} {G : Array GenState → Array GenState → Prop} {items : Array Value} {h0 : Heap} {Sd : Nat → Heap → Prop} {St : Nat → Shared → Prop} {R : Result → Shared → Prop} {Pv : Nat → Value → Prop}
    (W : WalksS P w A.in1 I fp wr G items.size Pv St) (hSf : S ∉ fp) (hP : ∀ i v, Pv i v → items[i]? = some v) (D : Adds P w A S items h0 Sd) (hS0 : h0.get? S = none) (hw0 : ∀ b ∈ wr, h0.get? b = none) :
    ∀ (k i : Nat) (s : Shared), items.size - i = k → i ≤ items.size → St i s → (∀ b o, h0.get? b = some o → s.heap.get? b = some o) → Sd i s.heap →
      (∀ s', Moved (S :: wr) G s s' → Sd items.size s'.heap → (∀ b o, h0.get? b = some o → s'.heap.get? b = some o) → R (.ok (.ret .none)) s') →
      codeAny (model P w) A (.builtin "set.update.loop" ⟨[.ref S, .ref I], []⟩) R s := by
  have notW : S ∉ wr := fun h => hSf (W.sub _ h)
  have up : ∀ b ∈ wr, b ∈ S :: wr := fun b hb => List.mem_cons_of_mem _ hb
  have kept : ∀ {s s' : Shared}, Moved wr G s s' → (∀ b o, h0.get? b = some o → s.heap.get? b = some o) → ∀ b o, h0.get? b = some o → s'.heap.get? b = some o := fun hm kp b o e =>
    hm.heap b o (fun hb => by rw [hw0 b hb] at e; cases e) (kp b o e)
  intro k
  induction k with
  | zero =>
    intro i s hk hi st kp sd fin
    obtain rfl : i = items.size := by omega
    refine codeAny_builtin F.entry_set_update_loop ?_
    rw [Around.under_plainId F.plain_set_update_loop _]
    show wpAny _ A.in1 (pyNext (.ref I) >>= _) _ _ s
    refine wpAny_bind (W.done s _ _ st fun s' hm => ?_)
    exact wpAny_pure (fin s' (hm.mono up) (D.keep _ _ _ sd fun o e => hm.heap S o notW e) (kept hm kp))
  | succ k ih =>
    intro i s hk hi st kp sd fin
    have lt : i < items.size := by omega
    refine codeAny_builtin F.entry_set_update_loop ?_
    rw [Around.under_plainId F.plain_set_update_loop _]
    show wpAny _ A.in1 (pyNext (.ref I) >>= _) _ _ s
    refine wpAny_bind (W.item i s _ _ lt st fun v s' pv st' hm => ?_)
    have kp' := kept hm kp
    have sd' := D.keep _ _ s'.heap sd fun o e => hm.heap S o notW e
    show wpAny _ A.in1 (holding [v] (setAdd S v) >>= _) _ _ s'
    refine wpAny_bind (wpAny_holding (D.add i v s' _ _ (hP i v pv) kp' sd' fun b h' tk le sb sd2 => ?_))
    have kp2 : ∀ b o, h0.get? b = some o → h'.get? b = some o := fun b o e => (sb.2 b (fun z => by rw [z, hS0] at e; cases e)).trans (kp' b o e)
    refine wpAny_pure ⟨plainId_quiet F.plain_set_update_loop _, ih (i + 1) _ (by omega) lt (W.frame _ s' _ _ st' le fun b hb o e => ?_) kp2 sd2 fun s'' hm2 sd3 kp3 => ?_⟩
    · rw [sb.2 b (fun h : b = S => hSf (by rw [← h]; exact hb))]
      exact e
    · refine fin s'' (Moved.trans W.gtrans ((hm.mono up).then_heap le fun b o hb e => ?_) hm2) sd3 kp3
      rw [sb.2 b (fun h : b = S => hb (by rw [h]; exact List.mem_cons_self))]
      exact e
/-- set(l), l a list -/
theorem set_of_list {l : Addr} {items : Array Value} {Sd : Nat → Heap → Prop} {Q : Value → Shared → Prop} (hh : A.handled = none) (hl : s.heap.IsList l items)
    (D : Adds P w A.in1.in1 s.heap.objs.size items s.heap Sd) (h0 : ∀ h, h.get? s.heap.objs.size = some (newSetObj w) → Sd 0 h)
    (q : ∀ (h' : Heap) (tk : Nat), Sd items.size h' → (∀ b o, s.heap.get? b = some o → h'.get? b = some o) → Q (.ref s.heap.objs.size) { s with heap := h', toks := tk }) :
    wpAny (model P w) A (call (.type "set") [.ref l]) Q E s := by
  obtain ⟨c, tl, hmro⟩ := F.called_set.mro
  have hmade := F.called_set.made
  have hsub := F.called_set.sub
  refine wpAny_call (codeAny_of_tree ?_)
  show wpAny _ _ (callAny (.type "set") _) _ _ _
  refine wpAny_pure ⟨Code.quiet_builtin _ (by decide +kernel), codeAny_builtin F.entry_type_call ?_⟩
  rw [Around.under_plain (weight_type_call_type "set" [.ref l] []) rfl]
  have g1 := F.called_set.notType
  have g2 := F.called_set.canCreate
  have g3 := F.typeCall_set_1 (.ref l)
  repeat (any_goals (first | assumption | wp_step))
  generalize hS : s.heap.objs.size = S at D h0 q
  have fresh : (s.heap.push (newSetObj w)).get? S = some (newSetObj w) := by rw [← hS]; exact Heap.get?_push_size _ rfl
  refine codeAny_mono (code_set_led1 (.ref l) (E := E) (Q₁ := fun obj s₁ => obj = .ref S ∧ s₁ = { s with heap := s.heap.push (newSetObj w) }) ⟨by rw [hS], rfl⟩) fun r s₁ hr => ?_
  cases r with
  | error e => exact hr
  | ok fl =>
    cases fl with
    | ret obj =>
      obtain ⟨rfl, rfl⟩ := hr
      have hT : Shared.TypeIs { s with heap := s.heap.push (newSetObj w) } (.ref S) "set" := ⟨_, fresh, rfl⟩
      have g4 := F.called_set.init.lookup
      have g5 := F.called_set.init.bind (.ref S)
      repeat (any_goals (first | assumption | wp_step))
      refine codeAny_mono (codeAny_call_builtin (R := wants (fun r s₂ => r = .none ∧ ∃ h' tk, s₂ = { s with heap := h', toks := tk } ∧ Sd items.size h' ∧ (∀ b o, s.heap.get? b = some o → h'.get? b = some o)) E) F.called_set.init.plain F.entry_set_init (check_set_init_1 hT ?_)) fun r₂ s₂ hr₂ => ?_
      · obtain ⟨⟨ocls, odict, odata, oslots⟩, hol, hcl, nl, hdl⟩ := hl
        simp only at hcl hdl
        subst hcl hdl
        have hol' : (s.heap.push (newSetObj w)).get? l = some { cls := .type "list", dict := odict, data := .seq items nl, slots := oslots } := Heap.get?_push_of_some _ hol
        have hsls := F.sub_list_set
        have hslf := F.sub_list_frozenset
        have hne : (Value.type "list" == Value.type "dict") = false := by decide
        have hl1 : (s.heap.push (newSetObj w)).IsList l items := ⟨_, hol', rfl, nl, rfl⟩
        unfold Builtin.«set.__init__» noKeywords Builtin.Frozenset.updateFrom
        generalize hPI : pyIter = PI
        wp_walk
        subst hPI
        refine wpAny_pyIter_list hl1 (wpAny_bind (wpAny_runValue ?_))
        have lS : l < S := by rw [← hS]; exact Heap.lt_size hol
        have hh3 : A.in1.in1.in1.handled = none := by simp [hh]
        have zP : (s.heap.push (newSetObj w)).objs.size = S + 1 := by rw [Heap.size_push, hS]
        have neI : l ≠ (s.heap.push (newSetObj w)).objs.size := by rw [zP]; exact Nat.ne_of_lt (Nat.lt_succ_of_lt lS)
        have notF : S ∉ [(s.heap.push (newSetObj w)).objs.size, l] := by
          rw [zP]
          simp only [List.mem_cons, List.mem_singleton, List.not_mem_nil, or_false, not_or]
          exact ⟨Nat.ne_of_lt (Nat.lt_succ_self S), Nat.ne_of_gt lS⟩
        have gone : ∀ b, S ≤ b → s.heap.get? b = none := fun b hb => by
          cases z : s.heap.get? b with
          | none => rfl
          | some o =>
            exact absurd (Nat.lt_of_lt_of_le (Heap.lt_size z) (by rw [hS]; exact hb)) (Nat.lt_irrefl _)
        refine upd_loop ((Walks.list hh3 _ l neI items).toS) notF (fun i v hv => hv) D (gone S (Nat.le_refl _)) (fun b hb => gone b (by rw [List.mem_singleton.mp hb, zP]; exact Nat.le_succ S)) (items.size - 0) 0 _ (by omega) (Nat.zero_le _)
          ⟨⟨_, Heap.get?_push_size _ rfl, rfl, rfl⟩, hl1.push _⟩ (fun b o e => Heap.get?_push_of_some _ (Heap.get?_push_of_some _ e)) (h0 _ (Heap.get?_push_of_some _ fresh)) ?_
        intro s' hm sd kp
        obtain ⟨h', ge, dr, tk', os'⟩ := s'
        obtain rfl : ge = s.gens := hm.gens
        obtain rfl : dr = s.drawn := hm.drawn
        obtain rfl : os' = s.os := hm.os
        show wpAny _ _ _ _ _ _
        refine wpAny_pure ?_
        show wpAny _ _ (ret Value.none) _ _ _
        exact wpAny_pure ⟨rfl, h', tk', rfl, sd, kp⟩
      · cases r₂ with
        | error e => exact hr₂
        | ok fl₂ =>
          cases fl₂ with
          | ret r =>
            obtain ⟨rfl, h', tk, rfl, sd, kp⟩ := hr₂
            repeat (any_goals (first | assumption | wp_step))
            exact q _ _ sd kp
          | _ => exact hr₂.elim
    | _ => exact hr.elim
end
end TKS
set_option Elab.async false
set_option linter.all false
set_option maxRecDepth 100000
set_option maxHeartbeats 4000000
namespace L2
open PySem PySem.Spec PyProof.Rows PpSet TKS
def TxtSet (P : Program) (w : World) (a : Addr) (D : List Str) : HO := .ext fun h => TxtSet0 P w h a D
theorem txtset_ok {P : Program} {w : World} {H : Hp} {h : Heap} {a : Addr} {D : List Str} (R : TxtSet0 P w h a D) : ObjOk P w H h a (TxtSet P w a D) := by
  have ⟨o, _, _, _, _, e, _⟩ := R
  exact ⟨R, ⟨o, e⟩, fun h1 h2 p k => p.keep k⟩
/-- behind some of the texts xs: all of them, each once -/
def setL (D : List Str) : List Str → List Str
  | [] => D
  | x :: xs => setL (if x ∈ D then D else x :: D) xs
theorem setL_app : ∀ (xs ys D : List Str), setL D (xs ++ ys) = setL (setL D xs) ys
  | [], _, _ => rfl
  | _ :: xs, ys, D => setL_app xs ys _
theorem setL_mem : ∀ (xs D : List Str) (y : Str), y ∈ setL D xs ↔ y ∈ D ∨ y ∈ xs
  | [], D, y => by
    show y ∈ D ↔ y ∈ D ∨ y ∈ []
    simp
  | x :: xs, D, y => by
    show y ∈ setL _ xs ↔ _
    rw [setL_mem xs]
    split
    · rename_i h
      constructor
      · rintro (z | z)
        · exact .inl z
        · exact .inr (List.mem_cons_of_mem _ z)
      · rintro (z | z)
        · exact .inl z
        · rcases List.mem_cons.mp z with e | e
          · rw [e]
            exact .inl h
          · exact .inr e
    · rw [List.mem_cons, List.mem_cons]
      constructor
      · rintro ((z | z) | z)
        · exact .inr (.inl z)
        · exact .inl z
        · exact .inr (.inr z)
      · rintro (z | z | z)
        · exact .inl (.inr z)
        · exact .inl (.inl z)
        · exact .inr z
theorem setL_nd : ∀ (xs D : List Str), D.Nodup → (setL D xs).Nodup
  | [], _, h => h
  | x :: xs, D, h => by
    refine setL_nd xs _ ?_
    split
    · exact h
    · rename_i n
      exact List.nodup_cons.mpr ⟨n, h⟩
theorem setL_len : ∀ (xs D : List Str), (setL D xs).length ≤ D.length + xs.length
  | [], D => Nat.le_refl _
  | x :: xs, D => by
    have := setL_len xs (if x ∈ D then D else x :: D)
    have h2 : (if x ∈ D then D else x :: D).length ≤ D.length + 1 := by split <;> simp
    show (setL _ xs).length ≤ D.length + (xs.length + 1)
    omega
section
variable {X : Cx}
/-- set(xs), xs a list of texts -/
def rSetTx (K : PySem.W.Frag) (P : Program) (w : World) : List V → Hp → VK → Prop := fun vs H Q => ∃ (l : Addr) (xs : List Str), vs = [V.ref l] ∧ SqL K H l (xs.map V.str) ∧ xs.length ≤ 1000 ∧ ∀ (D : List Str) (p : Addr), D.Nodup → (∀ y, y ∈ D ↔ y ∈ xs) → D.length ≤ xs.length → H p = none → Q (.ref p) (upd H p (TxtSet P w p D))
theorem cr_setTx (hc : X.calm = true) : CallR X (.type "set") (rSetTx X.K X.prog X.w) := by
  intro pins s σ H vs us Q I r h
  obtain ⟨l, xs, rfl, hs, hx, q⟩ := h
  obtain ⟨its, rv, hl, _⟩ := I.list hs
  rw [Vals.ref1 r]
  have len : its.length = xs.length := by rw [← rv.length, List.length_map]
  have at_ : ∀ (i : Nat) (v : Value), its.toArray[i]? = some v → ∃ x t, xs[i]? = some x ∧ v = .str x t := fun i v e => by
    have e1 : its[i]? = some v := by simpa using e
    have lt : i < (xs.map V.str).length := by
      rw [rv.length]
      exact (List.getElem?_eq_some_iff.mp e1).1
    obtain ⟨u, e2, ru⟩ := rv.get (List.getElem?_eq_getElem lt)
    rw [e1] at e2
    cases e2
    rw [List.getElem_map] at ru
    obtain ⟨t, rfl⟩ := ru
    rw [List.length_map] at lt
    exact ⟨_, t, List.getElem?_eq_getElem lt, rfl⟩
  have D : Adds X.prog X.w X.A.in1.in1 s.heap.objs.size its.toArray s.heap (fun i h => TxtSet0 X.prog X.w h s.heap.objs.size (setL [] (xs.take i))) := by
    refine ⟨fun i h h' R k => R.keep k, fun i v s' E Q e kp R fin => ?_⟩
    obtain ⟨x, t, hx2, rfl⟩ := at_ i v e
    have room : (setL [] (xs.take i)).length + 1 < scanBound := by
      have := setL_len (xs.take i) []
      have h2 : (xs.take i).length ≤ xs.length := by rw [List.length_take]; exact Nat.min_le_right _ _
      unfold scanBound
      simp only [List.length_nil] at this
      omega
    refine txt_add R room fun b h' sb R' => fin b h' _ (Nat.le_succ _) sb ?_
    have e3 : xs.take (i + 1) = xs.take i ++ [x] := by
      rw [List.take_add_one, hx2]
      rfl
    rw [e3, setL_app]
    exact R'
  refine set_of_list (I.ok.hd hc) hl.isList D (fun h e => txt_fresh e) fun h' tk R kp => ?_
  have ez : xs.take its.toArray.size = xs := List.take_of_length_le (by rw [List.size_toArray, len]; exact Nat.le_refl _)
  rw [ez] at R
  have fresh : H s.heap.objs.size = none := I.hok.fresh (Nat.le_refl _)
  exact ⟨.ref _, upd H s.heap.objs.size (TxtSet X.prog X.w s.heap.objs.size (setL [] xs)), I.laid (t' := tk) kp (Nat.le_refl _) (txtset_ok R), rfl,
    q _ _ (setL_nd xs [] List.nodup_nil) (fun y => by rw [setL_mem]; simp) (by have := setL_len xs []; simpa using this) fresh⟩
theorem Inv.txtset {pins : List (Addr × Obj)} {σ : St} {H : Hp} {s : Shared} {a : Addr} {D : List Str} (I : Inv X pins σ H s) (e : H a = some (TxtSet X.prog X.w a D)) : TxtSet0 X.prog X.w s.heap a D := (show ObjOk X.prog X.w H s.heap a (.ext fun h => TxtSet0 X.prog X.w h a D) from I.hok a _ e).1
theorem strs_of_rows {P : Program} {w : World} : ∀ {l : List (Int × Value)} {D : List Str}, Paired (RowT P w) l D → StrsAre (l.map (·.2)) D
  | _, _, .nil => .nil
  | _, _, .cons (a := e) ⟨t, h1, _⟩ r => by
    rw [List.map_cons, h1]
    exact StrsAre.cons _ _ (strs_of_rows r)
theorem strs_perm {l l' : List Value} {D : List Str} (p : l'.Perm l) (h : StrsAre l D) : ∃ D', D'.Perm D ∧ StrsAre l' D' := by
  have go : ∀ {l : List Value} {D : List Str}, StrsAre l D → Paired (fun v x => ∃ t, v = Value.str x t) l D := by
    intro l D h
    induction h with
    | nil => exact .nil
    | cons _ _ _ ih => exact .cons ⟨_, rfl⟩ ih
  have back : ∀ {l : List Value} {D : List Str}, Paired (fun v x => ∃ t, v = Value.str x t) l D → StrsAre l D := by
    intro l D h
    induction h with
    | nil => exact .nil
    | cons e _ ih =>
      obtain ⟨t, rfl⟩ := e
      exact StrsAre.cons _ _ ih
  obtain ⟨D', q, h'⟩ := paired_perm p (go h)
  exact ⟨D', q, back h'⟩
/-- sorted(S), S a set of texts -/
def rSortTx (P : Program) (w : World) : List V → Hp → VK → Prop := fun vs H Q => ∃ (a : Addr) (D : List Str), vs = [V.ref a] ∧ H a = some (TxtSet P w a D) ∧ D.length ≤ 1000 ∧ ∀ (ys : List Str) (p : Addr), ys.Perm D → sortedS ys = true → H p = none → Q (.ref p) (upd H p (.lst (ys.map V.str)))
theorem cr_sortTx (hc : X.calm = true) : CallR X (.builtin "sorted") (rSortTx X.prog X.w) := by
  intro pins s σ H vs us Q I r h
  obtain ⟨a, D, rfl, ha, hD, q⟩ := h
  rw [Vals.ref1 r]
  obtain ⟨o, es, ep, t, D', ho, hex, hd, g, pD, nd, hb, hf, hr, hl⟩ := I.txtset ha
  have hh : X.A.in1.handled = none := I.ok.hd hc
  refine Calls.call_function_entry kind_sorted plain_sorted entry_sorted (args_sorted1 _) ?_
  unfold Builtin.«sorted»
  refine wpAny_bind (m := checkCount "sorted" 1 1 _) (wpAny_pure ?_)
  refine wpAny_bind (collect_set (A := X.A.in1) hh ⟨o, ho, hex.1, hd⟩ hf hb hr hl fun s1 vs k1 z1 g1 o1 pm => ?_)
  obtain ⟨D2, pD2, hS⟩ := strs_perm pm (strs_of_rows g)
  have lv : vs.length ≤ sizeLine := by
    rw [hS.length, pD2.length_eq, pD.length_eq, sizeLine_eq]
    omega
  refine wpAny_bind (wpAny_newList ?_ lv)
  have hoL : (s1.heap.push (seqObj "list" vs.toArray 0)).get? s1.heap.objs.size = some (seqObj "list" vs.toArray 0) := Heap.get?_push_size _ rfl
  refine wpAny_bind (wpAny_holding (wpAny_call_entry slot_list_sort ⟨_, hoL, rfl⟩ entry_list_sort (list_sort_treeKAny strKind_oneLt (s := { s1 with heap := s1.heap.push (seqObj "list" vs.toArray 0) }) hoL hS.keysOf (fun v₁ v₂ rest e => keyKind_strs (by rw [← e]; exact hS)) lv fun st' hp hs => ⟨_, rfl, ?_⟩) (args_list_sort _)))
  obtain ⟨ys, h1, h2, h3⟩ := sorted_out_str hS hp hs
  obtain ⟨c, hcc⟩ := sortedHeap_at (vs := vs) (out := (arrOf st').map (·.2)) hoL
  refine wpAny_pure ⟨_, rfl, ?_⟩
  have fresh : H s1.heap.objs.size = none := I.hok.fresh z1
  have old : ∀ b u, s.heap.get? b = some u → (sortedHeap (s1.heap.push (seqObj "list" vs.toArray 0)) s1.heap.objs.size vs ((arrOf st').map (·.2))).get? b = some u := fun b u e => by
    have lt := Heap.lt_size (k1 b u e)
    rw [sortedHeap_old (Nat.ne_of_lt lt) (by rw [size_push']; exact Nat.lt_succ_of_lt lt)]
    exact Heap.get?_push_of_some _ (k1 b u e)
  have pys : ys.Perm D := h2.trans (pD2.trans pD)
  have J : Inv X pins σ (upd H s1.heap.objs.size (.lst (ys.map V.str))) ⟨sortedHeap (s1.heap.push (seqObj "list" vs.toArray 0)) s1.heap.objs.size vs ((arrOf st').map (·.2)), s1.gens, s1.drawn, s1.toks, s1.os⟩ := by
    refine I.call' (ch := []) o1 (Un.laid old z1 fresh) (I.hok.laid old z1 ⟨by rw [List.length_map, pys.length_eq, sizeLine_eq]; omega, ((arrOf st').map (·.2)).toList, c, vals_of_strs h1, hcc⟩) ?_ fun _ z => nomatch z
    rw [g1]
    exact I.bare
  exact ⟨.ref _, _, J, rfl, q ys _ pys h3 fresh⟩
end
end L2
set_option Elab.async false
set_option linter.all false
/-! a sorted list of texts is one alone -/
namespace L2
open PySem PySem.Spec PyProof.Rows TKS
theorem rising_pw : ∀ (l : List Str) (p : Str), risingS p l = true → (∀ y ∈ l, slt y p = false) ∧ l.Pairwise (fun a b => slt b a = false)
  | [], _, _ => ⟨fun _ h => (nomatch h), .nil⟩
  | x :: r, p, h => by
    have h : (!ltCps x.cps.toList p.cps.toList && risingS x r) = true := h
    rw [Bool.and_eq_true, Bool.not_eq_true', ltCps_eq] at h
    obtain ⟨h1, h2⟩ := h
    have h1 : slt x p = false := h1
    obtain ⟨a, b⟩ := rising_pw r x h2
    refine ⟨fun y hy => ?_, List.pairwise_cons.mpr ⟨a, b⟩⟩
    rcases List.mem_cons.mp hy with rfl | hy
    · exact h1
    · have h3 := a y hy
      cases hz : slt y p with
      | false => rfl
      | true =>
        by_cases e : x = p
        · rw [← e, h3] at hz
          cases hz
        · have h4 : slt p x = true := by
            cases h5 : slt p x with
            | true => rfl
            | false => exact absurd (slt_tri h1 h5) e
          rw [slt_tr hz h4] at h3
          cases h3
theorem sortedS_pw {l : List Str} (h : sortedS l = true) : l.Pairwise (fun a b => slt b a = false) := by
  cases l with
  | nil => exact .nil
  | cons x r => exact List.pairwise_cons.mpr (rising_pw r x h)
theorem sortedS_uniq {l m : List Str} (p : l.Perm m) (h1 : sortedS l = true) (h2 : sortedS m = true) : l = m :=
  List.Perm.eq_of_pairwise (le := fun a b => slt b a = false) (fun a b _ _ g1 g2 => slt_tri g2 g1) (sortedS_pw h1) (sortedS_pw h2) p
end L2
set_option Elab.async false
set_option linter.all false
set_option maxRecDepth 100000
set_option maxHeartbeats 2000000
/-! zip over a list and a tuple, in either place: the two ways to go through a row of things are one predicate with a mark -/
namespace ZLT
open PySem PySem.Spec PyProof.Rows L2
open PySem.Sem (wp)
/-- the row of things: a tuple (t) or a list -/
def Row (t : Bool) (h : Heap) (l : Addr) (xs : Array Value) : Prop := if t then h.IsTuple l xs else h.IsList l xs
/-- its iterator, at k -/
def Cur (t : Bool) (h : Heap) (c l : Addr) (k : Nat) : Prop := if t then h.IsTupleIter c l k else h.IsListIter c l k
theorem Row.but {t : Bool} {h h' : Heap} {b l : Addr} {xs} (R : Row t h l xs) (e : Heap.ExtBut b h h') (n : l ≠ b) : Row t h' l xs := by
  cases t
  · exact Heap.IsList.extBut R e n
  · exact Heap.IsTuple.extBut R e n
theorem Cur.but {t : Bool} {h h' : Heap} {b c l : Addr} {k : Nat} (R : Cur t h c l k) (e : Heap.ExtBut b h h') (n : c ≠ b) : Cur t h' c l k := by
  cases t
  · exact Heap.IsListIter.extBut R e n
  · exact Heap.IsTupleIter.extBut R e n
theorem Cur.at {t : Bool} {h h' : Heap} {c l : Addr} {k : Nat} (R : Cur t h c l k) (e : ∀ o, h.get? c = some o → h'.get? c = some o) : Cur t h' c l k := by
  cases t
  · exact Heap.IsListIter.at R e
  · exact Heap.IsTupleIter.at R e
theorem Cur.obj {t : Bool} {h : Heap} {c l : Addr} {k : Nat} (R : Cur t h c l k) : ∃ o, h.get? c = some o ∧ ∀ v, o.data ≠ .cell v := by
  cases t
  · obtain ⟨o, e, _, d⟩ := R
    exact ⟨o, e, fun v q => by rw [d] at q; cases q⟩
  · obtain ⟨o, e, _, d⟩ := R
    exact ⟨o, e, fun v q => by rw [d] at q; cases q⟩
theorem Cur.lt {t : Bool} {h : Heap} {c l : Addr} {k : Nat} (R : Cur t h c l k) : c < h.objs.size := by
  obtain ⟨o, e, _⟩ := R.obj
  exact Heap.lt_size e
section
variable {prog : Program} {w : World} {A : Around} {E : Value → Shared → Prop} {s : Shared}
theorem cur_item {t : Bool} {c l : Addr} {k : Nat} {xs} {x : Value} {Q : Value → Shared → Prop} (R : Cur t s.heap c l k) (L : Row t s.heap l xs) (hx : xs[k]? = some x)
    (hQ : ∀ g, Cur t g c l (k + 1) → Heap.SameBut c s.heap g → Q x { s with heap := g }) : wpAny (model prog w) A (Builtin.SmallTypes.nextOf (.ref c)) Q E s := by
  cases t
  · exact wpAny_nextOf_list_item R L hx hQ
  · exact RZ.nextOf_tuple_item R L hx hQ
theorem cur_end {t : Bool} {c l : Addr} {k : Nat} {xs} {Q : Value → Shared → Prop} (hh : A.handled = none) (R : Cur t s.heap c l k) (L : Row t s.heap l xs) (hx : xs[k]? = none)
    (hE : ∀ g e, Heap.ExtBut c s.heap g → (∃ o, g.get? e = some o ∧ o.cls = .type "StopIteration") → E (.ref e) { s with heap := g }) : wpAny (model prog w) A (Builtin.SmallTypes.nextOf (.ref c)) Q E s := by
  cases t
  · exact wpAny_nextOf_list_end hh R L hx hE
  · exact RZ.nextOf_tuple_end hh R L hx hE
/-- all but four objects stay -/
abbrev Four (z o c d : Addr) (h g : Heap) : Prop := ∀ b u, b ≠ z → b ≠ o → b ≠ c → b ≠ d → h.get? b = some u → g.get? b = some u
theorem zip_item {p q : Bool} {z T O c d l m : Addr} {i j : Nat} {xs ys : Array Value} {x y a b : Value} {Q : Value → Shared → Prop} (N : ZipApart z T O c d l m)
    (Z : IsZip s.heap z T O .none) (hT : IsPair s.heap T (.ref c) (.ref d)) (hO : IsPair s.heap O a b)
    (C : Cur p s.heap c l i) (D : Cur q s.heap d m j) (L : Row p s.heap l xs) (M : Row q s.heap m ys) (hx : xs[i]? = some x) (hy : ys[j]? = some y)
    (hQ : ∀ g, IsZip g z T O (rawInt s.heap.objs.size) → IsPair g O x y → Cur p g c l (i + 1) → Cur q g d m (j + 1) → IsPair g s.heap.objs.size x y → g.objs.size = s.heap.objs.size + 1 →
      Four z O c d s.heap g → Q (.ref s.heap.objs.size) { s with heap := g }) :
    wpAny (model prog w) A (Builtin.«zip.__next__» ⟨[.ref z], []⟩) (fun f s1 => ∃ v, f = .done (.ret v) ∧ Q v s1) E s := by
  show wpAny _ _ (field (.ref z) 2 >>= _) _ _ _
  refine wpAny_bind (wpAny_field Z rfl (x := .bool false) rfl ?_)
  show wpAny _ _ (field (.ref z) 3 >>= _) _ _ _
  refine wpAny_bind (wpAny_field Z rfl (x := .ref T) rfl ?_)
  refine wpAny_bind (wpAny_seqItems hT rfl ?_)
  show wpAny _ _ (Builtin.SmallTypes.ownedTupleIsFree (.ref z) >>= _) _ _ _
  refine wpAny_bind ?_
  unfold Builtin.SmallTypes.ownedTupleIsFree
  refine wpAny_bind (wpAny_field Z rfl (x := .none) rfl (wpAny_pure ?_))
  simp only [if_true]
  refine wpAny_bind (wpAny_rule ?_)
  refine wpAny_bind (wpAny_field Z rfl (x := .ref O) rfl ?_)
  refine wpAny_bind (wpAny_setField_rec Z (by simp) fun g1 Z1 k1 => ?_)
  replace Z1 : IsZip g1 z T O .ellipsis := Z1
  refine wpAny_bind ?_
  simp only [List.zipIdx_cons, List.zipIdx_nil, List.forIn_cons, List.forIn_nil]
  refine wpAny_bind (wpAny_bind (wpAny_onRaise ?_))
  show wpAny _ _ (Builtin.SmallTypes.nextOf (.ref c) >>= _) _ _ _
  refine wpAny_bind (cur_item (C.but k1.extBut N.i1z) (L.but k1.extBut N.l1z) hx fun g2 C2 k2 => wpAny_pure ?_)
  have O2 : IsPair g2 O a b := k2.extBut _ _ N.TOi1 (k1.extBut _ _ N.TOz hO)
  refine wpAny_bind (wpAny_seqItems O2 rfl ?_)
  refine wpAny_bind (wpAny_updateSeq_pair O2 fun g3 O3 k3 => ?_)
  replace O3 : IsPair g3 O x b := O3
  refine wpAny_bind (wpAny_letGo (wpAny_pure ?_))
  refine wpAny_bind (wpAny_bind (wpAny_onRaise ?_))
  show wpAny _ _ (Builtin.SmallTypes.nextOf (.ref d) >>= _) _ _ _
  refine wpAny_bind (cur_item (((D.but k1.extBut N.i2z).but k2.extBut N.i12.symm).but k3.extBut N.TOi2.symm)
    (((M.but k1.extBut N.l2z).but k2.extBut N.l2i1).but k3.extBut N.l2TO) hy fun g4 D4 k4 => wpAny_pure ?_)
  have O4 : IsPair g4 O x b := k4.extBut _ _ N.TOi2 O3
  refine wpAny_bind (wpAny_seqItems O4 rfl ?_)
  refine wpAny_bind (wpAny_updateSeq_pair O4 fun g5 O5 k5 => ?_)
  replace O5 : IsPair g5 O x y := O5
  refine wpAny_bind (wpAny_letGo (wpAny_pure (wpAny_pure ?_)))
  refine wpAny_bind (wpAny_seqItems O5 rfl ?_)
  refine wpAny_bind (wpAny_newTuple ?_)
  have hs : g5.objs.size = s.heap.objs.size := by rw [k5.1, k4.1, k3.1, k2.1, k1.1]
  have Z5 : IsZip g5 z T O .ellipsis := k5.extBut _ _ N.TOz.symm (k4.extBut _ _ N.i2z.symm (k3.extBut _ _ N.TOz.symm (k2.extBut _ _ N.i1z.symm Z1)))
  have K5 : Four z O c d s.heap g5 := fun b u b1 b2 b3 b4 e => k5.extBut _ _ b2 (k4.extBut _ _ b4 (k3.extBut _ _ b2 (k2.extBut _ _ b3 (k1.extBut _ _ b1 e))))
  have C5 : Cur p g5 c l (i + 1) := ((C2.but k3.extBut N.TOi1.symm).but k4.extBut N.i12).but k5.extBut N.TOi1.symm
  have D5 : Cur q g5 d m (j + 1) := D4.but k5.extBut N.TOi2.symm
  have zl : z < g5.objs.size := Heap.lt_size Z5
  show wpAny _ _ (Builtin.SmallTypes.ownedTupleHandOut (.ref z) (.ref g5.objs.size) >>= _) _ _ _
  refine wpAny_bind ?_
  unfold Builtin.SmallTypes.ownedTupleHandOut
  have Z6 : IsZip (g5.push { cls := .type "tuple", data := .seq #[x, y] }) z T O .ellipsis := Heap.get?_push_of_some _ Z5
  refine wpAny_bind (wpAny_setField_rec Z6 (by simp) fun g7 Z7 k7 => ?_)
  replace Z7 : IsZip g7 z T O (rawInt g5.objs.size) := Z7
  refine wpAny_setField_rec Z7 (by simp) fun g8 Z8 k8 => ?_
  replace Z8 : IsZip g8 z T O (rawInt g5.objs.size) := Z8
  have up : ∀ b u, b ≠ z → g5.get? b = some u → g8.get? b = some u := fun b u n e => k8.extBut _ _ n (k7.extBut _ _ n (Heap.get?_push_of_some _ e))
  have T8 : IsPair g8 g5.objs.size x y := k8.extBut _ _ (Nat.ne_of_gt zl) (k7.extBut _ _ (Nat.ne_of_gt zl) (Heap.get?_push_size _ rfl))
  have s8 : g8.objs.size = g5.objs.size + 1 := by rw [k8.1, k7.1, Heap.size_push]
  rw [hs] at Z8 T8 s8
  refine wpAny_pure ⟨_, rfl, ?_⟩
  show Q (.ref g5.objs.size) _
  rw [hs]
  exact hQ g8 Z8 (up _ _ N.TOz O5) (C5.at fun o e => up _ o N.i1z e) (D5.at fun o e => up _ o N.i2z e) T8 s8 fun b u b1 b2 b3 b4 e => up b u b1 (K5 b u b1 b2 b3 b4 e)
theorem zip_end {p q : Bool} {z T O c d l m : Addr} {i j : Nat} {xs ys : Array Value} {a b : Value} {Q : Fin → Shared → Prop} (hh : A.handled = none) (N : ZipApart z T O c d l m)
    (Z : IsZip s.heap z T O .none) (hT : IsPair s.heap T (.ref c) (.ref d)) (hO : IsPair s.heap O a b)
    (C : Cur p s.heap c l i) (D : Cur q s.heap d m j) (L : Row p s.heap l xs) (M : Row q s.heap m ys) (stop : xs[i]? = none ∨ ys[j]? = none)
    (hE : ∀ g e, Four z O c d s.heap g → (∃ o, g.get? e = some o ∧ o.cls = .type "StopIteration") → E (.ref e) { s with heap := g }) :
    wpAny (model prog w) A (Builtin.«zip.__next__» ⟨[.ref z], []⟩) Q E s := by
  show wpAny _ _ (field (.ref z) 2 >>= _) _ _ _
  refine wpAny_bind (wpAny_field Z rfl (x := .bool false) rfl ?_)
  show wpAny _ _ (field (.ref z) 3 >>= _) _ _ _
  refine wpAny_bind (wpAny_field Z rfl (x := .ref T) rfl ?_)
  refine wpAny_bind (wpAny_seqItems hT rfl ?_)
  show wpAny _ _ (Builtin.SmallTypes.ownedTupleIsFree (.ref z) >>= _) _ _ _
  refine wpAny_bind ?_
  unfold Builtin.SmallTypes.ownedTupleIsFree
  refine wpAny_bind (wpAny_field Z rfl (x := .none) rfl (wpAny_pure ?_))
  simp only [if_true]
  refine wpAny_bind (wpAny_rule ?_)
  refine wpAny_bind (wpAny_field Z rfl (x := .ref O) rfl ?_)
  refine wpAny_bind (wpAny_setField_rec Z (by simp) fun g1 Z1 k1 => ?_)
  replace Z1 : IsZip g1 z T O .ellipsis := Z1
  refine wpAny_bind ?_
  simp only [List.zipIdx_cons, List.zipIdx_nil, List.forIn_cons, List.forIn_nil]
  refine wpAny_bind (wpAny_bind (wpAny_onRaise ?_))
  show wpAny _ _ (Builtin.SmallTypes.nextOf (.ref c) >>= _) _ _ _
  rcases hx : xs[i]? with _ | x
  · refine wpAny_bind (cur_end hh (C.but k1.extBut N.i1z) (L.but k1.extBut N.l1z) hx fun g2 e k2 ⟨oe, he, ce⟩ => ?_)
    have Z2 : IsZip g2 z T O .ellipsis := k2 _ _ N.i1z.symm Z1
    have ne : e ≠ z := fun x => by subst x; rw [Z2] at he; cases he; simp at ce
    exact wpAny_setField_rec Z2 (by simp) fun g3 _ k3 => hE g3 e (fun b u b1 _ b3 _ x => k3.extBut _ _ b1 (k2 _ _ b3 (k1.extBut _ _ b1 x))) ⟨oe, k3.extBut _ _ ne he, ce⟩
  · have hy : ys[j]? = none := stop.resolve_left (by rw [hx]; exact nofun)
    refine wpAny_bind (cur_item (C.but k1.extBut N.i1z) (L.but k1.extBut N.l1z) hx fun g2 C2 k2 => wpAny_pure ?_)
    have O2 : IsPair g2 O a b := k2.extBut _ _ N.TOi1 (k1.extBut _ _ N.TOz hO)
    refine wpAny_bind (wpAny_seqItems O2 rfl ?_)
    refine wpAny_bind (wpAny_updateSeq_pair O2 fun g3 O3 k3 => ?_)
    refine wpAny_bind (wpAny_letGo (wpAny_pure ?_))
    refine wpAny_bind (wpAny_bind (wpAny_onRaise ?_))
    show wpAny _ _ (Builtin.SmallTypes.nextOf (.ref d) >>= _) _ _ _
    refine wpAny_bind (cur_end hh (((D.but k1.extBut N.i2z).but k2.extBut N.i12.symm).but k3.extBut N.TOi2.symm)
      (((M.but k1.extBut N.l2z).but k2.extBut N.l2i1).but k3.extBut N.l2TO) hy fun g4 e k4 ⟨oe, he, ce⟩ => ?_)
    have Z4 : IsZip g4 z T O .ellipsis := k4 _ _ N.i2z.symm (k3.extBut _ _ N.TOz.symm (k2.extBut _ _ N.i1z.symm Z1))
    have ne : e ≠ z := fun x => by subst x; rw [Z4] at he; cases he; simp at ce
    exact wpAny_setField_rec Z4 (by simp) fun g5 _ k5 => hE g5 e (fun b u b1 b2 b3 b4 x => k5.extBut _ _ b1 (k4 _ _ b4 (k3.extBut _ _ b2 (k2.extBut _ _ b3 (k1.extBut _ _ b1 x))))) ⟨oe, k5.extBut _ _ ne he, ce⟩
theorem next_item {p q : Bool} {z T O c d l m : Addr} {i j : Nat} {xs ys : Array Value} {x y a b : Value} {Q : Option Value → Shared → Prop} (N : ZipApart z T O c d l m)
    (Z : IsZip s.heap z T O .none) (hT : IsPair s.heap T (.ref c) (.ref d)) (hO : IsPair s.heap O a b)
    (C : Cur p s.heap c l i) (D : Cur q s.heap d m j) (L : Row p s.heap l xs) (M : Row q s.heap m ys) (hx : xs[i]? = some x) (hy : ys[j]? = some y)
    (hQ : ∀ g, IsZip g z T O (rawInt s.heap.objs.size) → IsPair g O x y → Cur p g c l (i + 1) → Cur q g d m (j + 1) → IsPair g s.heap.objs.size x y → g.objs.size = s.heap.objs.size + 1 →
      Four z O c d s.heap g → Q (some (.ref s.heap.objs.size)) { s with heap := g }) : wpAny (model prog w) A (pyNext (.ref z)) Q E s := by
  have t : s.TypeIs (.ref z) "zip" := ⟨_, Z, rfl⟩
  unfold pyNext
  refine wpAny_bind (wpAny_attempt (wpAny_callSpecial?_slot (name := Str.ofString "__next__") t F.slot_zip_next (wpAny_call_entry F.slot_zip_next t F.entry_zip_next ?_ (F.args_zip_next_1 _))))
  exact zip_item N Z hT hO C D L M hx hy fun g e1 e2 e3 e4 e5 e6 e7 => wpAny_pure (hQ g e1 e2 e3 e4 e5 e6 e7)
theorem next_end {p q : Bool} {z T O c d l m : Addr} {i j : Nat} {xs ys : Array Value} {a b : Value} {Q : Option Value → Shared → Prop} (hh : A.handled = none) (N : ZipApart z T O c d l m)
    (Z : IsZip s.heap z T O .none) (hT : IsPair s.heap T (.ref c) (.ref d)) (hO : IsPair s.heap O a b)
    (C : Cur p s.heap c l i) (D : Cur q s.heap d m j) (L : Row p s.heap l xs) (M : Row q s.heap m ys) (stop : xs[i]? = none ∨ ys[j]? = none)
    (hQ : ∀ g, Four z O c d s.heap g → Q none { s with heap := g }) : wpAny (model prog w) A (pyNext (.ref z)) Q E s := by
  have t : s.TypeIs (.ref z) "zip" := ⟨_, Z, rfl⟩
  unfold pyNext
  refine wpAny_bind (wpAny_attempt (wpAny_callSpecial?_slot (name := Str.ofString "__next__") t F.slot_zip_next (wpAny_call_entry F.slot_zip_next t F.entry_zip_next ?_ (F.args_zip_next_1 _))))
  refine zip_end hh N Z hT hO C D L M stop fun g e k ⟨o, ho, hc⟩ => ?_
  exact wpAny_bind (wpAny_isInstance (T := "StopIteration") (b := true) ⟨o, ho, hc⟩ isSubtype_stop (wpAny_pure (hQ _ k)))
end
/-- what zip makes of a list and a tuple, object by object -/
abbrev P1 (h : Heap) (l : Addr) : Heap := h.push { cls := .type "list_iterator", data := .fields #[.ref l, .int 0 0] }
abbrev P2 (h : Heap) (l m : Addr) : Heap := (P1 h l).push { cls := .type "tuple_iterator", data := .fields #[.ref m, .int 0 0] }
abbrev P3 (h : Heap) (l m : Addr) : Heap := (P2 h l m).push { cls := .type "tuple", data := .seq #[.ref h.objs.size, .ref (P1 h l).objs.size] }
abbrev P4 (h : Heap) (l m : Addr) : Heap := (P3 h l m).push { cls := .type "tuple", data := .seq #[.none, .none] }
abbrev P5 (h : Heap) (l m : Addr) : Heap := (P4 h l m).push { cls := .type "zip", data := .fields #[.none, .bool false, .bool false, .ref (P2 h l m).objs.size, .ref (P3 h l m).objs.size] }
theorem makes_zip (l m : Addr) (xs ys : Array Value) :
    Meets (Builtin.«zip.__new__» ⟨[.type "zip", .ref l, .ref m], []⟩) (fun _ R s => s.heap.IsList l xs ∧ s.heap.IsTuple m ys ∧ R (.ok (.ret (.ref (P4 s.heap l m).objs.size))) { s with heap := P5 s.heap l m }) :=
  .of_wp fun prog w A R s h => by
    obtain ⟨hp, g, d, tk, os⟩ := s
    obtain ⟨hl, hm, h⟩ := h
    have sub := sub_zip
    have L1 : Heap.IsList (Shared.heap ⟨hp, g, d, tk, os⟩) l xs := hl
    have L2 : Heap.IsTuple (Shared.heap ⟨hp.push { cls := .type "list_iterator", data := .fields #[.ref l, .int 0 0] }, g, d, tk, os⟩) m ys := Heap.IsTuple.push hm _
    wp_walk using wpAny_pyIter_list L1, wpAny_pyIter_tuple L2
    exact ⟨_, rfl, h⟩
theorem call_lt {prog : Program} {w : World} {A : Around} {E : Value → Shared → Prop} {s : Shared} {l m : Addr} {xs ys : Array Value} {Q : Value → Shared → Prop} (L : s.heap.IsList l xs) (M : s.heap.IsTuple m ys)
    (k : ∀ g, IsZip g (s.heap.objs.size + 4) (s.heap.objs.size + 2) (s.heap.objs.size + 3) .none → IsPair g (s.heap.objs.size + 2) (.ref s.heap.objs.size) (.ref (s.heap.objs.size + 1)) →
      IsPair g (s.heap.objs.size + 3) .none .none → Cur false g s.heap.objs.size l 0 → Cur true g (s.heap.objs.size + 1) m 0 → g.objs.size = s.heap.objs.size + 5 →
      (∀ b u, s.heap.get? b = some u → g.get? b = some u) → Q (.ref (s.heap.objs.size + 4)) { s with heap := g }) : wpAny (model prog w) A (call (.type "zip") [.ref l, .ref m]) Q E s := by
  refine callType_new F.called_zip (by decide) (F.typeCall_zip_2 _ _) (F.newCall_zip_2 _ _) (fun obj => F.args_object_init_3 obj _ _) F.entry_zip_new (makes_zip l m xs ys) ⟨L, M, ?_⟩
  have s1 : (P1 s.heap l).objs.size = s.heap.objs.size + 1 := Heap.size_push ..
  have s2 : (P2 s.heap l m).objs.size = s.heap.objs.size + 2 := by rw [Heap.size_push, s1]
  have s3 : (P3 s.heap l m).objs.size = s.heap.objs.size + 3 := by rw [Heap.size_push, s2]
  have s4 : (P4 s.heap l m).objs.size = s.heap.objs.size + 4 := by rw [Heap.size_push, s3]
  have s5 : (P5 s.heap l m).objs.size = s.heap.objs.size + 5 := by rw [Heap.size_push, s4]
  have on : ∀ {g : Heap} {b : Addr} {u o : Obj}, g.get? b = some u → (g.push o).get? b = some u := fun e => Heap.get?_push_of_some _ e
  have e5 : (P5 s.heap l m).get? (P4 s.heap l m).objs.size = some _ := Heap.get?_push_size _ rfl
  have e4 : (P5 s.heap l m).get? (P3 s.heap l m).objs.size = some _ := on (Heap.get?_push_size _ rfl)
  have e3 : (P5 s.heap l m).get? (P2 s.heap l m).objs.size = some _ := on (on (Heap.get?_push_size _ rfl))
  have e2 : (P5 s.heap l m).get? (P1 s.heap l).objs.size = some _ := on (on (on (Heap.get?_push_size _ rfl)))
  have e1 : (P5 s.heap l m).get? s.heap.objs.size = some _ := on (on (on (on (Heap.get?_push_size _ rfl))))
  show _ ∧ _
  rw [s2, s3, s4] at e5
  rw [s1, s2] at e3
  rw [s3] at e4
  rw [s1] at e2
  rw [s4]
  exact ⟨⟨_, e5, rfl⟩, k _ e5 e3 e4 ⟨_, e1, rfl, rfl⟩ ⟨_, e2, rfl, rfl⟩ s5 fun b u x => on (on (on (on (on x))))⟩
/-- the list at a and the tuple at b as they stand at each turn, the items in new pairs -/
def Itlt (K : PySem.W.Frag) (a b : Addr) : It :=
  ⟨fun i H => ∃ (xs ys : List V) (x y : V), SqL K H a xs ∧ SqT K H b ys ∧ xs[i]? = some x ∧ ys[i]? = some y,
    fun i H v H' => ∃ T x y, v = .ref T ∧ H T = none ∧ H' = upd H T (.tup [x, y]) ∧ (∀ xs, SqL K H a xs → xs[i]? = some x) ∧ ∀ ys, SqT K H b ys → ys[i]? = some y,
    fun i H => ∃ xs ys : List V, SqL K H a xs ∧ SqT K H b ys ∧ (xs.length ≤ i ∨ ys.length ≤ i)⟩
theorem turn_lt {P : Program} {w : World} {K : PySem.W.Frag} {elts : List Expr} {kk : Nat} {tp : Pos} {a b z T O c d : Addr} (N : ZipApart z T O c d a b) :
    Turn P w K (.Tuple elts kk tp) (Itlt K a b) [z, T, O, c, d] z (fun i h => IsZip h z T O .none ∧ IsPair h T (.ref c) (.ref d) ∧ (∃ x y, IsPair h O x y) ∧ Cur false h c a i ∧ Cur true h d b i) where
  mem := .head _
  obj := by
    rintro i h ⟨Z, hT, ⟨x, y, hO⟩, C, D⟩ e he
    rcases (by simpa using he : e = z ∨ e = T ∨ e = O ∨ e = c ∨ e = d) with rfl | rfl | rfl | rfl | rfl
    · exact ⟨_, Z, nofun⟩
    · exact ⟨_, hT, nofun⟩
    · exact ⟨_, hO, nofun⟩
    · exact C.obj
    · exact D.obj
  keep := by
    rintro i h h' ⟨Z, hT, ⟨x, y, hO⟩, C, D⟩ k
    exact ⟨k z (by simp) _ Z, k T (by simp) _ hT, ⟨x, y, k O (by simp) _ hO⟩, C.at fun o q => k c (by simp) o q, D.at fun o q => k d (by simp) o q⟩
  item := by
    intro X hP hw hK hc i pins s σ H E I hf st hg
    subst hP hw hK
    obtain ⟨Z, hT, ⟨x0, y0, hO⟩, C, D⟩ := st
    obtain ⟨xs, ys, x, y, ax, ay, hx, hy⟩ := hg
    obtain ⟨us, rv, p, _⟩ := I.list ax
    obtain ⟨us2, rv2, p2, _⟩ := I.tuple ay
    obtain ⟨u, hu, ru⟩ := rv.get hx
    obtain ⟨u2, hu2, ru2⟩ := rv2.get hy
    have zl : z < s.heap.objs.size := Heap.lt_size Z
    refine next_item N Z hT hO C D (show Row false s.heap a us.toArray from p.isList) (show Row true s.heap b us2.toArray from p2) (by simpa using hu) (by simpa using hu2) fun g Zg Og Cg Dg Tg sg k => ?_
    refine ⟨_, rfl, wpAny_letOwnedTupleGo_zip (s := { s with heap := g }) Zg fun f Zf sb => ?_⟩
    have Tf : f.get? s.heap.objs.size = some { cls := .type "tuple", data := .seq #[u, u2] } := (sb.2 _ (Nat.ne_of_gt zl)).trans Tg
    have kf : ∀ e o, e ∉ [z, T, O, c, d] → s.heap.get? e = some o → f.get? e = some o := fun e o n q => by
      simp only [List.mem_cons, List.not_mem_nil, or_false, not_or] at n
      exact (sb.2 _ n.1).trans (k e o n.1 n.2.2.1 n.2.2.2.1 n.2.2.2.2 q)
    have new : ObjOk X.prog X.w (upd H s.heap.objs.size (.tup [x, y])) f s.heap.objs.size (.tup [x, y]) := ⟨by show 2 ≤ sizeLine; decide, [u, u2], .cons ru (.cons ru2 .nil), ⟨_, Tf, rfl, _, rfl⟩⟩
    have J : Inv X pins σ (upd H s.heap.objs.size (.tup [x, y])) { s with heap := f } := I.turnedNew (t' := s.toks) (ch := [z, T, O, c, d]) kf hf (Nat.le_refl _) new
    refine ⟨.ref s.heap.objs.size, _, J, rfl, ⟨_, x, y, rfl, I.hok.fresh (Nat.le_refl _), rfl, fun l hl => by rw [I.list_inj hl ax]; exact hx, fun l hl => by rw [I.tuple_inj hl ay]; exact hy⟩, ⟨Zf, ?_, ⟨u, u2, (sb.2 _ N.TOz).trans Og⟩, ?_, ?_⟩, fun e he => ?_⟩
    · exact (sb.2 _ N.TIz).trans (k _ _ N.TIz N.TITO N.TIi1 N.TIi2 hT)
    · exact Cg.at fun o q => (sb.2 _ N.i1z).trans q
    · exact Dg.at fun o q => (sb.2 _ N.i2z).trans q
    · have lt : e < s.heap.objs.size := by
        rcases (by simpa using he : e = z ∨ e = T ∨ e = O ∨ e = c ∨ e = d) with q | q | q | q | q
        · exact q ▸ zl
        · exact q ▸ Heap.lt_size hT
        · exact q ▸ Heap.lt_size hO
        · exact q ▸ C.lt
        · exact q ▸ D.lt
      rw [upd_ne (Nat.ne_of_lt lt)]
      exact (hf e he).1
  done := by
    intro X hP hw hK hc i pins s σ H E I hf st hg
    subst hP hw hK
    obtain ⟨Z, hT, ⟨x0, y0, hO⟩, C, D⟩ := st
    obtain ⟨xs, ys, ax, ay, stop⟩ := hg
    obtain ⟨us, rv, p, _⟩ := I.list ax
    obtain ⟨us2, rv2, p2, _⟩ := I.tuple ay
    have n1 := rv.length
    have n2 := rv2.length
    have he : us.toArray[i]? = none ∨ us2.toArray[i]? = none := by
      rcases stop with q | q
      · exact .inl (by simp; omega)
      · exact .inr (by simp; omega)
    refine next_end (I.ok.hd hc) N Z hT hO C D (show Row false s.heap a us.toArray from p.isList) (show Row true s.heap b us2.toArray from p2) he fun g k => ⟨rfl, I.turnedL (t' := s.toks) (ch := [z, T, O, c, d]) (fun e o n q => ?_) hf⟩
    simp only [List.mem_cons, List.not_mem_nil, or_false, not_or] at n
    exact k e o n.1 n.2.2.1 n.2.2.2.1 n.2.2.2.2 q
  self := fun A i s Q E st h => wpAny_pyIter_zip st.1 h
/-- zip(list, tuple) -/
def iZipLT (K : PySem.W.Frag) (ta : TA) : TI := fun σ H R => ta σ H fun vs H1 => ∃ a b xs ys, vs = [.ref a, .ref b] ∧ SqL K H1 a xs ∧ SqT K H1 b ys ∧ R (Itlt K a b) H1
theorem pi_zipLT {X : Cx} {e e2 : Expr} {ta : TA} {p pos tp : Pos} {elts : List Expr} {kk : Nat} (hg : Gl X "zip") (hm : X.mg "zip" = none) (ha : PA X [e, e2] ta)
    (hs : starEach [e, e2] X.env = (false, eval e X.env) :: starEach [e2] X.env := by rfl) (hpl : (backTo pos (starEach [e2] X.env)).any (·.1) = false := by rfl) :
    PI X (.Tuple elts kk tp) (.Call (.Name "zip" p) [e, e2] [] pos) (iZipLT X.K ta) := by
  refine ⟨fun pins s σ H R I h => ?_⟩
  refine Call_ (ld_blt I hg hm PyProof.Rows.boot_zip (PyProof.Rows.callWith_type1 (thn (ha.run pos pins s σ H _ I h) fun us s1 ⟨vs, H1, J, r1, q1⟩ => ?_) hs hpl))
  obtain ⟨a, b, xs, ys, rfl, ax, ay, q⟩ := q1
  rcases r1 with _ | ⟨r, _ | ⟨r', _ | _⟩⟩
  cases r
  cases r'
  have fresh : ∀ e, e ∈ [s1.heap.objs.size + 4, s1.heap.objs.size + 2, s1.heap.objs.size + 3, s1.heap.objs.size, s1.heap.objs.size + 1] → FpOk X pins H1 e := fun e he => by
    have le : s1.heap.objs.size ≤ e := by
      simp only [List.mem_cons, List.not_mem_nil, or_false] at he
      omega
    exact J.fpOk le (J.hok.fresh le)
  obtain ⟨us, rv, p1, _⟩ := J.list ax
  obtain ⟨us2, rv2, p2, _⟩ := J.tuple ay
  obtain ⟨o2, ho2, _⟩ := id p2
  refine call_lt p1.isList (show s1.heap.IsTuple b us2.toArray from p2) fun g Z T O C D sz k => wpAny_pyIter_zip Z ?_
  exact ⟨s1.heap.objs.size + 4, [s1.heap.objs.size + 4, s1.heap.objs.size + 2, s1.heap.objs.size + 3, s1.heap.objs.size, s1.heap.objs.size + 1], _, _, H1, rfl, J.kept (t' := s1.toks) k, turn_lt (PySem.W.ktu_apart s1.heap.objs.size a b p1.lt (Heap.lt_size ho2)), ⟨Z, T, ⟨_, _, O⟩, C, D⟩, fresh, q⟩
theorem walk_lt {K : PySem.W.Frag} {a b : Addr} {xs ys : List V} {n : Nat} (hn : n = min xs.length ys.length) : Walk (Itlt K a b) n (fun H => SqL K H a xs ∧ SqT K H b ys) (YPair (fun i => xs[i]?) (fun i => ys[i]?)) := by
  subst hn
  refine ⟨fun i H lt ⟨p, q⟩ => ?_, fun H ⟨p, q⟩ => ⟨xs, ys, p, q, by omega⟩, fun i H v H' _ ⟨p, q⟩ ⟨T, x, z, h1, h2, h3, h4, h5⟩ => ⟨T, x, z, h1, h2, h3, h4 xs p, h5 ys q⟩⟩
  have l1 : i < xs.length := by omega
  have l2 : i < ys.length := by omega
  exact ⟨xs, ys, xs[i], ys[i], p, q, by simp [l1], by simp [l2]⟩
end ZLT
set_option Elab.async false
set_option linter.all false
set_option maxRecDepth 100000
set_option maxHeartbeats 2000000
/-! enumerate(tuple): each item with its number, in a new pair -/
namespace ZLT
open PySem PySem.Spec PyProof.Rows L2
open PySem.Sem (wp)
section
variable {prog : Program} {w : World} {A : Around} {E : Value → Shared → Prop} {s : Shared}
theorem enumT_item {e it l : Addr} {i : Nat} {xs : Array Value} {x old : Value} {Q : Value → Shared → Prop}
    (N : IsEnum s.heap e it i old) (C : Cur true s.heap it l i) (L : Row true s.heap l xs) (hx : xs[i]? = some x) (ne : e ≠ it)
    (hQ : ∀ g, IsEnumOut g e it ((i : Int) + 1) x s.heap.objs.size → Cur true g it l (i + 1) → g.get? s.heap.objs.size = some { cls := .type "tuple", data := .seq #[.int i s.toks, x] } → g.objs.size = s.heap.objs.size + 1 →
      (∀ b u, b ≠ e → b ≠ it → s.heap.get? b = some u → g.get? b = some u) → Q (.ref s.heap.objs.size) { s with heap := g, toks := s.toks + 1 }) :
    wpAny (model prog w) A (Builtin.«enumerate.__next__» ⟨[.ref e], []⟩) (fun f s1 => ∃ v, f = .done (.ret v) ∧ Q v s1) E s := by
  obtain ⟨hp, g, d, tk, os⟩ := s
  show wpAny _ _ (field (.ref e) 2 >>= _) _ _ _
  refine wpAny_bind (wpAny_field N rfl (x := .ref it) rfl ?_)
  refine wpAny_bind (cur_item C L hx fun g1 C1 k1 => ?_)
  replace k1 : Heap.SameBut it hp g1 := k1
  have N1 : IsEnum g1 e it i old := (k1.2 e ne).trans N
  show wpAny _ _ (field (.ref e) 3 >>= _) _ _ ⟨g1, g, d, tk, os⟩
  refine wpAny_bind (wpAny_field N1 rfl (x := rawInt i) rfl ?_)
  show wpAny _ _ (field (.ref e) 4 >>= _) _ _ ⟨g1, g, d, tk, os⟩
  refine wpAny_bind (wpAny_field N1 rfl (x := .none) rfl ?_)
  show wpAny _ _ (mkInt i >>= _) _ _ ⟨g1, g, d, tk, os⟩
  refine wpAny_bind (wpAny_mkInt ?_)
  show wpAny _ _ (setField (.ref e) 3 (rawInt ((i : Int) + 1)) >>= _) _ _ ⟨g1, g, d, tk + 1, os⟩
  refine wpAny_bind (wpAny_setField_rec N1 (by simp) fun g2 N2 k2 => ?_)
  replace k2 : Heap.SameBut e g1 g2 := k2
  replace N2 : IsEnum g2 e it ((i : Int) + 1) old := N2
  show wpAny _ _ (setField (.ref e) 4 .none >>= _) _ _ ⟨g2, g, d, tk + 1, os⟩
  refine wpAny_bind (wpAny_setField_rec N2 (by simp) fun g3 N3 k3 => ?_)
  replace k3 : Heap.SameBut e g2 g3 := k3
  replace N3 : IsEnum g3 e it ((i : Int) + 1) old := N3
  show wpAny _ _ (newTuple [.int i tk, x] >>= _) _ _ ⟨g3, g, d, tk + 1, os⟩
  refine wpAny_bind (wpAny_newTuple ?_)
  have N4 : IsEnum (g3.push { cls := .type "tuple", data := .seq #[.int i tk, x] }) e it ((i : Int) + 1) old := Heap.get?_push_of_some _ N3
  generalize hg4 : g3.push { cls := .type "tuple", data := .seq #[.int i tk, x] } = g4 at N4
  have sz : g3.objs.size = hp.objs.size := by rw [k3.1, k2.1, k1.1]
  have lt : e < hp.objs.size := Heap.lt_size N
  have T4 : g4.get? hp.objs.size = some { cls := .type "tuple", data := .seq #[.int i tk, x] } := by rw [← hg4, ← sz]; exact Heap.get?_push_size _ rfl
  have z4 : g4.objs.size = hp.objs.size + 1 := by rw [← hg4, Heap.size_push, sz]
  have K4 : ∀ b u, b ≠ e → b ≠ it → hp.get? b = some u → g4.get? b = some u := fun b u b1 b2 q => by
    rw [← hg4]
    exact Heap.get?_push_of_some _ (k3.extBut b u b1 (k2.extBut b u b1 (k1.extBut b u b2 q)))
  have C4 : Cur true g4 it l (i + 1) := by
    rw [← hg4]
    exact ((C1.but k2.extBut (Ne.symm ne)).but k3.extBut (Ne.symm ne)).at fun o q => Heap.get?_push_of_some _ q
  show wpAny _ _ (Builtin.SmallTypes.ownedTupleIsFree (.ref e) >>= _) _ _ ⟨g4, g, d, tk + 1, os⟩
  rw [sz]
  clear hg4 N3 k3 N2 k2 N1 k1 C1 sz g3 g2 g1
  refine wpAny_bind ?_
  unfold Builtin.SmallTypes.ownedTupleIsFree
  refine wpAny_bind (wpAny_field N4 rfl (x := .none) rfl (wpAny_pure ?_))
  simp only [if_true]
  refine wpAny_bind (wpAny_rule ?_)
  refine wpAny_bind (wpAny_field N4 rfl (x := old) rfl ?_)
  refine wpAny_bind (wpAny_setField_rec N4 (by simp) fun g5 N5 k5 => ?_)
  replace k5 : Heap.SameBut e g4 g5 := k5
  replace N5 : IsEnum g5 e it ((i : Int) + 1) x := N5
  show wpAny _ _ (Builtin.SmallTypes.ownedTupleHandOut (.ref e) (.ref hp.objs.size) >>= _) _ _ ⟨g5, g, d, tk + 1, os⟩
  refine wpAny_bind ?_
  unfold Builtin.SmallTypes.ownedTupleHandOut
  refine wpAny_bind (wpAny_setField_rec N5 (by simp) fun g6 N6 k6 => ?_)
  replace k6 : Heap.SameBut e g5 g6 := k6
  replace N6 : IsEnumOut g6 e it ((i : Int) + 1) x hp.objs.size := N6
  refine wpAny_setField_rec N6 (by simp) fun g7 N7 k7 => ?_
  replace k7 : Heap.SameBut e g6 g7 := k7
  replace N7 : IsEnumOut g7 e it ((i : Int) + 1) x hp.objs.size := N7
  have up : ∀ b u, b ≠ e → g4.get? b = some u → g7.get? b = some u := fun b u n q => k7.extBut b u n (k6.extBut b u n (k5.extBut b u n q))
  refine wpAny_bind (wpAny_letGo (wpAny_pure ⟨_, rfl, hQ g7 N7 (C4.at fun o q => up _ o (Ne.symm ne) q) (up _ _ (Nat.ne_of_gt lt) T4) (by rw [k7.1, k6.1, k5.1, z4]) fun b u b1 b2 q => up b u b1 (K4 b u b1 b2 q)⟩))
theorem enumT_next {e it l : Addr} {i : Nat} {xs : Array Value} {x old : Value} {Q : Option Value → Shared → Prop}
    (N : IsEnum s.heap e it i old) (C : Cur true s.heap it l i) (L : Row true s.heap l xs) (hx : xs[i]? = some x) (ne : e ≠ it)
    (hQ : ∀ g, IsEnumOut g e it ((i : Int) + 1) x s.heap.objs.size → Cur true g it l (i + 1) → g.get? s.heap.objs.size = some { cls := .type "tuple", data := .seq #[.int i s.toks, x] } → g.objs.size = s.heap.objs.size + 1 →
      (∀ b u, b ≠ e → b ≠ it → s.heap.get? b = some u → g.get? b = some u) → Q (some (.ref s.heap.objs.size)) { s with heap := g, toks := s.toks + 1 }) : wpAny (model prog w) A (pyNext (.ref e)) Q E s := by
  have t : s.TypeIs (.ref e) "enumerate" := ⟨_, N, rfl⟩
  unfold pyNext
  refine wpAny_bind (wpAny_attempt (wpAny_callSpecial?_slot (name := Str.ofString "__next__") t F.slot_enumerate_next (wpAny_call_entry F.slot_enumerate_next t F.entry_enumerate_next ?_ (F.args_enumerate_next_1 _))))
  exact enumT_item N C L hx ne fun g e1 e2 e3 e4 e5 => wpAny_pure (hQ g e1 e2 e3 e4 e5)
theorem enumT_end {e it l : Addr} {i : Nat} {xs : Array Value} {old : Value} {Q : Option Value → Shared → Prop} (hh : A.handled = none)
    (N : IsEnum s.heap e it i old) (C : Cur true s.heap it l i) (L : Row true s.heap l xs) (hx : xs[i]? = none) (hQ : ∀ g, Heap.ExtBut it s.heap g → Q none { s with heap := g }) : wpAny (model prog w) A (pyNext (.ref e)) Q E s := by
  have t : s.TypeIs (.ref e) "enumerate" := ⟨_, N, rfl⟩
  unfold pyNext
  refine wpAny_bind (wpAny_attempt (wpAny_callSpecial?_slot (name := Str.ofString "__next__") t F.slot_enumerate_next (wpAny_call_entry F.slot_enumerate_next t F.entry_enumerate_next ?_ (F.args_enumerate_next_1 _))))
  show wpAny _ _ (field (.ref e) 2 >>= _) _ _ _
  refine wpAny_bind (wpAny_field N rfl (x := .ref it) rfl ?_)
  refine wpAny_bind (cur_end hh C L hx fun g y k ⟨o, ho, hc⟩ => ?_)
  exact wpAny_bind (wpAny_isInstance (T := "StopIteration") (b := true) ⟨o, ho, hc⟩ isSubtype_stop (wpAny_pure (hQ _ k)))
end
abbrev E1 (h : Heap) (l : Addr) : Heap := h.push { cls := .type "tuple_iterator", data := .fields #[.ref l, .int 0 0] }
abbrev E2 (h : Heap) (l : Addr) : Heap := (E1 h l).push { cls := .type "enumerate", data := .fields #[.none, .bool false, .ref h.objs.size, rawInt 0, .none, .none] }
theorem makes_enum (l : Addr) (xs : Array Value) :
    Meets (Builtin.«enumerate.__new__» ⟨[.type "enumerate", .ref l], []⟩) (fun _ R s => s.heap.IsTuple l xs ∧ R (.ok (.ret (.ref (E1 s.heap l).objs.size))) { s with heap := E2 s.heap l }) :=
  .of_wp fun prog w A R s h => by
    obtain ⟨hp, g, d, tk, os⟩ := s
    obtain ⟨hl, h⟩ := h
    have sub := sub_enumerate
    have L : Heap.IsTuple (Shared.heap ⟨hp, g, d, tk, os⟩) l xs := hl
    obtain ⟨o, ho, hc, n, hd⟩ := id hl
    obtain ⟨c, dct, dt, sl⟩ := o
    replace hc : c = .type "tuple" := hc
    replace hd : dt = .seq xs n := hd
    subst hc hd
    wp_walk using AutoSeq1.wpAny_loadPart' ho
    refine wpAny_stack_any fun st => wpAny_pure ?_
    split
    · rename_i c _ _ _ _ _
      cases (c == Value.type "enumerate")
      · wp_walk using AutoSeq1.wpAny_loadPart' ho, wpAny_pyIter_tuple L
        exact ⟨_, rfl, h⟩
      · wp_walk using AutoSeq1.wpAny_loadPart' ho, wpAny_pyIter_tuple L
        exact ⟨_, rfl, h⟩
    · wp_walk using AutoSeq1.wpAny_loadPart' ho, wpAny_pyIter_tuple L
      exact ⟨_, rfl, h⟩
theorem call_enumT {prog : Program} {w : World} {A : Around} {E : Value → Shared → Prop} {s : Shared} {l : Addr} {xs : Array Value} {Q : Value → Shared → Prop} (L : s.heap.IsTuple l xs)
    (k : ∀ g, IsEnum g (s.heap.objs.size + 1) s.heap.objs.size 0 .none → Cur true g s.heap.objs.size l 0 → (∀ b u, s.heap.get? b = some u → g.get? b = some u) → Q (.ref (s.heap.objs.size + 1)) { s with heap := g }) : wpAny (model prog w) A (call (.type "enumerate") [.ref l]) Q E s := by
  refine callType_new F.called_enumerate (by decide) (F.typeCall_enumerate_1 _) (F.newCall_enumerate_1 _) (fun obj => F.args_object_init_2 obj _) F.entry_enumerate_new (makes_enum l xs) ⟨L, ?_⟩
  have z : (E1 s.heap l).objs.size = s.heap.objs.size + 1 := Heap.size_push ..
  show _ ∧ _
  have e2 : (E2 s.heap l).get? (E1 s.heap l).objs.size = some _ := Heap.get?_push_size _ rfl
  rw [z] at e2 ⊢
  exact ⟨⟨_, e2, rfl⟩, k _ e2 ⟨_, Heap.get?_push_of_some _ (Heap.get?_push_size _ rfl), rfl, rfl⟩ fun b u q => Heap.get?_push_of_some _ (Heap.get?_push_of_some _ q)⟩
/-- the tuple at a as it stands at each turn, each item in a new pair -/
def Itet (K : PySem.W.Frag) (a : Addr) : It :=
  ⟨fun i H => ∃ (xs : List V) (x : V), SqT K H a xs ∧ xs[i]? = some x, fun i H v H' => ∃ T x, v = .ref T ∧ H T = none ∧ H' = upd H T (.tup [.int (i : Nat), x]) ∧ ∀ xs, SqT K H a xs → xs[i]? = some x, fun i H => ∃ xs : List V, SqT K H a xs ∧ xs.length ≤ i⟩
theorem turn_enumT {P : Program} {w : World} {K : PySem.W.Frag} {elts : List Expr} {kk : Nat} {tp : Pos} (a e it : Addr) :
    Turn P w K (.Tuple elts kk tp) (Itet K a) [e, it] e (fun i h => (∃ old, IsEnum h e it ((i : Nat) : Int) old) ∧ Cur true h it a i ∧ e ≠ it) where
  mem := .head _
  obj := by
    rintro i h ⟨⟨old, N⟩, C, _⟩ b hb
    rcases (by simpa using hb : b = e ∨ b = it) with rfl | rfl
    · exact ⟨_, N, nofun⟩
    · exact C.obj
  keep := by
    rintro i h h' ⟨⟨old, N⟩, C, ne⟩ k
    exact ⟨⟨old, k e (by simp) _ N⟩, C.at fun o q => k it (by simp) o q, ne⟩
  item := by
    intro X hP hw hK hc i pins s σ H E I hf st hg
    subst hP hw hK
    obtain ⟨⟨old, N⟩, C, ne⟩ := st
    obtain ⟨xs, x, ax, hx⟩ := hg
    obtain ⟨us, rv, p, _⟩ := I.tuple ax
    obtain ⟨u, hu, ru⟩ := rv.get hx
    have lt : e < s.heap.objs.size := Heap.lt_size N
    refine enumT_next N C (show Row true s.heap a us.toArray from p) (x := u) (by simpa using hu) ne fun g Og Cg Tg sg k => ?_
    refine ⟨_, rfl, wpAny_letOwnedTupleGo_enum (s := { s with heap := g, toks := s.toks + 1 }) Og fun f Nf sb => ?_⟩
    have Tf : f.get? s.heap.objs.size = some { cls := .type "tuple", data := .seq #[.int i s.toks, u] } := (sb.2 _ (Nat.ne_of_gt lt)).trans Tg
    have new : ObjOk X.prog X.w (upd H s.heap.objs.size (.tup [.int (i : Nat), x])) f s.heap.objs.size (.tup [.int (i : Nat), x]) := ⟨by show 2 ≤ sizeLine; decide, [.int i s.toks, u], .cons ⟨_, rfl⟩ (.cons ru .nil), ⟨_, Tf, rfl, _, rfl⟩⟩
    have kf : ∀ b o, b ∉ [e, it] → s.heap.get? b = some o → f.get? b = some o := fun b o n q => by
      simp only [List.mem_cons, List.not_mem_nil, or_false, not_or] at n
      exact (sb.2 b n.1).trans (k b o n.1 n.2 q)
    have J : Inv X pins σ (upd H s.heap.objs.size (.tup [.int (i : Nat), x])) { s with heap := f, toks := s.toks + 1 } := I.turnedNew (ch := [e, it]) kf hf (Nat.le_refl _) new
    refine ⟨.ref s.heap.objs.size, _, J, rfl, ⟨_, x, rfl, I.hok.fresh (Nat.le_refl _), rfl, fun ys hy => by rw [I.tuple_inj hy ax]; exact hx⟩, ⟨⟨u, ?_⟩, Cg.at fun o q => (sb.2 it (Ne.symm ne)).trans q, ne⟩, fun b hb => ?_⟩
    · rw [show ((i + 1 : Nat) : Int) = (i : Int) + 1 by omega]
      exact Nf
    · have lt' : b < s.heap.objs.size := by
        rcases (by simpa using hb : b = e ∨ b = it) with q | q
        · exact q ▸ lt
        · exact q ▸ C.lt
      rw [upd_ne (Nat.ne_of_lt lt')]
      exact (hf b hb).1
  done := by
    intro X hP hw hK hc i pins s σ H E I hf st hg
    subst hP hw hK
    obtain ⟨⟨old, N⟩, C, ne⟩ := st
    obtain ⟨xs, ax, hx⟩ := hg
    obtain ⟨us, rv, p, _⟩ := I.tuple ax
    have n1 := rv.length
    refine enumT_end (I.ok.hd hc) N C (show Row true s.heap a us.toArray from p) (by simp; omega) fun g k => ⟨rfl, I.turnedL (t' := s.toks) (ch := [e, it]) (fun b o n q => ?_) hf⟩
    simp only [List.mem_cons, List.not_mem_nil, or_false, not_or] at n
    exact k b o n.2 q
  self := fun A i s Q E st h => let ⟨⟨_, N⟩, _⟩ := st; wpAny_pyIter_enum N h
def iEnumT (K : PySem.W.Frag) (ta : TA) : TI := fun σ H R => ta σ H fun vs H1 => ∃ a xs, vs = [.ref a] ∧ SqT K H1 a xs ∧ R (Itet K a) H1
theorem pi_enumT {X : Cx} {e : Expr} {ta : TA} {p pos tp : Pos} {elts : List Expr} {kk : Nat} (hg : Gl X "enumerate") (hm : X.mg "enumerate" = none) (ha : PA X [e] ta) (hs : starEach [e] X.env = [(false, eval e X.env)] := by rfl) :
    PI X (.Tuple elts kk tp) (.Call (.Name "enumerate" p) [e] [] pos) (iEnumT X.K ta) := by
  refine ⟨fun pins s σ H R I h => ?_⟩
  refine Call_ (ld_blt I hg hm boot_enumerate (PyProof.Rows.callWith_type1 (thn (ha.run pos pins s σ H _ I h) fun us s1 ⟨vs, H1, J, r1, q1⟩ => ?_) hs rfl))
  obtain ⟨a, xs, rfl, ax, q⟩ := q1
  rcases r1 with _ | ⟨r, _ | _⟩
  cases r
  obtain ⟨us, rv, p', _⟩ := J.tuple ax
  refine call_enumT (show s1.heap.IsTuple a us.toArray from p') fun g N C k => wpAny_pyIter_enum N ?_
  refine ⟨s1.heap.objs.size + 1, [s1.heap.objs.size + 1, s1.heap.objs.size], _, _, H1, rfl, J.kept (t' := s1.toks) k, turn_enumT a (s1.heap.objs.size + 1) s1.heap.objs.size, ⟨⟨.none, N⟩, C, Nat.succ_ne_self _⟩, fun b hb => ?_, q⟩
  have le : s1.heap.objs.size ≤ b := by
    rcases (by simpa using hb : b = s1.heap.objs.size + 1 ∨ b = s1.heap.objs.size) with z | z
    · rw [z]
      exact Nat.le_add_right _ _
    · rw [z]
      exact Nat.le_refl _
  exact J.fpOk le (J.hok.fresh le)
theorem walk_enumT {K : PySem.W.Frag} {a : Addr} {xs : List V} : Walk (Itet K a) xs.length (fun H => SqT K H a xs) (YPair (fun i => some (.int (i : Nat))) (fun i => xs[i]?)) := by
  refine ⟨fun i _ hi q => ⟨xs, xs[i], q, by simp [hi]⟩, fun _ q => ⟨xs, q, Nat.le_refl _⟩, fun i H v H' _ q ⟨T, x, h1, h2, h3, h4⟩ => ⟨T, .int (i : Nat), x, h1, h2, h3, rfl, h4 xs q⟩⟩
end ZLT
set_option Elab.async false
set_option linter.all false
set_option maxRecDepth 100000
set_option maxHeartbeats 2000000
/-! {k: v for .. in .. if .. for .. in .. if ..}: a dict comprehension with two clauses -/
namespace L2
open PySem PySem.Spec PyProof.Rows
section
variable {prog : Program} {w : World} {A : Around} {R : Result → Shared → Prop} {s : Shared} {kx vx t0 i0 t1 i1 : Expr} {f0 f1 : List Expr} {scope : Scope} {pos : Pos} {it : Value} {D : Addr} {env : Env}
theorem turnD2_out : compTurn (.DictComp kx vx [⟨t0, i0, f0, 0⟩, ⟨t1, i1, f1, 0⟩] scope pos) 0 it (.ref D) env = (do
      standAt i0.pos
      match ← pyNext it with
      | none => pure (.done .next)
      | some v =>
        letOwnedTupleGo t0 it v
        assign t0 env v
        let mut ok := true
        for c in f0 do
          if ok then ok ← isTrue c env (eval c env)
        if ok then
          let x ← eval i1 env
          standAt i1.pos
          let x ← foldedSetIterable i1 env x
          let _ ← runOwn (.compStart (.DictComp kx vx [⟨t0, i0, f0, 0⟩, ⟨t1, i1, f1, 0⟩] scope pos) 1 (← holding [x] (pyIter x)) (.ref D) env) env
        again (.compLoop (.DictComp kx vx [⟨t0, i0, f0, 0⟩, ⟨t1, i1, f1, 0⟩] scope pos) 0 it (.ref D) env)) := by rfl
theorem turnD2_in : compTurn (.DictComp kx vx [⟨t0, i0, f0, 0⟩, ⟨t1, i1, f1, 0⟩] scope pos) 1 it (.ref D) env = (do
      standAt i1.pos
      match ← pyNext it with
      | none => pure (.done .next)
      | some v =>
        letOwnedTupleGo t1 it v
        assign t1 env v
        let mut ok := true
        for c in f1 do
          if ok then ok ← isTrue c env (eval c env)
        if ok then
          (do
            let kv ← eval kx env
            let vv ← holding [kv] (eval vx env)
            standAt { kx.pos with endLine := vx.pos.endLine, endCol := vx.pos.endCol }
            holding [kv, vv] (dictSet D kv vv))
        again (.compLoop (.DictComp kx vx [⟨t0, i0, f0, 0⟩, ⟨t1, i1, f1, 0⟩] scope pos) 1 it (.ref D) env)) := by rfl
/-- an error within a turn is noted -/
abbrev Nt (prog : Program) (w : World) (A : Around) (env : Env) (R : Result → Shared → Prop) : Value → Shared → Prop := notedBy (model prog w) A env fun e s' => R (.error e) s'
/-- the tests of a clause, one behind the other -/
abbrev tests (env : Env) (fs : List Expr) : Sem Bool := forIn fs true fun c r => if r = true then do let ok ← isTrue c env (eval c env); pure (ForInStep.yield ok) else pure (ForInStep.yield r)
theorem loopD2_out (hs : ∀ x, foldedSetIterable i1 env x = pure x) (I : Nat → Shared → Prop)
    (turn : ∀ n s, I n s → wpAny (model prog w) A (pyNext it) (fun r s₁ => match r with
      | none => R (.ok .next) s₁
      | some v => wpAny (model prog w) A (letOwnedTupleGo t0 it v) (fun _ s₂ => wpAny (model prog w) A (assign t0 env v) (fun _ s₃ => wpAny (model prog w) A (tests env f0) (fun ok s₄ =>
            if ok = true then wpAny (model prog w) A (eval i1 env) (fun x s₅ => wpAny (model prog w) A (pyIter x) (fun it1 s₆ =>
              codeAny (model prog w) A (.compStart (.DictComp kx vx [⟨t0, i0, f0, 0⟩, ⟨t1, i1, f1, 0⟩] scope pos) 1 it1 (.ref D) env) (fun r s' => match r with
                | .ok _ => ∃ m, m < n ∧ I m s'
                | .error _ => False) s₆) (Nt prog w A env R) s₅) (Nt prog w A env R) s₄
            else ∃ m, m < n ∧ I m s₄) (Nt prog w A env R) s₃) (Nt prog w A env R) s₂) (Nt prog w A env R) s₁) (Nt prog w A env R) s)
    (n : Nat) (h : I n s) : codeAny (model prog w) A (.compLoop (.DictComp kx vx [⟨t0, i0, f0, 0⟩, ⟨t1, i1, f1, 0⟩] scope pos) 0 it (.ref D) env) R s := by
  refine codeAny_loop rfl I (fun n s hI => ?_) n h
  show wpAny _ A ((compTurn (.DictComp kx vx [⟨t0, i0, f0, 0⟩, ⟨t1, i1, f1, 0⟩] scope pos) 0 it (.ref D) env).onRaise (fun x => do noteFrame x env; theTreesLotGoes x)) _ _ s
  refine wpAny_noted ?_
  rw [turnD2_out]
  have up : ∀ {x : Value} {s : Shared}, Nt prog w A env R x s → Nt prog w A env R x s := fun h => h
  refine wpAny_bind (wpAny_standAt (wpAny_bind (wpAny_mono (turn n s hI) (fun r s₁ h₁ => ?_) fun _ _ => up)))
  rcases r with _ | v
  · exact wpAny_pure h₁
  refine wpAny_bind (wpAny_mono h₁ (fun _ s₂ h₂ => ?_) fun _ _ => up)
  refine wpAny_bind (wpAny_mono h₂ (fun _ s₃ h₃ => wpAny_bind (wpAny_mono h₃ (fun ok s₄ h₄ => ?_) fun _ _ => up)) fun _ _ => up)
  rcases ok with _ | _
  · exact wpAny_pure ⟨rfl, h₄⟩
  refine wpAny_bind (wpAny_mono h₄ (fun x s₅ h₅ => ?_) fun _ _ => up)
  refine wpAny_bind (wpAny_standAt (wpAny_bind (wpAny_of_eq (hs x) (wpAny_bind (wpAny_holding (wpAny_mono h₅ (fun it1 s₆ h₆ => ?_) fun _ _ => up))))))
  refine wpAny_bind (wpAny_runOwn ?_)
  rw [Around.mark_none]
  refine codeAny_mono h₆ fun r s' hr => ?_
  rcases r with e | f
  · exact hr.elim
  · first
      | exact wpAny_pure ⟨rfl, hr⟩
      | exact wpAny_bind (wpAny_pure (wpAny_pure ⟨rfl, hr⟩))
theorem loopD2_in (I : Nat → Shared → Prop)
    (turn : ∀ n s, I n s → wpAny (model prog w) A (pyNext it) (fun r s₁ => match r with
      | none => R (.ok .next) s₁
      | some v => wpAny (model prog w) A (letOwnedTupleGo t1 it v) (fun _ s₂ => wpAny (model prog w) A (assign t1 env v) (fun _ s₃ => wpAny (model prog w) A (tests env f1) (fun ok s₄ =>
            if ok = true then wpAny (model prog w) A (eval kx env) (fun kv s₅ => wpAny (model prog w) A (eval vx env) (fun vv s₆ =>
              wpAny (model prog w) A (dictSet D kv vv) (fun _ s₇ => ∃ m, m < n ∧ I m s₇) (Nt prog w A env R) s₆) (Nt prog w A env R) s₅) (Nt prog w A env R) s₄
            else ∃ m, m < n ∧ I m s₄) (Nt prog w A env R) s₃) (Nt prog w A env R) s₂) (Nt prog w A env R) s₁) (Nt prog w A env R) s)
    (n : Nat) (h : I n s) : codeAny (model prog w) A (.compLoop (.DictComp kx vx [⟨t0, i0, f0, 0⟩, ⟨t1, i1, f1, 0⟩] scope pos) 1 it (.ref D) env) R s := by
  refine codeAny_loop rfl I (fun n s hI => ?_) n h
  show wpAny _ A ((compTurn (.DictComp kx vx [⟨t0, i0, f0, 0⟩, ⟨t1, i1, f1, 0⟩] scope pos) 1 it (.ref D) env).onRaise (fun x => do noteFrame x env; theTreesLotGoes x)) _ _ s
  refine wpAny_noted ?_
  rw [turnD2_in]
  have up : ∀ {x : Value} {s : Shared}, Nt prog w A env R x s → Nt prog w A env R x s := fun h => h
  refine wpAny_bind (wpAny_standAt (wpAny_bind (wpAny_mono (turn n s hI) (fun r s₁ h₁ => ?_) fun _ _ => up)))
  rcases r with _ | v
  · exact wpAny_pure h₁
  refine wpAny_bind (wpAny_mono h₁ (fun _ s₂ h₂ => ?_) fun _ _ => up)
  refine wpAny_bind (wpAny_mono h₂ (fun _ s₃ h₃ => wpAny_bind (wpAny_mono h₃ (fun ok s₄ h₄ => ?_) fun _ _ => up)) fun _ _ => up)
  rcases ok with _ | _
  · exact wpAny_pure ⟨rfl, h₄⟩
  refine wpAny_bind (wpAny_bind (wpAny_mono h₄ (fun kv s₅ h₅ => wpAny_bind (wpAny_holding (wpAny_mono h₅ (fun vv s₆ h₆ => ?_) fun _ _ => up))) fun _ _ => up))
  exact wpAny_bind (wpAny_standAt (wpAny_holding (wpAny_mono h₆ (fun _ s₇ h₇ => wpAny_pure ⟨rfl, h₇⟩) fun _ _ => up)))
theorem startD2 (h0 : codeAny (model prog w) A (.compLoop (.DictComp kx vx [⟨t0, i0, f0, 0⟩, ⟨t1, i1, f1, 0⟩] scope pos) 1 it (.ref D) env) R s)
    (h : wpAny (model prog w) A (pyIter it) (fun it' s' => codeAny (model prog w) A (.compLoop (.DictComp kx vx [⟨t0, i0, f0, 0⟩, ⟨t1, i1, f1, 0⟩] scope pos) 1 it' (.ref D) env) R s') (Nt prog w A env R) s) :
    codeAny (model prog w) A (.compStart (.DictComp kx vx [⟨t0, i0, f0, 0⟩, ⟨t1, i1, f1, 0⟩] scope pos) 1 it (.ref D) env) R s := by
  refine codeAny_of_tree ?_
  show wpAny _ _ ((compStart (.DictComp kx vx [⟨t0, i0, f0, 0⟩, ⟨t1, i1, f1, 0⟩] scope pos) 1 it (.ref D) env).onRaise (fun x => do noteFrame x env; standAt theWindowsPlace)) _ _ s
  refine wpAny_notedAt ?_
  unfold compStart
  show wpAny _ _ (ask >>= _) _ _ s
  refine wpAny_bind (wpAny_askSetting (wpAny_ite ?_))
  have nx : ∀ (it' : Value) (s' : Shared), codeAny (model prog w) A (.compLoop (.DictComp kx vx [⟨t0, i0, f0, 0⟩, ⟨t1, i1, f1, 0⟩] scope pos) 1 it' (.ref D) env) R s' → True ∧ codeAny (model prog w) A (.compLoop (.DictComp kx vx [⟨t0, i0, f0, 0⟩, ⟨t1, i1, f1, 0⟩] scope pos) 1 it' (.ref D) env) R s' := fun _ _ h => ⟨trivial, h⟩
  split
  · first
      | exact wpAny_bind (wpAny_pure (wpAny_pure (And.intro rfl h0)))
      | exact wpAny_pure (And.intro rfl h0)
  · first
      | exact wpAny_bind (wpAny_rule (wpAny_bind (wpAny_standAt (wpAny_bind (wpAny_mono h (fun it' s' h' => wpAny_pure (And.intro rfl h')) fun _ _ x => x)))))
      | (refine wpAny_bind (wpAny_rule ?_); show wpAny _ _ (standAt i1.pos >>= _) _ _ s; exact wpAny_bind (wpAny_standAt (wpAny_bind (wpAny_mono h (fun it' s' h' => wpAny_pure (And.intro rfl h')) fun _ _ x => x))))
end
section
variable {X : Cx}
/-- whatever holds in the block's own context -/
abbrev InBlk (X : Cx) (scope : Scope) (F : Cx → Prop) : Prop := ∀ (s : Shared) (H : Hp) (C : Addr) (cl : List (Str × Addr)) (fp : List Addr), F (X.blk s H scope (compEnvC scope cl C X.env) fp)
/-- keys are ints or texts; D the new dict; vs the block's names, vs1 those of the second target -/
def tDc2 (wi : TI) (g : TG) (tt : TT) (wi1 : TI) (g1 : TG) (tt1 : TT) (tk tv : TE) (vs vs1 : List Nat) : TE := fun σ H Q => wi σ H fun J H1 => ∀ D, H1 D = none → ∃ W : Nat → Nat → Hp → Prop, (∃ m, W 0 m (upd H1 D (.dK []))) ∧ ∀ i m H, W i m H →
  (J.stop i H ∧ Q (.ref D) H) ∨ (J.go i H ∧ ∃ Nx : Hp → Prop, (∀ H', Nx H' → ∃ m', m' < m ∧ W (i + 1) m' H') ∧ ∀ x H', J.yld i H x H' → g x (wipe σ vs) H' fun σ2 H2 => wipe σ2 vs = wipe σ vs ∧ tt σ2 H2 fun b H3 =>
    if b = true then wi1 σ2 H3 fun J1 H4 => ∃ W1 : Nat → Nat → Hp → Prop, (∃ m, W1 0 m H4) ∧ ∀ j k H, W1 j k H →
      (J1.stop j H ∧ Nx H) ∨ (J1.go j H ∧ ∃ Nx1 : Hp → Prop, (∀ H', Nx1 H' → ∃ k', k' < k ∧ W1 (j + 1) k' H') ∧ ∀ x H', J1.yld j H x H' → g1 x (wipe σ2 vs1) H' fun σ3 H5 => wipe σ3 vs1 = wipe σ2 vs1 ∧ tt1 σ3 H5 fun b H6 =>
        if b = true then tk σ3 H6 fun y H7 => tv σ3 H7 fun z H8 => ∃ kvs k, y = kV k ∧ H8 D = some (.dK kvs) ∧ kvs.length < sizeLine ∧ Nx1 (upd H8 D (.dK (putK kvs k z))) else Nx1 H6)
    else Nx H3)
theorem pe_dc2 {kx vx tg iter tg1 iter1 : Expr} {ifs ifs1 : List Expr} {scope : Scope} {own : List (Str × Nat)} {vs1 : List Nat} {pos : Pos} {wi wi1 : TI} {g g1 : TG} {tt tt1 : TT} {tk tv : TE}
    (hc : X.calm = true) (hN : X.N.Nodup) (hi : PI X tg iter wi) (ok : BlkOk X.N X.env.scope scope own) (hv : ∀ i ∈ vs1, i ∈ own.map (·.2))
    (hg : InBlk X scope (PG · tg g)) (ht : InBlk X scope (PTs · ifs tt)) (hi1 : InBlk X scope (PI · tg1 iter1 wi1)) (hg1 : InBlk X scope (PG · tg1 g1)) (ht1 : InBlk X scope (PTs · ifs1 tt1))
    (hk : InBlk X scope (PE · kx tk)) (he : InBlk X scope (PE · vx tv)) (hs : ∀ x, foldedSetIterable iter X.env x = pure x := by intro _; rfl) (hs1 : ∀ env x, foldedSetIterable iter1 env x = pure x := by intro _ _; rfl) :
    PE X (.DictComp kx vx [⟨tg, iter, ifs, 0⟩, ⟨tg1, iter1, ifs1, 0⟩] scope pos) (tDc2 wi g tt wi1 g1 tt1 tk tv (own.map (·.2)) vs1) := by
  refine ⟨fun pins s σ H Q I h => ?_⟩
  rw [arm_eval_DictComp]
  have hfree : ∀ y ∈ scope.names, y.2 = .free → ∃ c, X.env.cells.lookup y.1 = some c := fun y hy e => (ok.free y hy e).elim (fun k => I.ok.has _ (.inl k)) fun k => I.ok.has _ (.inr k)
  refine wpAny_comprehension_free rfl hs (closure_ok hfree) ok.kind (fun y hy e => by rw [ok.uniq y hy, e])
    (thn (hi.run pins s σ H _ I h) fun xv s1 hx => thn hx fun itv s2 h2 => ?_)
  obtain ⟨it, fp, tn, J, H2, rfl, I2, T, st2, f2, q⟩ := h2
  refine wpAny_newObj_type (newEnv_comp ?_)
  generalize hD : s2.heap.objs.size = D
  have hDn : H2 D = none := I2.hok.fresh (Nat.le_of_eq hD)
  obtain ⟨W, ⟨m0, w0⟩, turn⟩ := q D hDn
  generalize hs3 : ({ s2 with heap := s2.heap.push { cls := .type "dict", data := .dict #[] } } : Shared) = s3
  have h3 : s3.heap = s2.heap.push { cls := .type "dict", data := .dict #[] } := by rw [← hs3]
  have I3 : Inv X pins σ (upd H2 D (.dK [])) s3 := by
    rw [← hs3]
    exact I2.laid (t' := s2.toks) (fun b o e => Heap.get?_push_of_some _ e) (Nat.le_of_eq hD) (hD ▸ dk_empty s2.heap I2.big)
  have sz : ∀ b ∈ fp, b < s2.heap.objs.size := fun b hb => let ⟨o, e, _⟩ := T.obj _ _ st2 b hb; Heap.lt_size e
  have f3 : ∀ b ∈ fp, FpOk X pins (upd H2 D (.dK [])) b ∧ b < s3.heap.objs.size := fun b hb =>
    ⟨⟨by rw [upd_ne (by rw [← hD]; exact Nat.ne_of_lt (sz b hb))]; exact (f2 b hb).1, (f2 b hb).2⟩, by rw [h3, Heap.size_push]; exact Nat.lt_succ_of_lt (sz b hb)⟩
  have st3 : tn 0 s3.heap := T.keep _ _ _ st2 fun b _ o e => by rw [h3]; exact Heap.get?_push_of_some _ e
  have I4 := block_start I3 ok hN f3
  have pg := hg s3 (upd H2 D (.dK [])) s3.heap.objs.size (cellsFrom (s3.heap.objs.size + 1) scope.names (cloFrom X.env.cells scope.names [])) fp
  have pt := ht s3 (upd H2 D (.dK [])) s3.heap.objs.size (cellsFrom (s3.heap.objs.size + 1) scope.names (cloFrom X.env.cells scope.names [])) fp
  have pk := hk s3 (upd H2 D (.dK [])) s3.heap.objs.size (cellsFrom (s3.heap.objs.size + 1) scope.names (cloFrom X.env.cells scope.names [])) fp
  have pe := he s3 (upd H2 D (.dK [])) s3.heap.objs.size (cellsFrom (s3.heap.objs.size + 1) scope.names (cloFrom X.env.cells scope.names [])) fp
  have qi := hi1 s3 (upd H2 D (.dK [])) s3.heap.objs.size (cellsFrom (s3.heap.objs.size + 1) scope.names (cloFrom X.env.cells scope.names [])) fp
  have qg := hg1 s3 (upd H2 D (.dK [])) s3.heap.objs.size (cellsFrom (s3.heap.objs.size + 1) scope.names (cloFrom X.env.cells scope.names [])) fp
  have qt := ht1 s3 (upd H2 D (.dK [])) s3.heap.objs.size (cellsFrom (s3.heap.objs.size + 1) scope.names (cloFrom X.env.cells scope.names [])) fp
  show codeAny _ _ (.compStart (.DictComp kx vx [⟨tg, iter, ifs, 0⟩, ⟨tg1, iter1, ifs1, 0⟩] scope pos) 0 (.ref it) (.ref D) (compEnvC scope (cellsFrom (s3.heap.objs.size + 1) scope.names (cloFrom X.env.cells scope.names [])) s3.heap.objs.size X.env)) (compPost (model X.prog X.w) X.A X.xe none (fun v s1 => ∃ x H', Inv X pins σ H' s1 ∧ RelV x v ∧ Q x H') (.ref D) s3.heap.objs.size) { s3 with heap := pushCells (s3.heap.push { cls := .type "dict", data := .dict #[] }) scope.names }
  have nfp : ∀ b ∈ fp, (upd H2 D (.dK [])) b = none := fun b hb => (f3 b hb).1.1
  generalize hce : compEnvC scope (cellsFrom (s3.heap.objs.size + 1) scope.names (cloFrom X.env.cells scope.names [])) s3.heap.objs.size X.env = ce at I4 pg pt pk pe qi qg qt ⊢
  have cL : ce.locals = s3.heap.objs.size := by subst hce; rfl
  generalize hH3 : upd H2 D (.dK []) = H3 at I3 I4 pg pt pk pe qi qg qt w0 nfp f3
  generalize hs4 : ({ s3 with heap := pushCells (s3.heap.push { cls := .type "dict", data := .dict #[] }) scope.names } : Shared) = s4 at I4 ⊢
  have st4 : tn 0 s4.heap := T.keep _ _ _ st3 fun b _ o e => by rw [← hs4]; exact pushCells_keeps _ _ _ _ (Heap.get?_push_of_some _ e)
  have none_ok : ∀ {σ' : L2.St} {H' : Hp} {s' : Shared}, Inv (X.blk s3 H3 scope ce fp) [] σ' H' s' → (∀ b ∈ fp, H' b = none) → ∀ b ∈ fp, FpOk (X.blk s3 H3 scope ce fp) [] H' b := fun {σ' H' s'} I' hn b hb =>
    ⟨hn b hb, (I'.ok.exf b hb).1, I'.ok.exfs b hb, .inl hb, fun x c e => (I'.ok.exf b hb).2 x c e, fun p hp => absurd (show p ∈ ([] : List (Addr × Obj)) ++ [] from hp) (by simp)⟩
  have pinned_is : ∀ (l : List Addr) (pp : List (Addr × Obj)) (hp : Heap) (σ' : L2.St) (H' : Hp) (s' : Shared), (∀ b ∈ l, ∃ o, hp.get? b = some o ∧ ∀ v, o.data ≠ .cell v) → Inv (X.blk s3 H3 scope ce fp) (pp ++ pinsAt l hp) σ' H' s' → ∀ b ∈ l, (∀ o, hp.get? b = some o → s'.heap.get? b = some o) ∧ H' b = none := by
    intro l pp hp σ' H' s' ho I' b hb
    have all : ∀ o, hp.get? b = some o → s'.heap.get? b = some o ∧ H' b = none := fun o e =>
      let z := I'.pin (b, o) (List.mem_append_right _ (List.mem_append_right _ (mem_pinsAt hb e)))
      ⟨z.1, z.2.1⟩
    obtain ⟨o, e, _⟩ := ho b hb
    exact ⟨fun o e => (all o e).1, (all o e).2⟩
  refine codeAny_compStart_dict (?loop : codeAny (model X.prog X.w) X.A (.compLoop (.DictComp kx vx [⟨tg, iter, ifs, 0⟩, ⟨tg1, iter1, ifs1, 0⟩] scope pos) 0 (.ref it) (.ref D) ce) _ s4) (T.self X.A 0 _ _ _ st4 ?loop)
  refine loopD2_out (hs1 ce) (fun n s' => ∃ i H', Inv (X.blk s3 H3 scope ce fp) [] (wipe σ (own.map (·.2))) H' s' ∧ tn i s'.heap ∧ (∀ b ∈ fp, H' b = none) ∧ W i n H') ?_ m0 ⟨0, H3, I4, st4, nfp, w0⟩
  rintro n s5 ⟨i, H5, I5, st5, n5, w5⟩
  rcases turn i n H5 w5 with ⟨stop, qq⟩ | ⟨go, Nx, hNx, step⟩
  · refine thnF (T.done (X.blk s3 H3 scope ce fp) rfl rfl rfl hc i [] s5 _ H5 (fun _ _ => False) I5 (none_ok I5 n5) st5 stop) fun r s6 ⟨hr, I6⟩ => ?_
    subst hr
    have I7 : Inv X pins σ H5 s6 := I3.call' (ch := fp) I6.os I6.base I6.hok I6.bare fun b hb => ⟨(f3 b hb).1.2.2.2.1, (f3 b hb).1.2.1, (f3 b hb).1.2.2.2.2.1, (f3 b hb).1.2.2.2.2.2⟩
    have nC : H5 s3.heap.objs.size = none := cL ▸ (show H5 ce.locals = none from I6.free)
    obtain ⟨m, hn, _⟩ := I6.loc
    have hn : s6.heap.Ns ce.locals m := hn
    rw [cL] at hn
    obtain ⟨z0, z1, z2, z3, z4, z5⟩ := I3.fpOk (Nat.le_refl _) nC
    exact ⟨m, hn, fun h'' sb => ⟨.ref D, H5, I7.turned (t' := s6.toks) (fun b o hb e => (sb.2 b hb).trans e) z0 z1 z3 z4 z5, rfl, qq⟩⟩
  refine thnF (T.item (X.blk s3 H3 scope ce fp) rfl rfl rfl hc i [] s5 _ H5 (fun _ _ => False) I5 (none_ok I5 n5) st5 go) fun r s6 ⟨u, hr, h6⟩ => ?_
  subst hr
  refine thnF h6 fun _ s7 ⟨x, H7, I7, r7, y7, st7, n7⟩ => ?_
  refine thnF (pg.run _ s7 _ H7 x u _ (I7.pinned (none_ok I7 n7) (T.obj _ _ st7)) r7 (step x H7 y7)) fun _ s8 ⟨σ8, H8, I8, hw8, q8⟩ => ?_
  refine thnF (pt.run _ s8 σ8 H8 _ I8 q8) fun b s9 ⟨H9, I9, q9⟩ => ?_
  -- from any slots that know what the block knew at its start, on to the next turn
  have on : ∀ {σ9 : L2.St} {s' : Shared} {H' : Hp}, Inv (X.blk s3 H3 scope ce fp) ([] ++ pinsAt fp s7.heap) σ9 H' s' → (wipe σ (own.map (·.2))).length = σ9.length → (∀ (j : Nat) v, (wipe σ (own.map (·.2)))[j]? = some (some v) → σ9[j]? = some (some v)) → Nx H' →
      ∃ m, m < n ∧ ∃ i H', Inv (X.blk s3 H3 scope ce fp) [] (wipe σ (own.map (·.2))) H' s' ∧ tn i s'.heap ∧ (∀ b ∈ fp, H' b = none) ∧ W i m H' := fun {σ9 s' H'} I' hl hk nx => by
    obtain ⟨m', hm, w'⟩ := hNx H' nx
    have same := pinned_is _ _ _ _ _ _ (T.obj _ _ st7) I'
    exact ⟨m', hm, i + 1, H', (I'.unpinned (pins := [])).weak hl hk, T.keep _ _ _ st7 fun b hb o e => (same b hb).1 o e, fun b hb => (same b hb).2, w'⟩
  have l8 : (wipe σ (own.map (·.2))).length = σ8.length := by rw [← hw8, wipe_length]
  have k8 : ∀ (j : Nat) v, (wipe σ (own.map (·.2)))[j]? = some (some v) → σ8[j]? = some (some v) := fun j v e => (wipe_some (hw8 ▸ e)).1
  have k9 : ∀ (j : Nat) v, (wipe σ (own.map (·.2)))[j]? = some (some v) → (wipe σ8 vs1)[j]? = some (some v) := fun j v e => by
    obtain ⟨e1, e2⟩ := wipe_some (hw8 ▸ e)
    rw [wipe_out fun z => e2 (hv j z)]
    exact e1
  rcases b with _ | _
  · simp only [Bool.false_eq_true, if_false] at q9 ⊢
    exact on I9 l8 k8 q9
  simp only [if_true] at q9 ⊢
  refine thnF (qi.run _ s9 σ8 H9 _ I9 q9) fun xv s10 hx => thnF hx fun itv s11 ⟨it1, fp1, tn1, J1, H11, e1, I11, T1, st11, f11, W1, ⟨m1, w1⟩, turn1⟩ => ?_
  subst e1
  have some_ok : ∀ {H' : Hp}, (∀ b ∈ fp1, H' b = none) → ∀ b ∈ fp1, FpOk (X.blk s3 H3 scope ce fp) ([] ++ pinsAt fp s7.heap) H' b := fun hn b hb => ⟨hn b hb, (f11 b hb).2⟩
  have second : codeAny (model X.prog X.w) X.A (.compLoop (.DictComp kx vx [⟨tg, iter, ifs, 0⟩, ⟨tg1, iter1, ifs1, 0⟩] scope pos) 1 (.ref it1) (.ref D) ce)
      (fun r s' => match r with
        | .ok _ => ∃ m, m < n ∧ ∃ i H', Inv (X.blk s3 H3 scope ce fp) [] (wipe σ (own.map (·.2))) H' s' ∧ tn i s'.heap ∧ (∀ b ∈ fp, H' b = none) ∧ W i m H'
        | .error _ => False) s11 := by
    refine loopD2_in (fun k s' => ∃ j H', Inv (X.blk s3 H3 scope ce fp) ([] ++ pinsAt fp s7.heap) (wipe σ8 vs1) H' s' ∧ tn1 j s'.heap ∧ (∀ b ∈ fp1, H' b = none) ∧ W1 j k H') ?_ m1 ⟨0, H11, I11.weak (wipe_length _ _) (fun j v e => (wipe_some e).1), st11, fun b hb => (f11 b hb).1, w1⟩
    rintro k s12 ⟨j, H12, I12, st12, n12, w12⟩
    rcases turn1 j k H12 w12 with ⟨stop1, nx1⟩ | ⟨go1, Nx1, hNx1, step1⟩
    · refine thnF (T1.done (X.blk s3 H3 scope ce fp) rfl rfl rfl hc j _ s12 (wipe σ8 vs1) H12 (fun _ _ => False) I12 (some_ok n12) st12 stop1) fun r s13 ⟨hr, I13⟩ => ?_
      subst hr
      exact on I13 (l8.trans (wipe_length σ8 vs1).symm) k9 nx1
    refine thnF (T1.item (X.blk s3 H3 scope ce fp) rfl rfl rfl hc j _ s12 (wipe σ8 vs1) H12 (fun _ _ => False) I12 (some_ok n12) st12 go1) fun r s13 ⟨u1, hr, h13⟩ => ?_
    subst hr
    refine thnF h13 fun _ s14 ⟨x1, H14, I14, r14, y14, st14, n14⟩ => ?_
    refine thnF (qg.run _ s14 (wipe σ8 vs1) H14 x1 u1 _ (I14.pinned (some_ok n14) (T1.obj _ _ st14)) r14 (step1 x1 H14 y14)) fun _ s15 ⟨σ15, H15, I15, hw15, q15⟩ => ?_
    refine thnF (qt.run _ s15 σ15 H15 _ I15 q15) fun b1 s16 ⟨H16, I16, q16⟩ => ?_
    have on1 : ∀ {s' : Shared} {H' : Hp}, Inv (X.blk s3 H3 scope ce fp) (([] ++ pinsAt fp s7.heap) ++ pinsAt fp1 s14.heap) σ15 H' s' → Nx1 H' →
        ∃ m, m < k ∧ ∃ j H', Inv (X.blk s3 H3 scope ce fp) ([] ++ pinsAt fp s7.heap) (wipe σ8 vs1) H' s' ∧ tn1 j s'.heap ∧ (∀ b ∈ fp1, H' b = none) ∧ W1 j m H' := fun {s' H'} I' nx => by
      obtain ⟨m', hm, w'⟩ := hNx1 H' nx
      have same := pinned_is _ _ _ _ _ _ (T1.obj _ _ st14) I'
      exact ⟨m', hm, j + 1, H', I'.unpinned.weak (by rw [← hw15, wipe_length]) (fun j v e => (wipe_some (hw15 ▸ e)).1), T1.keep _ _ _ st14 fun b hb o e => (same b hb).1 o e, fun b hb => (same b hb).2, w'⟩
    rcases b1 with _ | _
    · simp only [Bool.false_eq_true, if_false] at q16 ⊢
      exact on1 I16 q16
    simp only [if_true] at q16 ⊢
    refine thnF (pk.run _ s16 σ15 H16 _ I16 q16) fun z s17 ⟨yk, H17, I17, r17, q17⟩ => ?_
    refine thnF (pe.run _ s17 σ15 H17 _ I17 q17) fun z2 s18 ⟨yv, H18, I18, r18, kvs, k', ek, hD18, hz18, nx⟩ => ?_
    subst ek
    exact d_dictSet (X := X.blk s3 H3 scope ce fp) I18 hD18 hz18 r17 r18 fun s19 I19 => on1 I19 nx
  exact startD2 second (T1.self X.A 0 _ _ _ st11 second)
end
end L2
set_option Elab.async false
set_option linter.all false
set_option maxRecDepth 100000
set_option maxHeartbeats 2000000
/-! y = {k: v for ..}, y a local name that the block does not use -/
namespace L2
open PySem PySem.Spec PyProof.Rows
section
variable {X : Cx}
theorem ps_setDc {i : Nat} {y : Str} {py : Pos} {kx vx tg iter : Expr} {ifs : List Expr} {scope : Scope} {own : List (Str × Nat)} {pos spos : Pos} {wi : TI} {g : TG} {tt : TT} {tk tv : TE} (calm : X.calm = true) (nd : X.N.Nodup) (hy : X.N[i]? = some y) (loc : X.env.scope.names.lookup y = some .local)
    (sw : swapsWith (.DictComp kx vx [⟨tg, iter, ifs, 0⟩] scope pos) (some (.Name y py)) spos.line X.env = pure true) (hi : PI X tg iter wi) (ok : BlkOk X.N X.env.scope scope own)
    (hg : ∀ s H C cl fp, PG (X.blk s H scope (compEnvC scope cl C X.env) fp) tg g) (ht : ∀ s H C cl fp, PTs (X.blk s H scope (compEnvC scope cl C X.env) fp) ifs tt)
    (hk : ∀ s H C cl fp, PE (X.blk s H scope (compEnvC scope cl C X.env) fp) kx tk) (he : ∀ s H C cl fp, PE (X.blk s H scope (compEnvC scope cl C X.env) fp) vx tv) (hs : ∀ x, foldedSetIterable iter X.env x = pure x := by intro _; rfl) :
    PS X (.Assign [.Name y py] (.DictComp kx vx [⟨tg, iter, ifs, 0⟩] scope pos) spos) (tAsg (tDc wi g tt tk tv (own.map (·.2))) (gName i)) := by
  refine ⟨fun pins s σ H D I h => ?_⟩
  rw [exec_Assign_Name_used _ _ _ _ sw]
  refine wpAny_bind (wpAny_standAt (wpAny_bind ?_))
  show wpAny _ X.A (do let _ ← comprehension (.DictComp kx vx [⟨tg, iter, ifs, 0⟩] scope pos) scope X.env (firstIterPos [⟨tg, iter, ifs, 0⟩] pos) newDict false (eval iter X.env) (some (assign (.Name y py) X.env))) _ _ s
  have h : tDc wi g tt tk tv (own.map (·.2)) σ H (fun x H1 => gName i x σ H1 D.nx) := h
  refine wpAny_bind (thn (dc_core (Qf := fun _ s1 => SP X pins D .next s1) calm nd I hi ok hg ht hk he hs h fun L C s1 m H1 J q hn f => ?_) fun _ s1 z => wpAny_pure (wpAny_pure z))
  show wpAny _ _ (assign (.Name y py) X.env (.ref L)) _ _ _
  refine wpAny_assign_Name (store_ok2 (v := V.ref L) J nd hy (.inl loc) rfl (fun s2 J2 ⟨a, sb, ha⟩ => ?_) (.inr loc))
  obtain ⟨z0, z1, _, z3, z4, z5⟩ := f
  have ne : C ≠ a := ha.elim (fun z => z ▸ z1) fun z e => z4 y a z e.symm
  exact ⟨m, hn.sameBut sb ne, fun h3 sb3 => ⟨_, H1, J2.turned (t' := s2.toks) (fun b o hb e => (sb3.2 b hb).trans e) z0 z1 z3 z4 z5, q⟩⟩
theorem sw_dict {kx vx : Expr} {gs : List Comprehension} {scope : Scope} {pos py : Pos} {y : Str} {l : Nat} {env : Env} (hk : env.scope.kind = .function) (hy : env.scope.names.lookup y = some .local) (hl : (py.line == pos.line) = true)
    (ha : (scope.names.any fun (n, k) => n == y && (k == .local || k == .cell)) = false) : swapsWith (.DictComp kx vx gs scope pos) (some (.Name y py)) l env = pure true := by
  have ky : env.kindOf y = some .local := hy
  have hb : env.blockKind = .function := by
    unfold Env.blockKind
    rw [hk]
    rfl
  unfold swapsWith
  simp only [hb, ky, ha, Expr.pos, hl]
  rfl
end
end L2
set_option Elab.async false
set_option linter.all false
set_option maxRecDepth 100000
/-! sets of small numbers as bits of a natural number; xs[j] read for xs[j] op= e -/
namespace L2
open PySem PySem.Spec PyProof.Rows
section
variable {X : Cx}
/-- a natural number and another one -/
def rN2 (g : Nat → Nat → Nat) : R2 := fun x y H Q => ∃ a b : Nat, x = .int a ∧ y = .int b ∧ Q (.int (g a b : Nat)) H
/-- the same, the other one being a place -/
def rNK (g : Nat → Nat → Nat) : R2 := fun x y H Q => ∃ a b : Nat, x = .int a ∧ y = .int b ∧ b ≤ 1000000 ∧ Q (.int (g a b : Nat)) H
theorem orN (a b : Nat) : Builtin.bitOr (a : Int) (b : Int) = ((a ||| b : Nat) : Int) := bitOr_nn (Int.natCast_nonneg _) (Int.natCast_nonneg _)
theorem andN (a b : Nat) : Builtin.bitAnd (a : Int) (b : Int) = ((a &&& b : Nat) : Int) := by
  first
    | exact Bits.bitAnd_pp (Int.natCast_nonneg _) (Int.natCast_nonneg _)
    | exact bitAnd_pp (Int.natCast_nonneg _) (Int.natCast_nonneg _)
theorem op_orN : OpR X (binaryOp .BitOr) (rN2 (· ||| ·)) := by
  rintro pins s σ H x y v u Q I rx ry ⟨a, b, rfl, rfl, q⟩
  exact op_or pins s σ H _ _ v u Q I rx ry ⟨a, b, rfl, rfl, by show Q (.int (Builtin.bitOr _ _)) H; rw [orN]; exact q⟩
theorem op_andN : OpR X (binaryOp .BitAnd) (rN2 (· &&& ·)) := by
  rintro pins s σ H x y v u Q I rx ry ⟨a, b, rfl, rfl, q⟩
  exact op_and pins s σ H _ _ v u Q I rx ry ⟨a, b, rfl, rfl, by show Q (.int (Builtin.bitAnd _ _)) H; rw [andN]; exact q⟩
theorem op_shrNN : OpR X (binaryOp .RShift) (rN2 (· >>> ·)) := by
  rintro pins s σ H x y v u Q I rx ry ⟨a, b, rfl, rfl, q⟩
  refine op_shr pins s σ H _ _ v u Q I rx ry ⟨a, b, rfl, rfl, Int.natCast_nonneg _, ?_⟩
  have e : (a : Int) / 2 ^ (b : Int).toNat = ((a >>> b : Nat) : Int) := by
    rw [Int.toNat_natCast, Nat.shiftRight_eq_div_pow, Int.natCast_ediv, ← PySem.W.kbt_cast b]
  show Q (.int ((a : Int) / 2 ^ (b : Int).toNat)) H
  rw [e]
  exact q
theorem op_bitN : OpR X (binaryOp .LShift) (fun x y H Q => ∃ b : Nat, x = .int 1 ∧ y = .int b ∧ b ≤ 1000000 ∧ Q (.int ((1 <<< b : Nat))) H) := by
  rintro pins s σ H x y v u Q I rx ry ⟨b, rfl, rfl, hb, q⟩
  refine op_shl pins s σ H _ _ v u Q I rx ry ⟨1, b, rfl, rfl, ⟨Int.natCast_nonneg _, by omega, by decide⟩, ?_⟩
  have e : ∀ n : Nat, (1 : Int) * (2 : Int) ^ n = ((1 <<< n : Nat) : Int) := fun n => by
    rw [Nat.shiftLeft_eq, Nat.one_mul, Int.one_mul]
    exact (PySem.W.kbt_cast n).symm
  show Q (.int (1 * (2 : Int) ^ (b : Int).toNat)) H
  rw [e, Int.toNat_natCast]
  exact q
theorem ip_orN : PIp X .BitOr (rN2 (· ||| ·)) := by
  rintro pins s σ H x y v u Q I rx ry ⟨a, b, rfl, rfl, q⟩
  exact iop_or pins s σ H _ _ v u Q I rx ry ⟨a, b, rfl, rfl, by show Q (.int (Builtin.bitOr _ _)) H; rw [orN]; exact q⟩
/-- the bit itself -/
theorem bit_and (a k : Nat) : (a >>> k) &&& 1 = (a.testBit k).toNat := by
  rw [Nat.testBit, Nat.and_comm]
  rcases Nat.mod_two_eq_zero_or_one (a >>> k) with h | h <;> simp [Nat.one_and_eq_mod_two, h]
/-- the truth of a number -/
def tNum (ta : TE) : TT := fun σ H Q => ta σ H fun x H' => ∃ i : Int, x = .int i ∧ Q (i != 0) H'
theorem pt_num {a : Expr} {ta : TE} (ha : PE X a ta) (he : ∀ whole, isTrue a X.env whole = (do let v ← whole; standAt a.pos; holding [v] (truthy v)) := by intro _; rfl) : PT X a (tNum ta) :=
  ⟨fun pins s σ H Q I h => isTrue_plain (thn (ha.run pins s σ H _ I h) fun v s1 ⟨x, H1, I1, r1, i, e, q⟩ => tru_ok pins s1 σ H1 x v Q I1 r1 ⟨i != 0, by subst e; rfl, q⟩) (he _)⟩
/-- xs[j], a list's -/
def rGetN : V → V → Hp → VK → Prop := fun o i H Q => ∃ p xs v, ∃ j : Nat, o = .ref p ∧ i = .int j ∧ H p = some (.lst xs) ∧ xs[j]? = some v ∧ Q v H
theorem get_lstN : PGet X rGetN := by
  rintro pins s σ H o i ov iv Q I ro ri ⟨p, xs, v, j, rfl, rfl, hp, hx, q⟩
  cases ro
  obtain ⟨t, rfl⟩ := ri
  obtain ⟨its, n, r, ho, hz⟩ := I.lst hp
  obtain ⟨u, hu, ru⟩ := r.get hx
  have lt : j < xs.length := (List.getElem?_eq_some_iff.1 hx).1
  have h63 := line63
  exact wpAny_getItem_list (x := u) ⟨_, ho, rfl, n, rfl⟩ (Int.natCast_nonneg _) (by omega) (by simpa using hu) ⟨v, H, I, ru, q⟩
end
end L2
set_option Elab.async false
set_option linter.all false
set_option maxRecDepth 100000
/-! calls whose question names K -/
namespace L2
open PySem PySem.Spec PyProof.Rows
variable {X : Cx}
/-- tuple(list) -/
def rTupL (K : PySem.W.Frag) : List V → Hp → VK → Prop := fun vs H Q => ∃ p ys, vs = [.ref p] ∧ SqL K H p ys ∧ ∀ l, H l = none → Q (.ref l) (upd H l (.tup ys))
theorem cl_tupL : CallR X (.type "tuple") (rTupL X.K) := by
  rintro pins s σ H vs us Q I r ⟨p, ys, rfl, h, q⟩
  exact call_tuple_of pins s σ H _ us Q I r ⟨p, ys, rfl, .inl ⟨h, q⟩⟩
section
variable {X : Cx} {k : Nat} {ps : List Str} {sp : Sp} {x : Str} {p pos : Pos} {e : Expr} {es : List Expr} {t : TA}
/-- f(e, .., *xs), f a def of the module's top that keeps its promise -/
theorem pe_dfS (G : Df X.prog X.w X.K X.mg X.base x k ps sp) (hr : Room k X.A) (hg : Gl X x) (ha : PA X (e :: es) t) (hdb : (x == ("__debug__" : Str)) = false := by decide)
    (he : starEach (e :: es) X.env = (false, eval e X.env) :: starEach es X.env := by rfl) (hst : (backTo pos (starEach es X.env)).any (·.1) = true := by rfl) :
    PE X (.Call (.Name x p) (e :: es) [] pos) (tCall sp [] E0 t) := by
  obtain ⟨f, fd, F, m, kp, b⟩ := G.ex
  refine ⟨fun pins s σ H Q I h => ?_⟩
  refine wpAny_Call_Name_kw (ld_glob I hg m ?_ hdb)
  refine PySem.W.callWith_S2 (h₀ := X.base) I.ok.mod.kin kp (thn (ha.run pos pins s σ H _ I h) fun us s1 ⟨vs, H1, I1, r, q⟩ => ⟨I1.kIn, ?_⟩) he hst
  exact run_fn F hr b .nil pass0 I1 r q
end
end L2
set_option Elab.async false
set_option linter.all false
set_option maxRecDepth 100000
/-! a method that keeps its promise; a class that makes instances -/
namespace L2
open PySem PySem.Spec PyProof.Rows
theorem pe_globE {X : Cx} {x : Str} {v : V} {pos : Pos} (hg : Gl X x) (h : ∃ u, X.mg x = some u ∧ RelV v u) (hd : (x == ("__debug__" : Str)) = false := by decide) : PE X (.Name x pos) (tC v) := by
  obtain ⟨u, m, r⟩ := h
  exact pe_glob hg m r hd
/-- what is never reached -/
theorem ps_off {X : Cx} {st : Stmt} : PS X st (fun _ _ _ => False) := ⟨fun _ _ _ _ _ _ h => h.elim⟩
theorem pe_off {X : Cx} {e : Expr} : PE X e (fun _ _ _ => False) := ⟨fun _ _ _ _ _ _ h => h.elim⟩
structure Mt (P : Program) (w : World) (K : PySem.W.Frag) (mg : Str → Option Value) (base : Heap) (C : Addr) (m : Str) (k : Nat) (ps : List Str) (sp : Sp) : Prop where
  ex : ∃ (f : Addr) (fd : FuncData), FnOk P w K mg base CX0 k f fd ps sp ∧ Meth K C m f ∧ Binds K fd ps []
structure Mke (P : Program) (w : World) (K : PySem.W.Frag) (mg : Str → Option Value) (base : Heap) (C : Addr) (k : Nat) (ps : List Str) (sp : Sp) : Prop where
  ex : ∃ (f : Addr) (fd : FuncData), FnOk P w K mg base CX0 k f fd ps sp ∧ Mk K C f ∧ Binds K fd ps []
section
variable {X : Cx} {k : Nat} {ps : List Str} {sp : Sp} {x m : Str} {C : Addr} {p pos apos : Pos} {o e : Expr} {es : List Expr} {ta : TE} {t : TA} {pl : Sem Bool}
theorem pe_mt (c : Cls X.K C) (G : Mt X.prog X.w X.K X.mg X.base C m k ps sp) (hr : Room k X.A) (he : PE X o ta) (ha : PA X (e :: es) t)
    (hst : starEach (e :: es) X.env = (false, eval e X.env) :: starEach es X.env := by rfl) (hpl : (backTo pos (starEach es X.env)).any (·.1) = false := by rfl)
    (ht : eval (.Call (.Attribute o m apos) (e :: es) [] pos) X.env = (do
      let ov ← eval o X.env
      standAt apos.atName
      let (f, first) ← holding [ov] (getMethod ov m pl)
      callWith pos f first (backTo pos (starEach (e :: es) X.env)) (backToKw pos (keywordEach [] X.env))) := by rfl) :
    PE X (.Call (.Attribute o m apos) (e :: es) [] pos) (tMeth C m sp [] E0 ta t) := by
  obtain ⟨f, fd, F, hm, hb⟩ := G.ex
  exact pe_meth he c hm F hr hb .nil pass0 ha hst hpl ht
theorem pe_mt0 (c : Cls X.K C) (G : Mt X.prog X.w X.K X.mg X.base C m k ps sp) (hr : Room k X.A) (he : PE X o ta)
    (ht : eval (.Call (.Attribute o m apos) [] [] pos) X.env = (do
      let ov ← eval o X.env
      standAt apos.atName
      let (f, first) ← holding [ov] (getMethod ov m pl)
      callWith pos f first (backTo pos (starEach [] X.env)) (backToKw pos (keywordEach [] X.env))) := by rfl) :
    PE X (.Call (.Attribute o m apos) [] [] pos) (tMeth C m sp [] E0 ta tNil) := by
  obtain ⟨f, fd, F, hm, hb⟩ := G.ex
  exact pe_meth0 he c hm F hr hb .nil pass0 ht
theorem pe_mke (G : Mke X.prog X.w X.K X.mg X.base C k ps sp) (hr : Room (k + 1) X.A) (hg : Gl X x) (hm : X.mg x = some (.ref C)) (ha : PA X (e :: es) t) (hdb : (x == ("__debug__" : Str)) = false := by decide)
    (he : starEach (e :: es) X.env = (false, eval e X.env) :: starEach es X.env := by rfl) (hpl : (backTo pos (starEach es X.env)).any (·.1) = false := by rfl) : PE X (.Call (.Name x p) (e :: es) [] pos) (tMake C sp [] E0 t) := by
  obtain ⟨f, fd, F, M, hb⟩ := G.ex
  exact pe_make M F hr hg hm hb .nil pass0 ha hdb he hpl
end
end L2
set_option Elab.async false
set_option linter.all false
set_option maxRecDepth 100000
/-! min(a, b) of two texts -/
namespace L2
open PySem PySem.Spec PyProof.Rows TKS
open PySem.Sem (wp)
def txtItems (x y : Str) (t u : Tok) : Array Value := #[.str x t, .str y u]
def txtAt (x y : Str) (i : Nat) : Str := if i = 0 then x else y
theorem txt_at {x y : Str} {t u : Tok} {i : Nat} {v : Value} (h : (txtItems x y t u)[i]? = some v) : ∃ t, v = .str (txtAt x y i) t := by
  match i, h with
  | 0, h => exact ⟨t, (Option.some.inj h).symm⟩
  | 1, h => exact ⟨u, (Option.some.inj h).symm⟩
  | n + 2, h => exact absurd h (by simp [txtItems])
theorem cmp_txts {prog : Program} {w : World} {A : Around} {P : Nat → Value → Prop} (val : Nat → Str) (hval : ∀ i v, P i v → ∃ t, v = .str (val i) t) : CmpOf prog w A .Lt P (fun i j => slt (val i) (val j)) := fun i j vi vj s Q E hi hj h => by
  obtain ⟨t, rfl⟩ := hval i vi hi
  obtain ⟨u, rfl⟩ := hval j vj hj
  exact PyProof.Rows.lt_str h
theorem min_txt {prog : Program} {w : World} {A : Around} {E : Value → Shared → Prop} {s : Shared} {x y : Str} {t u : Tok} {Q : Value → Shared → Prop} (hh : A.handled = none)
    (h : ∀ g tk, (∀ c o, s.heap.get? c = some o → g.get? c = some o) → Q (if slt y x = true then .str y u else .str x t) { s with heap := g, toks := tk }) : wpAny (model prog w) A (call (.builtin "min") [.str x t, .str y u]) Q E s := by
  have T : (s.heap.push { cls := .type "tuple", data := .seq #[.str x t, .str y u] }).IsTuple s.heap.objs.size (txtItems x y t u) := ⟨_, Heap.get?_push_size _ rfl, rfl, 0, by simp [txtItems]⟩
  refine call_min_two (wpAny_pyIter_tuple T ?_)
  have sz : (s.heap.push { cls := .type "tuple", data := .seq #[.str x t, .str y u] }).objs.size = s.heap.objs.size + 1 := Heap.size_push ..
  refine ⟨_, [_, s.heap.objs.size], [_], _, _, _, _, rfl, Walks.tuple (A := A.in1) hh _ s.heap.objs.size (by rw [sz]; exact Nat.ne_of_lt (Nat.lt_succ_self _)) (txtItems x y t u),
    ⟨⟨_, Heap.get?_push_size _ rfl, rfl, rfl⟩, T.push _⟩, fun c hc => ?_, by simp [txtItems], cmp_txts (txtAt x y) (fun _ _ => txt_at), fun v g tk hP hk => ?_⟩
  · show c < ((s.heap.push _).push _).objs.size
    rw [Heap.size_push, sz]
    rcases (by simpa using hc : c = _ ∨ c = s.heap.objs.size) with rfl | rfl
    · exact Nat.lt_succ_self _
    · exact Nat.lt_succ_of_lt (Nat.lt_succ_self _)
  · have old : ∀ c o, s.heap.get? c = some o → g.get? c = some o := fun c o e => by
      refine hk c o (fun hm => ?_) (Heap.get?_push_of_some _ (Heap.get?_push_of_some _ e))
      have e1 := List.mem_singleton.mp hm
      have lt := Heap.lt_size e
      rw [e1, sz] at lt
      exact Nat.lt_irrefl _ (Nat.lt_of_succ_lt lt)
    have k := h g tk old
    have hP : (txtItems x y t u)[argBest (fun i j => slt (txtAt x y i) (txtAt x y j)) 1]? = some v := hP
    have e0 : argBest (fun i j => slt (txtAt x y i) (txtAt x y j)) 1 = if slt y x = true then 1 else 0 := rfl
    rw [e0] at hP
    by_cases c : slt y x = true
    · rw [if_pos c] at hP k
      cases hP
      exact k
    · rw [if_neg c] at hP k
      cases hP
      exact k
/-- min of two texts -/
def rMinTx : List V → Hp → VK → Prop := fun vs H Q => ∃ x y : Str, vs = [.str x, .str y] ∧ Q (.str (if slt y x = true then y else x)) H
theorem cr_minTx {X : Cx} (hc : X.calm = true) : CallR X (.builtin "min") rMinTx := by
  rintro pins s σ H xs us Q I r ⟨x, y, rfl, q⟩
  obtain ⟨u, u', rfl, ⟨t, rfl⟩, ⟨t', rfl⟩⟩ := vals2 r
  refine min_txt (I.ok.hd hc) fun g tk k => ⟨_, H, I.kept k, ?_, q⟩
  by_cases c : slt y x = true
  · rw [if_pos c, if_pos c]; exact ⟨_, rfl⟩
  · rw [if_neg c, if_neg c]; exact ⟨_, rfl⟩
end L2
set_option Elab.async false
set_option linter.all false
set_option maxRecDepth 100000
/-! d.update(e), two dicts -/
namespace L2
open PySem PySem.Spec PyProof.Rows
theorem mergeK_length : ∀ (ls ks : List (Key × V)), (mergeK ks ls).length ≤ ks.length + ls.length
  | [], ks => Nat.le_refl _
  | l :: r, ks => by
    have h1 := mergeK_length r (putK ks l.1 l.2)
    have h2 := length_putK ks l.1 l.2
    show (mergeK (putK ks l.1 l.2) r).length ≤ ks.length + (r.length + 1)
    omega
theorem upd_self {P : Program} {w : World} {κ : Type} [DecidableEq κ] (knd : KeyKind P w κ) (d : Addr) :
    MeetsIn P w (Builtin.«dict.update» ⟨[.ref d, .ref d], []⟩) (fun _ R s => (∃ kvs, s.heap.DictOf knd d kvs) ∧ R (.ok (.ret .none)) s) :=
  .of_wp fun A R s ⟨⟨kvs, hd⟩, h⟩ => by
    unfold Builtin.«dict.update»
    refine wpAny_bind ?_
    unfold Builtin.Dict.selfAndRest
    refine wpAny_bind (wpAny_notOrdered_dict hd.typeIs ?_)
    show wpAny _ _ (pure (d, [Value.ref d])) _ _ s
    refine wpAny_pure ?_
    show wpAny _ _ (Builtin.Dict.updateFrom "dict.update" d (.ref d) [] .none) _ _ s
    unfold Builtin.Dict.updateFrom
    refine wpAny_bind (wpAny_typeOf hd.typeIs ?_)
    rw [if_neg (by decide)]
    refine wpAny_bind ?_
    unfold Builtin.Dict.merge
    refine wpAny_bind ?_
    unfold Builtin.Dict.readDirectly
    refine wpAny_bind (wpAny_isInstance hd.typeIs isSubtype_dict_dict ?_)
    simp only [Bool.not_true, Bool.false_eq_true, if_false]
    refine wpAny_bind (wpAny_specialOf hd.typeIs F.slot_dict_iter.lookup (wpAny_pure ?_))
    simp only [beq_self_eq_true, if_true]
    refine wpAny_bind (wpAny_pure ?_)
    show wpAny _ _ (Builtin.Dict.mergeDict "dict.update" d d) _ _ _
    unfold Builtin.Dict.mergeDict
    simp only [beq_self_eq_true, if_true]
    refine wpAny_bind (wpAny_rule (wpAny_pure ?_))
    show wpAny _ _ (Builtin.Dict.addKeywords d [] >>= _) _ _ _
    exact wpAny_bind (wpAny_pure (wpAny_pure ⟨.none, rfl, h⟩))
/-- the same dict's own update changes nothing -/
def rUpdS : V → List V → Hp → VK → Prop := fun x vs H Q => ∃ a b ks ls, x = .ref a ∧ vs = [.ref b] ∧ H a = some (.dK ks) ∧ Rd H b (.dK ls) ∧ ks.length + ls.length ≤ sizeLine ∧ (a = b → Q .non H) ∧ (a ≠ b → Q .non (upd H a (.dK (mergeK ks ls))))
/-- d.update(e), d and e two dicts of ints and texts -/
def rUpd : V → List V → Hp → VK → Prop := fun x vs H Q => ∃ a b ks ls, x = .ref a ∧ vs = [.ref b] ∧ H a = some (.dK ks) ∧ Rd H b (.dK ls) ∧ a ≠ b ∧ ks.length + ls.length ≤ sizeLine ∧ Q .non (upd H a (.dK (mergeK ks ls)))
theorem mt_update {X : Cx} : MtM X "dict.update" rUpd := by
  rintro pins s σ H x vs v us Q I rx rv ⟨a, b, ks, ls, rfl, rfl, hA, hB, ne, hz, q⟩
  cases rx
  obtain ⟨u, rfl, ru⟩ := rv.one
  cases ru
  obtain ⟨_, ya, va, ra, da⟩ := dk_of I.hok hA
  obtain ⟨_, yb, vb, rb, db⟩ := dk_rd I.hok hB
  have hzv : va.length + vb.length ≤ sizeLine := by rw [← ra.length, ← rb.length]; exact hz
  have lm := mergeK_length ls ks
  have fin : ∀ h', h'.DictOf (mixKind X.prog X.w) a (merged va vb) → h'.DictOf (mixKind X.prog X.w) b vb → Heap.SameBut a s.heap h' → EP X pins σ Q .none { s with heap := h' } := fun h' d1 _ sb => by
    have he : ∃ o, h'.get? a = some o := let ⟨o, _, _, ho, _⟩ := d1; ⟨o, ho⟩
    exact ⟨.non, _, d_write (t' := s.toks) I (by rw [hA]; exact True.intro) sb he (dk_new (by omega) ya (KV.merge rb ra) d1), rfl, q⟩
  exact call_meetsIn F.slot_dict_update da.typeIs F.entry_dict_update (F.args_dict_update_2 _ _) (meets_dict_update (mixKind X.prog X.w) a b ne yb) ⟨va, vb, da, db, hzv, fin⟩
theorem mt_updateS {X : Cx} : MtM X "dict.update" rUpdS := by
  rintro pins s σ H x vs v us Q I rx rv ⟨a, b, ks, ls, rfl, rfl, hA, hB, hz, q1, q2⟩
  by_cases e : a = b
  · subst e
    cases rx
    obtain ⟨u, rfl, ru⟩ := rv.one
    cases ru
    obtain ⟨_, ya, va, ra, da⟩ := dk_of I.hok hA
    exact call_meetsIn F.slot_dict_update da.typeIs F.entry_dict_update (F.args_dict_update_2 _ _) (upd_self (mixKind X.prog X.w) a) ⟨⟨va, da⟩, .non, H, I, rfl, q1 rfl⟩
  · exact mt_update pins s σ H _ _ v us Q I rx rv ⟨a, b, ks, ls, rfl, rfl, hA, hB, e, hz, q2 e⟩
end L2
set_option Elab.async false
set_option linter.all false
/-! what dict(list of pairs) holds -/
namespace L2
open PySem PySem.Spec PyProof.Rows
open Classical in
theorem putK_keys (kvs : List (Key × V)) (k : Key) (v : V) : (putK kvs k v).map (·.1) = if k ∈ kvs.map (·.1) then kvs.map (·.1) else kvs.map (·.1) ++ [k] := by
  have e : (kvs.any fun e => decide (e.1 = k)) = true ↔ k ∈ kvs.map (·.1) := by
    rw [List.any_eq_true, List.mem_map]
    exact ⟨fun ⟨x, h, g⟩ => ⟨x, h, of_decide_eq_true g⟩, fun ⟨x, h, g⟩ => ⟨x, h, decide_eq_true g⟩⟩
  unfold putK
  by_cases h : k ∈ kvs.map (·.1)
  · rw [if_pos (e.mpr h), if_pos h, List.map_map]
    refine List.map_congr_left fun x _ => ?_
    show (if x.1 = k then (x.1, v) else x).1 = x.1
    split <;> rfl
  · rw [if_neg (fun z => h (e.mp z)), if_neg h, List.map_append]
    rfl
theorem mergeK_cons (acc : List (Key × V)) (e : Key × V) (r : List (Key × V)) : mergeK acc (e :: r) = mergeK (putK acc e.1 e.2) r := rfl
/-- a key that is not told stays what it was -/
theorem merge_out {k : Key} : ∀ (ls acc : List (Key × V)), k ∉ ls.map (·.1) → valV (mergeK acc ls) k = valV acc k
  | [], _, _ => rfl
  | e :: r, acc, h => by
    rw [List.map_cons, List.mem_cons, not_or] at h
    rw [mergeK_cons, merge_out r _ h.2, valV_put, if_neg h.1]
/-- a key that is told has one of its values -/
theorem merge_in {k : Key} : ∀ (ls acc : List (Key × V)), k ∈ ls.map (·.1) → ∃ v, (k, v) ∈ ls ∧ valV (mergeK acc ls) k = some v
  | e :: r, acc, h => by
    rw [mergeK_cons]
    by_cases c : k ∈ r.map (·.1)
    · obtain ⟨v, hv, q⟩ := merge_in r (putK acc e.1 e.2) c
      exact ⟨v, List.mem_cons_of_mem _ hv, q⟩
    · rw [List.map_cons, List.mem_cons] at h
      have ek : k = e.1 := h.resolve_right c
      refine ⟨e.2, by rw [ek]; exact List.mem_cons_self, ?_⟩
      rw [merge_out r _ c, valV_put, if_pos ek]
/-- one value a key: that one -/
theorem merge_fun {k : Key} {v : V} {ls acc : List (Key × V)} (f : ∀ e ∈ ls, e.1 = k → e.2 = v) (h : k ∈ ls.map (·.1)) : valV (mergeK acc ls) k = some v := by
  obtain ⟨u, hu, q⟩ := merge_in ls acc h
  have e : u = v := f (k, u) hu rfl
  rw [q, e]
theorem merge_keys_nodup : ∀ (ls acc : List (Key × V)), (acc.map (·.1)).Nodup → ((mergeK acc ls).map (·.1)).Nodup
  | [], _, h => h
  | e :: r, acc, h => by
    rw [mergeK_cons]
    refine merge_keys_nodup r _ ?_
    rw [putK_keys]
    split
    · exact h
    · rename_i c
      refine List.nodup_append.mpr ⟨h, List.nodup_cons.mpr ⟨List.not_mem_nil, List.nodup_nil⟩, fun a ha b hb z => ?_⟩
      cases List.mem_singleton.mp hb
      exact c (z ▸ ha)
theorem merge_keys_mem {k : Key} : ∀ (ls acc : List (Key × V)), k ∈ (mergeK acc ls).map (·.1) ↔ k ∈ acc.map (·.1) ∨ k ∈ ls.map (·.1)
  | [], acc => by
    show k ∈ acc.map (·.1) ↔ _
    simp
  | e :: r, acc => by
    rw [mergeK_cons, merge_keys_mem r, putK_keys, List.map_cons, List.mem_cons]
    split
    · rename_i c
      constructor
      · rintro (h | h)
        · exact .inl h
        · exact .inr (.inr h)
      · rintro (h | rfl | h)
        · exact .inl h
        · exact .inl c
        · exact .inr h
    · rw [List.mem_append, List.mem_singleton]
      constructor
      · rintro ((h | h) | h)
        · exact .inl h
        · exact .inr (.inl h)
        · exact .inr (.inr h)
      · rintro (h | h | h)
        · exact .inl (.inl h)
        · exact .inl (.inr h)
        · exact .inr h
/-- a key is there exactly where it has a value -/
theorem key_val {kvs : List (Key × V)} {k : Key} : (∃ v, valV kvs k = some v) ↔ k ∈ kvs.map (·.1) := by
  rw [← Option.isSome_iff_exists, ← valV_any, List.any_eq_true, List.mem_map]
  exact ⟨fun ⟨x, h, g⟩ => ⟨x, h, of_decide_eq_true g⟩, fun ⟨x, h, g⟩ => ⟨x, h, decide_eq_true g⟩⟩
end L2
set_option Elab.async false
set_option linter.all false
/-! what chains reach, n steps reach, n the number of things -/
namespace L2
variable {α : Type}
theorem count_same {p q : α → Bool} : ∀ {l : List α}, (∀ x ∈ l, p x = true → q x = true) → l.countP q ≤ l.countP p → ∀ x ∈ l, q x = true → p x = true
  | [], _, _, _, h, _ => nomatch h
  | a :: l, h, e, x, hx, hq => by
    have sub : l.countP p ≤ l.countP q := List.countP_mono_left fun y hy => h y (List.mem_cons_of_mem _ hy)
    rw [List.countP_cons, List.countP_cons] at e
    have ha := h a List.mem_cons_self
    have e2 : l.countP q ≤ l.countP p := by
      cases hp : p a with
      | true => rw [hp, ha hp] at e; simpa using e
      | false =>
        rw [hp] at e
        simp only [Bool.false_eq_true, if_false, Nat.add_zero] at e
        omega
    rcases List.mem_cons.mp hx with rfl | hx
    · cases hp : p x with
      | true => rfl
      | false =>
        rw [hp, hq] at e
        simp only [Bool.false_eq_true, if_false, Nat.add_zero, if_true] at e
        omega
    · exact count_same (fun y hy => h y (List.mem_cons_of_mem _ hy)) e2 x hx hq
/-- within k steps -/
def Within (E : α → α → Prop) : Nat → α → α → Prop
  | 0, x, y => x = y
  | k + 1, x, y => Within E k x y ∨ ∃ z, Within E k x z ∧ E z y
inductive Star (E : α → α → Prop) (x : α) : α → Prop
  | refl : Star E x x
  | tail {z y : α} (h : Star E x z) (g : E z y) : Star E x y
theorem Within.more {E : α → α → Prop} {x y : α} : ∀ {k l : Nat}, k ≤ l → Within E k x y → Within E l x y := by
  intro k l le
  induction le with
  | refl => exact id
  | step _ ih => exact fun h => .inl (ih h)
open Classical in
theorem star_within {V : List α} {E : α → α → Prop} (hV : ∀ x y, E x y → y ∈ V) {x y : α} (hx : x ∈ V) (h : Star E x y) : Within E V.length x y := by
  let c : Nat → Nat := fun k => V.countP fun y => decide (Within E k x y)
  have up : ∀ k, c k ≤ c (k + 1) := fun k => List.countP_mono_left fun y _ h => decide_eq_true (.inl (of_decide_eq_true h))
  have c0 : 1 ≤ c 0 := List.countP_pos_iff.mpr ⟨x, hx, decide_eq_true rfl⟩
  have top : ∀ k, c k ≤ V.length := fun k => List.countP_le_length
  have grow : (∀ k, k < V.length → c k < c (k + 1)) → ∀ k, k ≤ V.length → k + 1 ≤ c k := fun g k => by
    induction k with
    | zero => exact fun _ => c0
    | succ k ih =>
      intro hk
      have h1 := ih (by omega)
      have h2 := g k (by omega)
      omega
  have stop : ∃ k, k < V.length ∧ c (k + 1) ≤ c k := by
    refine Classical.byContradiction fun n => ?_
    have g : ∀ k, k < V.length → c k < c (k + 1) := fun k hk => Nat.lt_of_not_le fun z => n ⟨k, hk, z⟩
    have h1 := grow g V.length (Nat.le_refl _)
    have h2 := top V.length
    omega
  obtain ⟨k, hk, e⟩ := stop
  have closed : ∀ y ∈ V, Within E (k + 1) x y → Within E k x y := fun y hy h =>
    of_decide_eq_true (count_same (fun z _ h => decide_eq_true (.inl (of_decide_eq_true h))) e y hy (decide_eq_true h))
  have all : Within E k x y := by
    induction h with
    | refl => exact Within.more (Nat.zero_le k) (show Within E 0 x x from rfl)
    | @tail z y _ g ih => exact closed y (hV _ _ g) (.inr ⟨z, ih, g⟩)
  exact all.more (Nat.le_of_lt hk)
end L2
set_option Elab.async false
set_option linter.all false
set_option maxRecDepth 100000
set_option maxHeartbeats 4000000
/-! a tale as a list of words and moments; where it stands; its links -/
namespace L2
open PySem PySem.Spec PyProof.Rows
abbrev Sen := Str × Str
abbrev Lnk := Str × Str × Bool
def mvW : List V := [.str "at", .str "then", .str "back"]
def fwW : List V := [.str "then", .str "later"]
def bkW : List V := [.str "back", .str "earlier"]
def moving (w : Str) : Bool := inV (.str w) mvW
/-- from p on: where the tale stands behind each sentence -/
def standsL : Str → List Sen → List Str
  | _, [] => []
  | p, s :: r => (if moving s.1 = true then s.2 else p) :: standsL (if moving s.1 = true then s.2 else p) r
/-- what one sentence relates, told at q -/
def linkOf (q : Str) (s : Sen) : List Lnk :=
  if s.1 = "with" then [(q, s.2, false)] else if inV (.str s.1) fwW = true then [(q, s.2, true)] else if inV (.str s.1) bkW = true then [(s.2, q, true)] else []
def linksL : Str → List Sen → List Lnk
  | _, [] => []
  | p, s :: r => linkOf p s ++ linksL (if moving s.1 = true then s.2 else p) r
theorem standsL_length : ∀ (S : List Sen) (p : Str), (standsL p S).length = S.length
  | [], _ => rfl
  | _ :: r, _ => congrArg Nat.succ (standsL_length r _)
theorem standsL_at : ∀ (S : List Sen) (p : Str) (i : Nat) (s : Sen), S[i]? = some s → ∃ q, (p :: standsL p S)[i]? = some q ∧ (standsL p S)[i]? = some (if moving s.1 = true then s.2 else q)
  | s :: r, p, 0, _, h => ⟨p, rfl, by cases h; rfl⟩
  | _ :: r, p, i + 1, s, h => standsL_at r _ i s h
theorem linksL_at : ∀ (S : List Sen) (p q : Str) (i : Nat) (s : Sen), S[i]? = some s → (p :: standsL p S)[i]? = some q → linksL p (S.take (i + 1)) = linksL p (S.take i) ++ linkOf q s
  | s :: r, p, q, 0, _, h, e => by
    cases h
    cases e
    show linkOf p s ++ linksL _ [] = [] ++ linkOf p s
    show linkOf p s ++ [] = _
    rw [List.append_nil, List.nil_append]
  | s0 :: r, p, q, i + 1, s, h, e => by
    show linkOf p s0 ++ linksL _ (r.take (i + 1)) = (linkOf p s0 ++ linksL _ (r.take i)) ++ _
    rw [linksL_at r _ q i s h e, List.append_assoc]
theorem linkOf_le (q : Str) (s : Sen) : (linkOf q s).length ≤ 1 := by
  unfold linkOf
  split
  · exact Nat.le_refl _
  · split
    · exact Nat.le_refl _
    · split
      · exact Nat.le_refl _
      · exact Nat.zero_le _
theorem linksL_le : ∀ (S : List Sen) (p : Str), (linksL p S).length ≤ S.length
  | [], _ => Nat.le_refl _
  | s :: r, p => by
    show (linkOf p s ++ linksL _ r).length ≤ r.length + 1
    rw [List.length_append]
    have := linkOf_le p s
    have := linksL_le r (if moving s.1 = true then s.2 else p)
    omega
/-- two lists, thing by thing -/
inductive All2 {α β : Type} (R : α → β → Prop) : List α → List β → Prop
  | nil : All2 R [] []
  | cons {x : α} {y : β} {xs ys} (h : R x y) (t : All2 R xs ys) : All2 R (x :: xs) (y :: ys)
namespace All2
variable {α β : Type} {R R' : α → β → Prop} {xs xs' : List α} {ys ys' : List β}
theorem length : ∀ {xs : List α} {ys : List β}, All2 R xs ys → xs.length = ys.length
  | _, _, .nil => rfl
  | _, _, .cons _ t => congrArg Nat.succ t.length
theorem imp (f : ∀ x y, R x y → R' x y) : ∀ {xs : List α} {ys : List β}, All2 R xs ys → All2 R' xs ys
  | _, _, .nil => .nil
  | _, _, .cons h t => .cons (f _ _ h) (t.imp f)
theorem append : ∀ {xs xs' : List α} {ys ys' : List β}, All2 R xs ys → All2 R xs' ys' → All2 R (xs ++ xs') (ys ++ ys')
  | _, _, _, _, .nil, b => b
  | _, _, _, _, .cons h t, b => .cons h (t.append b)
theorem get : ∀ {xs ys} {i : Nat} {x : α}, All2 R xs ys → xs[i]? = some x → ∃ y, ys[i]? = some y ∧ R x y
  | _, _, 0, _, .cons h _, e => ⟨_, rfl, by cases e; exact h⟩
  | _, _, i + 1, _, .cons _ t, e => t.get (i := i) e
theorem get' : ∀ {xs ys} {i : Nat} {y : β}, All2 R xs ys → ys[i]? = some y → ∃ x, xs[i]? = some x ∧ R x y
  | _, _, 0, _, .cons h _, e => ⟨_, rfl, by cases e; exact h⟩
  | _, _, i + 1, _, .cons _ t, e => t.get' (i := i) e
end All2
/-- x is a tuple of a word and a moment -/
def SenAt (K : PySem.W.Frag) (H : Hp) (x : V) (s : Sen) : Prop := ∃ t, x = .ref t ∧ SqT K H t [.str s.1, .str s.2]
def TaleAt (K : PySem.W.Frag) (H : Hp) (a : Addr) (S : List Sen) : Prop := ∃ xs, SqT K H a xs ∧ All2 (SenAt K H) xs S
theorem SenAt.same {K : PySem.W.Frag} {H H' : Hp} {x : V} {s : Sen} (e : Same H H') (h : SenAt K H x s) : SenAt K H' x s := by
  obtain ⟨t, rfl, h⟩ := h
  exact ⟨t, rfl, e.seqT h⟩
theorem TaleAt.same {K : PySem.W.Frag} {H H' : Hp} {a : Addr} {S : List Sen} (e : Same H H') (h : TaleAt K H a S) : TaleAt K H' a S := by
  obtain ⟨xs, q, r⟩ := h
  exact ⟨xs, e.seqT q, r.imp fun _ _ => SenAt.same e⟩
/-- x is a link's own tuple -/
def LnkAt (H : Hp) (x : V) (l : Lnk) : Prop := ∃ t, x = .ref t ∧ H t = some (.tup [.str l.1, .str l.2.1, .bl l.2.2])
def LinksAt (H : Hp) (p : Addr) (L : List Lnk) : Prop := ∃ xs, H p = some (.lst xs) ∧ All2 (LnkAt H) xs L
theorem LnkAt.same {H H' : Hp} {x : V} {l : Lnk} (e : Same H H') (h : LnkAt H x l) : LnkAt H' x l := by
  obtain ⟨t, rfl, h⟩ := h
  exact ⟨t, rfl, e _ _ h⟩
theorem LinksAt.same {H H' : Hp} {p : Addr} {L : List Lnk} (e : Same H H') (h : LinksAt H p L) : LinksAt H' p L := by
  obtain ⟨xs, q, r⟩ := h
  exact ⟨xs, e _ _ q, r.imp fun _ _ => LnkAt.same e⟩
theorem Same.fresh {H H' : Hp} {p : Addr} {o : HO} (e : Same H H') (h : H p = none) : Same H (upd H' p o) := fun b x q => by
  rw [upd_ne (ne_of_none q h)]
  exact e _ _ q
/-- a tale begins with a word that moves -/
def Begins (S : List Sen) : Prop := ∀ s, S[0]? = some s → moving s.1 = true
end L2
set_option Elab.async false
set_option linter.all false
set_option maxRecDepth 100000
/-! a walk over a list or a tuple, whichever it is -/
namespace L2
open PySem PySem.Spec PyProof.Rows
def SideQ (K : PySem.W.Frag) (H : Hp) (a : Addr) (J : It) : Prop := (J = Itl K a ∧ ∃ xs, SqL K H a xs) ∨ (J = Itt K a ∧ ∃ xs, SqT K H a xs)
def iSeq (K : PySem.W.Frag) (tl : TE) : TI := fun σ H R => tl σ H fun x H1 => ∃ a J, x = .ref a ∧ SideQ K H1 a J ∧ R J H1
theorem pi_seq {X : Cx} {tg l : Expr} {tl : TE} (hl : PE X l tl) : PI X tg l (iSeq X.K tl) := by
  refine ⟨fun pins s σ H R I h => ?_⟩
  refine thn (hl.run pins s σ H _ I h) fun v s1 ⟨x, H1, I1, r1, a, J, e, side, q⟩ => ?_
  subst e
  cases r1
  have fresh : ∀ b ∈ [s1.heap.objs.size], FpOk X pins H1 b := fun b hb => by
    cases List.mem_singleton.mp hb
    exact I1.fpOk (Nat.le_refl _) (I1.hok.fresh (Nat.le_refl _))
  have new : ∀ {o : Obj} {b : Addr} {u : Obj}, s1.heap.get? b = some u → (s1.heap.push o).get? b = some u := fun e => Heap.get?_push_of_some _ e
  rcases side with ⟨rfl, xs, hq⟩ | ⟨rfl, xs, hq⟩
  · obtain ⟨us, _, p, _⟩ := I1.list hq
    refine wpAny_pyIter_list p.isList ?_
    exact ⟨s1.heap.objs.size, [s1.heap.objs.size], _, _, H1, rfl, I1.kept (t' := s1.toks) fun b o e => new e, turn_list a _, ⟨_, Heap.get?_push_size _ rfl, rfl, rfl⟩, fresh, q⟩
  · obtain ⟨us, _, p, _⟩ := I1.tuple hq
    refine wpAny_pyIter_tuple (show s1.heap.IsTuple a us.toArray from p) ?_
    exact ⟨s1.heap.objs.size, [s1.heap.objs.size], _, _, H1, rfl, I1.kept (t' := s1.toks) fun b o e => new e, turn_tuple a _, ⟨_, Heap.get?_push_size _ rfl, rfl, rfl⟩, fresh, q⟩
theorem seq_walk {K : PySem.W.Frag} {H : Hp} {a : Addr} {xs : List V} (h : SqL K H a xs ∨ SqT K H a xs) : ∃ (J : It) (G : Hp → Prop), Walk J xs.length G (YAt xs) ∧ (∀ H', Same H H' → G H' ∧ SideQ K H' a J) := by
  rcases h with h | h
  · exact ⟨_, _, walk_list, fun H' s => ⟨s.seq h, .inl ⟨rfl, xs, s.seq h⟩⟩⟩
  · exact ⟨_, _, walk_tup, fun H' s => ⟨s.seqT h, .inr ⟨rfl, xs, s.seqT h⟩⟩⟩
/-- a list or a tuple of sentences -/
def TaleQ (K : PySem.W.Frag) (H : Hp) (a : Addr) (S : List Sen) : Prop := ∃ xs, (SqL K H a xs ∨ SqT K H a xs) ∧ All2 (SenAt K H) xs S
theorem TaleQ.same {K : PySem.W.Frag} {H H' : Hp} {a : Addr} {S : List Sen} (e : Same H H') (h : TaleQ K H a S) : TaleQ K H' a S := by
  obtain ⟨xs, q, r⟩ := h
  exact ⟨xs, q.elim (fun q => .inl (e.seq q)) fun q => .inr (e.seqT q), r.imp fun _ _ => SenAt.same e⟩
/-- the law's links: none for a sentence that relates nothing -/
def optOf (q : Str) (s : Sen) : Option Lnk := (linkOf q s)[0]?
def lawLinks : Str → List Sen → List (Option Lnk)
  | _, [] => []
  | p, s :: r => optOf p s :: lawLinks (if moving s.1 = true then s.2 else p) r
theorem optOf_list (q : Str) (s : Sen) : (optOf q s).toList = linkOf q s := by
  have h := linkOf_le q s
  unfold optOf
  match linkOf q s, h with
  | [], _ => rfl
  | [l], _ => rfl
  | _ :: _ :: _, h => exact absurd h (by simp)
theorem lawLinks_some : ∀ (S : List Sen) (p : Str), (lawLinks p S).filterMap id = linksL p S
  | [], _ => rfl
  | s :: r, p => by
    show (optOf p s :: lawLinks _ r).filterMap id = linkOf p s ++ linksL _ r
    rw [← lawLinks_some r, ← optOf_list]
    cases h : optOf p s with
    | none => rfl
    | some l => rfl
theorem lawLinks_at : ∀ (S : List Sen) (p q : Str) (i : Nat) (s : Sen), S[i]? = some s → (p :: standsL p S)[i]? = some q → (lawLinks p S)[i]? = some (optOf q s)
  | s :: r, p, q, 0, _, h, e => by
    cases h
    cases e
    rfl
  | _ :: r, p, q, i + 1, s, h, e => lawLinks_at r _ q i s h e
theorem lawLinks_length : ∀ (S : List Sen) (p : Str), (lawLinks p S).length = S.length
  | [], _ => rfl
  | _ :: r, _ => congrArg Nat.succ (lawLinks_length r _)
def LnkO (H : Hp) (x : V) : Option Lnk → Prop
  | none => x = .non
  | some l => LnkAt H x l
theorem LnkO.same {H H' : Hp} {x : V} {l : Option Lnk} (e : Same H H') (h : LnkO H x l) : LnkO H' x l := by
  cases l with
  | none => exact h
  | some l => exact LnkAt.same e h
def LinksO (H : Hp) (p : Addr) (L : List (Option Lnk)) : Prop := ∃ xs, H p = some (.lst xs) ∧ All2 (LnkO H) xs L
theorem LinksO.same {H H' : Hp} {p : Addr} {L : List (Option Lnk)} (e : Same H H') (h : LinksO H p L) : LinksO H' p L := by
  obtain ⟨xs, q, r⟩ := h
  exact ⟨xs, e _ _ q, r.imp fun _ _ => LnkO.same e⟩
end L2
set_option Elab.async false
set_option linter.all false
set_option maxRecDepth 100000
set_option maxHeartbeats 4000000
namespace Lw
open PySem PySem.Spec PyProof.Rows L2
def topS (i : Nat) : Stmt := PySem.Challenge.pw_backthen_k11_relations_of_moments.main.body.getD i (.Pass ⟨0, 0, 0, 0⟩)
abbrev s__wall : Stmt := topS 0
theorem sc__wall : FnScope ["k"] ["k"] (defScope s__wall) := ⟨rfl, rfl, rfl, by decide +kernel, rfl, by decide +kernel, by decide +kernel⟩
abbrev s_tale_stands : Stmt := topS 9
theorem sc_tale_stands : FnScope ["tale", "stands", "word", "moment"] ["tale"] (defScope s_tale_stands) := ⟨rfl, rfl, rfl, by decide +kernel, rfl, by decide +kernel, by decide +kernel⟩
abbrev s_sentence_link : Stmt := topS 10
theorem sc_sentence_link : FnScope ["stand", "word", "moment"] ["stand", "word", "moment"] (defScope s_sentence_link) := ⟨rfl, rfl, rfl, by decide +kernel, rfl, by decide +kernel, by decide +kernel⟩
abbrev s_tale_links : Stmt := topS 11
theorem sc_tale_links : FnScope ["tale", "stand", "sentence"] ["tale"] (defScope s_tale_links) := ⟨rfl, rfl, rfl, by decide +kernel, rfl, by decide +kernel, by decide +kernel⟩
abbrev s_joined : Stmt := topS 12
theorem sc_joined : FnScope ["things", "pairs", "parts", "thing", "one", "other", "part"] ["things", "pairs"] (defScope s_joined) := ⟨rfl, rfl, rfl, by decide +kernel, rfl, by decide +kernel, by decide +kernel⟩
abbrev s_closed : Stmt := topS 13
theorem sc_closed : FnScope ["masks", "middle", "mask"] ["masks"] (defScope s_closed) := ⟨rfl, rfl, rfl, by decide +kernel, rfl, by decide +kernel, by decide +kernel⟩
abbrev s_is_name : Stmt := topS 19
theorem sc_is_name : FnScope ["thing", "letter"] ["thing"] (defScope s_is_name) := ⟨rfl, rfl, rfl, by decide +kernel, rfl, by decide +kernel, by decide +kernel⟩
abbrev s_is_pair : Stmt := topS 20
theorem sc_is_pair : FnScope ["thing"] ["thing"] (defScope s_is_pair) := ⟨rfl, rfl, rfl, by decide +kernel, rfl, by decide +kernel, by decide +kernel⟩
abbrev s_is_sentence : Stmt := topS 21
theorem sc_is_sentence : FnScope ["thing"] ["thing"] (defScope s_is_sentence) := ⟨rfl, rfl, rfl, by decide +kernel, rfl, by decide +kernel, by decide +kernel⟩
abbrev s_closing_index : Stmt := topS 22
theorem sc_closing_index : FnScope ["tale", "low", "high", "middle"] ["tale"] (defScope s_closing_index) := ⟨rfl, rfl, rfl, by decide +kernel, rfl, by decide +kernel, by decide +kernel⟩
abbrev s_check_tale : Stmt := topS 23
theorem sc_check_tale : FnScope ["thing", "k", "sentence"] ["thing"] (defScope s_check_tale) := ⟨rfl, rfl, rfl, by decide +kernel, rfl, by decide +kernel, by decide +kernel⟩
abbrev s_require_tale : Stmt := topS 24
theorem sc_require_tale : FnScope ["tale", "problem"] ["tale"] (defScope s_require_tale) := ⟨rfl, rfl, rfl, by decide +kernel, rfl, by decide +kernel, by decide +kernel⟩
abbrev s_tale_order : Stmt := topS 26
theorem sc_tale_order : FnScope ["tale"] ["tale"] (defScope s_tale_order) := ⟨rfl, rfl, rfl, by decide +kernel, rfl, by decide +kernel, by decide +kernel⟩
abbrev s_moment_number : Stmt := topS 27
theorem sc_moment_number : FnScope ["order", "name"] ["order", "name"] (defScope s_moment_number) := ⟨rfl, rfl, rfl, by decide +kernel, rfl, by decide +kernel, by decide +kernel⟩
abbrev s_relation : Stmt := topS 28
theorem sc_relation : FnScope ["tale", "a", "b", "order", "one", "other"] ["tale", "a", "b"] (defScope s_relation) := ⟨rfl, rfl, rfl, by decide +kernel, rfl, by decide +kernel, by decide +kernel⟩
abbrev s__law_at : Stmt := topS 30
theorem sc__law_at : FnScope ["script", "k"] ["script", "k"] (defScope s__law_at) := ⟨rfl, rfl, rfl, by decide +kernel, rfl, by decide +kernel, by decide +kernel⟩
abbrev s__law_mixed : Stmt := topS 31
theorem sc__law_mixed : FnScope ["cell", "k", "number"] ["cell", "k"] (defScope s__law_mixed) := ⟨rfl, rfl, rfl, by decide +kernel, rfl, by decide +kernel, by decide +kernel⟩
abbrev s__law_purse : Stmt := topS 32
theorem sc__law_purse : FnScope ["script", "at", "cell"] ["script", "at"] (defScope s__law_purse) := ⟨rfl, rfl, rfl, by decide +kernel, rfl, by decide +kernel, by decide +kernel⟩
abbrev s__law_draw : Stmt := topS 33
theorem sc__law_draw : FnScope ["purse", "out_of", "drawn"] ["purse", "out_of"] (defScope s__law_draw) := ⟨rfl, rfl, rfl, by decide +kernel, rfl, by decide +kernel, by decide +kernel⟩
abbrev s__law_links : Stmt := topS 34
theorem sc__law_links : FnScope ["sentences", "found", "place", "word", "moment"] ["sentences"] (defScope s__law_links) := ⟨rfl, rfl, rfl, by decide +kernel, rfl, by decide +kernel, by decide +kernel⟩
abbrev s__law_order : Stmt := topS 35
theorem sc__law_order : FnScope ["names", "links", "head", "name", "turn", "one", "other", "strict", "link", "least", "after", "middle"] ["names", "links"] (defScope s__law_order) := ⟨rfl, rfl, rfl, by decide +kernel, rfl, by decide +kernel, by decide +kernel⟩
abbrev s__law_names : Stmt := topS 36
theorem sc__law_names : FnScope ["sentences", "word", "moment"] ["sentences"] (defScope s__law_names) := ⟨rfl, rfl, rfl, by decide +kernel, rfl, by decide +kernel, by decide +kernel⟩
abbrev s__law_model : Stmt := topS 37
theorem sc__law_model : FnScope ["sentences"] ["sentences"] (defScope s__law_model) := ⟨rfl, rfl, rfl, by decide +kernel, rfl, by decide +kernel, by decide +kernel⟩
abbrev s__law_fits : Stmt := topS 38
theorem sc__law_fits : FnScope ["sentences", "head", "after", "one"] ["sentences"] (defScope s__law_fits) := ⟨rfl, rfl, rfl, by decide +kernel, rfl, by decide +kernel, by decide +kernel⟩
abbrev s__law_groups : Stmt := topS 39
theorem sc__law_groups : FnScope ["model", "head", "after", "name", "one"] ["model"] (defScope s__law_groups) := ⟨rfl, rfl, rfl, by decide +kernel, rfl, by decide +kernel, by decide +kernel⟩
abbrev s__law_related : Stmt := topS 40
theorem sc__law_related : FnScope ["model", "one", "two", "head", "after"] ["model", "one", "two"] (defScope s__law_related) := ⟨rfl, rfl, rfl, by decide +kernel, rfl, by decide +kernel, by decide +kernel⟩
abbrev s__law_covers : Stmt := topS 41
theorem sc__law_covers : FnScope ["model", "lots", "found", "one", "above", "other", "mid"] ["model"] (defScope s__law_covers) := ⟨rfl, rfl, rfl, by decide +kernel, rfl, by decide +kernel, by decide +kernel⟩
abbrev s__law_tale : Stmt := topS 42
theorem sc__law_tale : FnScope ["purse", "most", "many", "names", "words", "found", "turn", "more"] ["purse", "most", "many"] (defScope s__law_tale) := ⟨rfl, rfl, rfl, by decide +kernel, rfl, by decide +kernel, by decide +kernel⟩
abbrev s__law_refused : Stmt := topS 43
theorem sc__law_refused : FnScope ["story", "one", "two", "error", "caught"] ["story", "one", "two"] (defScope s__law_refused) := ⟨rfl, rfl, rfl, by decide +kernel, rfl, by decide +kernel, by decide +kernel⟩
abbrev s_law : Stmt := topS 44
theorem sc_law : FnScope ["script", "at", "purse", "turn", "story", "model", "known", "one", "two", "due", "odd", "bad", "worse"] ["script"] (defScope s_law) := ⟨rfl, rfl, rfl, by decide +kernel, rfl, by decide +kernel, by decide +kernel⟩
abbrev s_Order_init : Stmt := inClass (topS 14) 0
theorem sc_Order_init : FnScope ["self", "tale", "links", "link", "same", "first", "second", "strict", "_", "moment", "k", "group", "steps"] ["self", "tale"] (defScope s_Order_init) := ⟨rfl, rfl, rfl, by decide +kernel, rfl, by decide +kernel, by decide +kernel⟩
abbrev s_Order_precedes : Stmt := inClass (topS 14) 1
theorem sc_Order_precedes : FnScope ["self", "one", "other"] ["self", "one", "other"] (defScope s_Order_precedes) := ⟨rfl, rfl, rfl, by decide +kernel, rfl, by decide +kernel, by decide +kernel⟩
abbrev s_Order_unrelated : Stmt := inClass (topS 14) 2
theorem sc_Order_unrelated : FnScope ["self", "one", "other"] ["self", "one", "other"] (defScope s_Order_unrelated) := ⟨rfl, rfl, rfl, by decide +kernel, rfl, by decide +kernel, by decide +kernel⟩
abbrev s_Order_is_consistent : Stmt := inClass (topS 14) 3
theorem sc_Order_is_consistent : FnScope ["self", "k"] ["self"] (defScope s_Order_is_consistent) := ⟨rfl, rfl, rfl, by decide +kernel, rfl, by decide +kernel, by decide +kernel⟩
abbrev s_Order_group_number : Stmt := inClass (topS 14) 4
theorem sc_Order_group_number : FnScope ["self", "thing"] ["self", "thing"] (defScope s_Order_group_number) := ⟨rfl, rfl, rfl, by decide +kernel, rfl, by decide +kernel, by decide +kernel⟩
abbrev s_Order_later_numbers : Stmt := inClass (topS 14) 5
theorem sc_Order_later_numbers : FnScope ["self", "number"] ["self", "number"] (defScope s_Order_later_numbers) := ⟨rfl, rfl, rfl, by decide +kernel, rfl, by decide +kernel, by decide +kernel⟩
abbrev s_Order_cover_numbers : Stmt := inClass (topS 14) 6
theorem sc_Order_cover_numbers : FnScope ["self"] ["self"] (defScope s_Order_cover_numbers) := ⟨rfl, rfl, rfl, by decide +kernel, rfl, by decide +kernel, by decide +kernel⟩
abbrev s_Order_component_numbers : Stmt := inClass (topS 14) 7
theorem sc_Order_component_numbers : FnScope ["self"] ["self"] (defScope s_Order_component_numbers) := ⟨rfl, rfl, rfl, by decide +kernel, rfl, by decide +kernel, by decide +kernel⟩
abbrev s_Order_cycle_rank : Stmt := inClass (topS 14) 8
theorem sc_Order_cycle_rank : FnScope ["self"] ["self"] (defScope s_Order_cycle_rank) := ⟨rfl, rfl, rfl, by decide +kernel, rfl, by decide +kernel, by decide +kernel⟩
abbrev s_Order_forced_numbers : Stmt := inClass (topS 14) 9
theorem sc_Order_forced_numbers : FnScope ["self"] ["self"] (defScope s_Order_forced_numbers) := ⟨rfl, rfl, rfl, by decide +kernel, rfl, by decide +kernel, by decide +kernel⟩
abbrev s_Order_before_pairs : Stmt := inClass (topS 14) 10
theorem sc_Order_before_pairs : FnScope ["self", "moments"] ["self", "moments"] (defScope s_Order_before_pairs) := ⟨rfl, rfl, rfl, by decide +kernel, rfl, by decide +kernel, by decide +kernel⟩
abbrev s_Order_next_numbers : Stmt := inClass (topS 14) 11
theorem sc_Order_next_numbers : FnScope ["self", "front"] ["self", "front"] (defScope s_Order_next_numbers) := ⟨rfl, rfl, rfl, by decide +kernel, rfl, by decide +kernel, by decide +kernel⟩
abbrev s_Order_first_numbers : Stmt := inClass (topS 14) 12
theorem sc_Order_first_numbers : FnScope ["self"] ["self"] (defScope s_Order_first_numbers) := ⟨rfl, rfl, rfl, by decide +kernel, rfl, by decide +kernel, by decide +kernel⟩
structure Txt (K : PySem.W.Frag) (mg : Str → Option Value) : Prop where
  m_len : mg "len" = none
  m_max : mg "max" = none
  m_min : mg "min" = none
  m_range : mg "range" = none
  m_enumerate : mg "enumerate" = none
  m_zip : mg "zip" = none
  m_isinstance : mg "isinstance" = none
  m_sorted : mg "sorted" = none
  m_tuple : mg "tuple" = none
  m_list : mg "list" = none
  m_set : mg "set" = none
  m_dict : mg "dict" = none
  m_any : mg "any" = none
  m_all : mg "all" = none
  m_int : mg "int" = none
  m_str : mg "str" = none
def letters : Str := "abcdefghijklmnopqrstuvwxyz"
/-- the written part's words -/
structure Wds (K : PySem.W.Frag) (mg : Str → Option Value) (aM aF aB aW : Addr) : Prop where
  g_LONGEST_NAME : ∃ u, mg "LONGEST_NAME" = some u ∧ RelV (.int 8) u
  g_LETTERS : ∃ u, mg "LETTERS" = some u ∧ RelV (.str letters) u
  g_MOVING_WORDS : mg "MOVING_WORDS" = some (.ref aM)
  g_FORWARD_WORDS : mg "FORWARD_WORDS" = some (.ref aF)
  g_BACKWARD_WORDS : mg "BACKWARD_WORDS" = some (.ref aB)
  g_WORDS : mg "WORDS" = some (.ref aW)
  moving : ∀ H, SqT K H aM mvW
  forward : ∀ H, SqT K H aF fwW
  backward : ∀ H, SqT K H aB bkW
  words : ∀ H, SqT K H aW [.str "at", .str "then", .str "back", .str "later", .str "earlier", .str "with"]
section
variable {P : Program} {w : World} {K : PySem.W.Frag} {mg : Str → Option Value} {base : Heap}
theorem ok__law_at (T : Txt K mg) (F : Fn K mg "_law_at" s__law_at) : Df P w K mg base "_law_at" 1 ["script", "k"] (spAt K) := by
  refine F.df (fun _ _ _ _ _ _ us hl => match us, hl with | [_, _], _ => rfl) fun f fd F => F.ok sc__law_at (fun vs H Q E h => ?_) (fun cdv A outer s H vs Q E hr h => ?_)
  · obtain ⟨a, ns, k, rfl, _⟩ := h
    rfl
  · obtain ⟨a, ns, k, rfl, hS, q⟩ := h
    refine ⟨_, pss_cons (ps_if (pt_cmpR op_lt (pv 1) (pe_callB call_len_seq (by rfl) T.m_len (by decide +kernel) (pa_cons (pv 0) (pa_nil))) (nomark _)) (pss_one (ps_ret (pe_ix ix_list (pv 0) (pv 1) (fun _ _ => rfl)))) (pss_nil))
    (pss_one (ps_ret (pe_int))), ?_⟩
    refine ⟨.int k, rfl, .ref a, rfl, a, _, rfl, .inl hS, _, _, rfl, rfl, _, rfl, ite2 (fun c => ?_) (fun c => ?_)⟩
    · have hc := of_decide_eq_true c
      have hk : k < ns.length := by
        rw [List.length_map] at hc
        omega
      refine ⟨.ref a, rfl, .int k, rfl, a, _, _, .int ns[k], rfl, rfl, hS, atI_nat (j := k) ?_, q _⟩
      rw [List.getElem?_map, List.getElem?_eq_getElem hk]
      rfl
    · exact q 0
theorem ok__law_mixed (T : Txt K mg) (F : Fn K mg "_law_mixed" s__law_mixed) : Df P w K mg base "_law_mixed" 1 ["cell", "k"] spMixed := by
  refine F.df (fun _ _ _ _ _ _ us hl => match us, hl with | [_, _], _ => rfl) fun f fd F => F.ok sc__law_mixed (fun vs H Q E h => ?_) (fun cdv A outer s H vs Q E hr h => ?_)
  · obtain ⟨c, k, rfl, _⟩ := h
    rfl
  · obtain ⟨c, k, rfl, c0, c1, k0, k1, q⟩ := h
    refine ⟨_, pss_cons (ps_set (i := 2) sc__law_mixed.nd rfl (by first | exact Or.inl rfl | exact Or.inr rfl) (pe_op op_mod (pe_op op_add (pe_op op_add (pe_op op_add (pe_op op_mul (pv 0) (pe_int)) (pe_op op_mul (pe_op op_mul (pe_int) (pv 1)) (pv 1))) (pv 1)) (pe_int)) (pe_int)))
    (pss_cons (ps_set (i := 2) sc__law_mixed.nd rfl (by first | exact Or.inl rfl | exact Or.inr rfl) (pe_op op_mod (pe_op op_add (pe_op op_mul (pv 2) (pv 2)) (pe_int)) (pe_int)))
    (pss_one (ps_ret (pe_op op_mod (pe_op op_mul (pv 2) (pe_int)) (pe_int))))), ?_⟩
    refine ⟨_, rfl, _, _, rfl, rfl, .inr (by decide), _, rfl, _, _, rfl, rfl, .inl (by decide), _, rfl, _, _, rfl, rfl, .inr ⟨by omega, by omega⟩, _, _, rfl, rfl, _, rfl, _, _, rfl, rfl, _, _, rfl, rfl, _, _, rfl, rfl, (show (0 : Int) < 2147483647 by decide), ?_⟩
    generalize hm : (c * 1103515245 + 7919 * k * k + k + 1) % 2147483647 = m
    have m0 : 0 ≤ m := by rw [← hm]; exact Int.emod_nonneg _ (by decide)
    have m1 : m < 2147483647 := by rw [← hm]; exact Int.emod_lt_of_pos _ (by decide)
    refine ⟨_, rfl, _, rfl, _, _, rfl, rfl, .inl ⟨by omega, by omega⟩, _, _, rfl, rfl, _, _, rfl, rfl, (show (0 : Int) < 2147483629 by decide), ?_⟩
    exact ⟨_, rfl, _, _, rfl, rfl, .inr (by decide), _, _, rfl, rfl, (show (0 : Int) < 2147483587 by decide), q _ (Int.emod_nonneg _ (by decide)) (Int.emod_lt_of_pos _ (by decide))⟩
theorem ok__law_purse (T : Txt K mg) (F : Fn K mg "_law_purse" s__law_purse) (FA : Fn K mg "_law_at" s__law_at) : Df P w K mg base "_law_purse" 2 ["script", "at"] (spPurse K) := by
  have G__law_at : Df P w K mg base "_law_at" 1 ["script", "k"] (spAt K) := ok__law_at T FA
  refine F.df (fun _ _ _ _ _ _ us hl => match us, hl with | [_, _], _ => rfl) fun f fd F => F.ok sc__law_purse (fun vs H Q E h => ?_) (fun cdv A outer s H vs Q E hr h => ?_)
  · obtain ⟨a, ns, k, rfl, _⟩ := h
    rfl
  · obtain ⟨a, ns, k, rfl, hS, hk, q⟩ := h
    refine ⟨_, pss_cons (ps_set (i := 2) sc__law_purse.nd rfl (by first | exact Or.inl rfl | exact Or.inr rfl) (pe_df G__law_at (hr.mono (by decide)) (by rfl) (pa_cons (pv 0) (pa_cons (pv 1) (pa_nil)))))
    (pss_one (ps_ret (pe_lst (pa_cons (pe_op op_mod (pe_callB (call_max2 rfl) (by rfl) T.m_max (by decide +kernel) (pa_cons (pe_op op_sub (pv 2) (pe_op op_powB (pe_int) (pe_int))) (pa_cons (pe_int) (pa_nil)))) (pe_op op_powB (pe_op op_powB (pe_int) (pe_int)) (pe_int))) (pa_cons (pe_op op_mod (pv 2) (pe_int)) (pa_cons (pe_op op_mul (pe_int) (pv 1)) (pa_nil))))))), ?_⟩
    refine ⟨.ref a, rfl, .int k, rfl, a, ns, k, rfl, hS, fun c => ?_⟩
    refine ⟨_, rfl, _, _, rfl, rfl, ⟨by decide, by decide +kernel⟩, _, _, rfl, rfl, _, _, rfl, _, _, rfl, rfl, ⟨by decide, by decide +kernel⟩, _, _, rfl, rfl, ⟨by decide, by decide +kernel⟩, _, _, rfl, rfl, (by rw [pow600]; exact pow600_pos), ?_⟩
    refine ⟨_, rfl, _, _, rfl, rfl, (show (0 : Int) < 2147483647 by decide), _, rfl, _, _, rfl, rfl, .inl (by decide), (by show 3 ≤ sizeLine; decide), fun p hp => q p _ _ _ hp ?_⟩
    rw [pow600]
    exact ⟨Int.emod_nonneg _ (Int.ne_of_gt pow600_pos), Int.emod_lt_of_pos _ pow600_pos, Int.emod_nonneg _ (by decide), Int.emod_lt_of_pos _ (by decide), by omega, by omega⟩
theorem ok__law_draw (T : Txt K mg) (F : Fn K mg "_law_draw" s__law_draw) (FM : Fn K mg "_law_mixed" s__law_mixed) : Df P w K mg base "_law_draw" 2 ["purse", "out_of"] spDraw := by
  have G__law_mixed : Df P w K mg base "_law_mixed" 1 ["cell", "k"] spMixed := ok__law_mixed T FM
  refine F.df (fun _ _ _ _ _ _ us hl => match us, hl with | [_, _], _ => rfl) fun f fd F => F.ok sc__law_draw (fun vs H Q E h => ?_) (fun cdv A outer s H vs Q E hr h => ?_)
  · obtain ⟨p, p0, p1, p2, n, m, rfl, _⟩ := h
    rfl
  · obtain ⟨p, p0, p1, p2, n, m, rfl, hp, B, hn, m1, m2, q⟩ := h
    refine ⟨_, pss_cons (ps_if (pt_cmpR op_gt (pe_ix ix_list (pv 0) (pe_int) (fun _ _ => rfl)) (pe_int) (nomark _)) (pss_cons (ps_set (i := 2) sc__law_draw.nd rfl (by first | exact Or.inl rfl | exact Or.inr rfl) (pe_op op_mod (pe_ix ix_list (pv 0) (pe_int) (fun _ _ => rfl)) (pv 1)))
    (pss_cons (ps_asg (pe_op op_fdivW (pe_ix ix_list (pv 0) (pe_int) (fun _ _ => rfl)) (pv 1)) (pg_sub (pv 0) (pe_int) set_list))
    (pss_one (ps_ret (pv 2))))) (pss_nil))
    (pss_cons (ps_asg (pe_op op_add (pe_ix ix_list (pv 0) (pe_int) (fun _ _ => rfl)) (pe_int)) (pg_sub (pv 0) (pe_int) set_list))
    (pss_one (ps_ret (pe_op op_mod (pe_df G__law_mixed (hr.mono (by decide)) (by rfl) (pa_cons (pe_ix ix_list (pv 0) (pe_int) (fun _ _ => rfl)) (pa_cons (pe_ix ix_list (pv 0) (pe_int) (fun _ _ => rfl)) (pa_nil)))) (pv 1))))), ?_⟩
    have e600 : p0.natAbs < 2 ^ 2000 := by
      have := B.b0
      have := B.a0
      have h2 : (10 : Int) ^ 600 < 2 ^ 2000 := by decide +kernel
      omega
    refine ⟨.ref p, rfl, p, _, _, .int p0, rfl, rfl, SqL.of hp, rfl, _, _, rfl, rfl, _, rfl, ite2 (fun c => ?_) (fun c => ?_)⟩
    · have hc := of_decide_eq_true c
      refine ⟨.ref p, rfl, p, _, _, .int p0, rfl, rfl, SqL.of hp, rfl, _, rfl, _, _, rfl, rfl, (by omega), ?_⟩
      refine ⟨.ref p, rfl, p, _, _, .int p0, rfl, rfl, SqL.of hp, rfl, _, rfl, _, _, rfl, rfl, wide_div (b := 63) (by omega) (by omega) (by decide) (by decide), ?_⟩
      refine ⟨.ref p, rfl, p, _, _, 0, rfl, rfl, hp, rfl, ?_⟩
      refine ⟨_, rfl, q _ _ _ _ (Int.emod_nonneg _ (by omega)) (Int.emod_lt_of_pos _ (by omega)) ?_⟩
      have hle : p0 / m ≤ p0 := Int.ediv_le_self _ B.a0
      exact ⟨Int.ediv_nonneg B.a0 (by omega), Int.lt_of_le_of_lt hle B.b0, B.a1, B.b1, B.a2, by have := B.b2; omega⟩
    · refine ⟨.ref p, rfl, p, _, _, .int p2, rfl, rfl, SqL.of hp, rfl, _, _, rfl, rfl, ?_⟩
      refine ⟨.ref p, rfl, p, _, _, 2, rfl, rfl, hp, rfl, ?_⟩
      have hp2 : (upd H p (.lst [.int p0, .int p1, .int (p2 + 1)])) p = some (.lst [.int p0, .int p1, .int (p2 + 1)]) := upd_same
      refine ⟨.ref p, rfl, p, _, _, .int p1, rfl, rfl, SqL.of hp2, rfl, .ref p, rfl, p, _, _, .int (p2 + 1), rfl, rfl, SqL.of hp2, rfl, ?_⟩
      refine ⟨p1, p2 + 1, rfl, B.a1, B.b1, by have := B.a2; omega, by have := B.b2; omega, fun d d0 d1 => ?_⟩
      exact ⟨_, rfl, _, _, rfl, rfl, (by omega), q _ _ _ _ (Int.emod_nonneg _ (by omega)) (Int.emod_lt_of_pos _ (by omega)) ⟨B.a0, B.b0, B.a1, B.b1, by have := B.a2; omega, by have := B.b2; omega⟩⟩
end

end Lw
set_option Elab.async false
set_option linter.all false
set_option maxRecDepth 100000
set_option maxHeartbeats 4000000
namespace Lw
open PySem PySem.Spec PyProof.Rows L2
theorem atI_last {α : Type} {xs : List α} {v : α} (h : xs[xs.length - 1]? = some v) : atI xs (-1) = some v := by
  have hl := (List.getElem?_eq_some_iff.mp h).1
  unfold atI ixN
  rw [if_neg (by omega), if_pos (by omega)]
  show xs[(-1 + (xs.length : Int)).toNat]? = _
  rw [show (-1 + (xs.length : Int)).toNat = xs.length - 1 by omega]
  exact h
theorem lstV {K : PySem.W.Frag} {H : Hp} {p : Addr} {xs : List V} (h : H p = some (.lst xs)) : tyV K "list" (.ref p) H := .inl ⟨rfl, xs, SqL.of h⟩
theorem take_next {α : Type} {l : List α} {i : Nat} {x : α} (h : l[i]? = some x) : l.take (i + 1) = l.take i ++ [x] := by
  rw [List.take_add_one, h]
  rfl
def spStands (K : PySem.W.Frag) : Sp := fun vs H Q _ => ∃ a S, vs = [.ref a] ∧ TaleAt K H a S ∧ S.length ≤ 1000 ∧ Begins S ∧ ∀ p H', Same H H' → H p = none → H' p = some (.lst ((standsL "" S).map V.str)) → Q (.ref p) H'
def spLinks (K : PySem.W.Frag) : Sp := fun vs H Q _ => ∃ a S, vs = [.ref a] ∧ TaleAt K H a S ∧ S.length ≤ 1000 ∧ (∀ s, S[0]? = some s → s.1 = ("at" : Str)) ∧ ∀ p H', Same H H' → H p = none → LinksO H' p (lawLinks "" S) → Q (.ref p) H'
def slV (st : V) (w m : Str) : Option (V × V × Bool) :=
  if w = "with" then some (st, .str m, false) else if inV (.str w) fwW = true then some (st, .str m, true) else if inV (.str w) bkW = true then some (.str m, st, true) else none
def spSLink : Sp := fun vs H Q _ => ∃ st w m, vs = [st, .str w, .str m] ∧ (match slV st w m with | none => Q .non H | some x => ∀ p, H p = none → Q (.ref p) (upd H p (.tup [x.1, x.2.1, .bl x.2.2])))
section
variable {P : Program} {w : World} {K : PySem.W.Frag} {mg : Str → Option Value} {base : Heap} {aM aF aB aW : Addr}
theorem ok_tale_stands (T : Txt K mg) (A : Wds K mg aM aF aB aW) (F : Fn K mg "tale_stands" s_tale_stands) : Df P w K mg base "tale_stands" 1 ["tale"] (spStands K) := by
  refine F.df (fun _ _ _ _ _ _ us hl => match us, hl with | [_], _ => rfl) fun f fd F => F.ok sc_tale_stands (fun vs H Q E h => ?_) (fun cdv AA outer s H vs Q E hr h => ?_)
  · obtain ⟨a, S, rfl, _⟩ := h
    rfl
  · obtain ⟨a, S, rfl, ⟨xs, hq, hx⟩, hl, hb, q⟩ := h
    refine ⟨_, pss_cons (ps_set (i := 1) sc_tale_stands.nd rfl (by first | exact Or.inl rfl | exact Or.inr rfl) (pe_lst (pa_nil)))
    (pss_cons (ps_for PassesOwn.never rfl (pi_tup (pv 0)) (pg_tup (by rfl) (pgs_cons (pg_name (i := 2) sc_tale_stands.nd rfl (by first | exact Or.inl rfl | exact Or.inr rfl)) (pgs_cons (pg_name (i := 3) sc_tale_stands.nd rfl (by first | exact Or.inl rfl | exact Or.inr rfl)) (pgs_nil)))) (pss_one (ps_expr (pe_bm PySem.F.plainAttrs_list PySem.F.slot_list_append PySem.F.type_list_append mt_append (pv 1) (pa_cons (pe_ifExp (pt_cmpR op_in_seq (pv 2) (pe_glob (v := .ref aM) (by rfl) A.g_MOVING_WORDS rfl) (by rfl)) (pv 3) (pe_ix ix_list (pv 1) (pe_un un_neg (pe_int)) (fun _ _ => rfl))) (pa_nil))))))
    (pss_one (ps_ret (pv 1)))), ?_⟩
    refine ⟨by show 0 ≤ sizeLine; decide, fun p np => ?_⟩
    refine ⟨.ref a, rfl, a, rfl, ⟨xs, (same_upd np).seqT hq⟩, for_it (walk_tup (K := K) (a := a) (xs := xs)) (fun i σ H' => ∃ y2 y3, σ = [some (.ref a), some (.ref p), y2, y3] ∧ Same H H' ∧ H' p = some (.lst (((standsL "" S).take i).map V.str))) ⟨none, none, rfl, same_upd np, upd_same⟩ (fun i σ H' _ ⟨_, _, _, e, _⟩ => e.seqT hq) ?_ ?_⟩
    · rintro i x σ H0 H1 hi ⟨y2, y3, rfl, s1, h1⟩ ⟨rfl, ex⟩
      obtain ⟨s, es, t, rfl, ht⟩ := hx.get ex
      obtain ⟨q0, e1, e2⟩ := standsL_at S "" i s es
      refine ⟨t, _, rfl, s1.seqT ht, rfl, _, _, rfl, _, _, rfl, rfl, ?_⟩
      have lt : i < S.length := (List.getElem?_eq_some_iff.mp es).1
      have fin : ∀ v : Str, (standsL "" S)[i]? = some v → ∃ l zs y, V.ref p = .ref l ∧ [V.str v] = [y] ∧ H1 l = some (HO.lst zs) ∧ zs.length < sizeLine ∧
          (∃ y2 y3, [some (V.ref a), some (V.ref p), some (V.str s.1), some (V.str s.2)] = [some (.ref a), some (.ref p), y2, y3] ∧ Same H (upd H1 l (HO.lst (zs ++ [y]))) ∧ (upd H1 l (HO.lst (zs ++ [y]))) p = some (.lst (((standsL "" S).take (i + 1)).map V.str))) := fun v hv => by
        refine ⟨p, _, .str v, rfl, rfl, h1, ?_, _, _, rfl, s1.fresh np, ?_⟩
        · rw [List.length_map, List.length_take, standsL_length]
          have := small1000 (n := min i S.length) (by omega)
          exact this
        · rw [upd_same, take_next hv, List.map_append]
          rfl
      refine ⟨_, rfl, lstV h1, _, rfl, aM, mvW, rfl, .inr (A.moving _), rfl, rfl, _, rfl, ite2 (fun c => ?_) (fun c => ?_)⟩
      · have c : moving s.1 = true := c
        rw [if_pos c] at e2
        exact ⟨_, rfl, fin _ e2⟩
      · have c : ¬ moving s.1 = true := c
        rw [if_neg c] at e2
        have i0 : i ≠ 0 := fun z => by
          subst z
          exact c (hb s es)
        obtain ⟨k, rfl⟩ := Nat.exists_eq_succ_of_ne_zero i0
        have e3 : (standsL "" S)[k]? = some q0 := e1
        refine ⟨_, rfl, _, rfl, p, _, _, .str q0, rfl, rfl, SqL.of h1, atI_last ?_, fin _ e2⟩
        rw [List.length_map, List.length_take, standsL_length, Nat.min_eq_left (by omega), List.getElem?_map, List.getElem?_take_of_lt (by omega)]
        show ((standsL "" S)[k]?).map _ = _
        rw [e3]
        rfl
    · rintro σ H1 ⟨y2, y3, rfl, s1, h1⟩
      refine ⟨_, rfl, q p H1 s1 np ?_⟩
      have e : (standsL "" S).take xs.length = standsL "" S := List.take_of_length_le (by rw [standsL_length, hx.length]; exact Nat.le_refl _)
      rw [← e]
      exact h1
theorem ok_sentence_link (T : Txt K mg) (A : Wds K mg aM aF aB aW) (F : Fn K mg "sentence_link" s_sentence_link) : Df P w K mg base "sentence_link" 1 ["stand", "word", "moment"] spSLink := by
  refine F.df (fun _ _ _ _ _ _ us hl => match us, hl with | [_, _, _], _ => rfl) fun f fd F => F.ok sc_sentence_link (fun vs H Q E h => ?_) (fun cdv AA outer s H vs Q E hr h => ?_)
  · obtain ⟨st, w, m, rfl, _⟩ := h
    rfl
  · obtain ⟨st, wd, m, rfl, q⟩ := h
    unfold slV at q
    refine ⟨_, pss_cons (ps_if (pt_cmpR op_eq (pv 1) (pe_str) (nomark _)) (pss_one (ps_ret (pe_tup (pa_cons (pv 0) (pa_cons (pv 2) (pa_cons (pe_bl) (pa_nil))))))) (pss_nil))
    (pss_cons (ps_if (pt_cmpR op_in_seq (pv 1) (pe_glob (v := .ref aF) (by rfl) A.g_FORWARD_WORDS rfl) (by rfl)) (pss_one (ps_ret (pe_tup (pa_cons (pv 0) (pa_cons (pv 2) (pa_cons (pe_bl) (pa_nil))))))) (pss_nil))
    (pss_cons (ps_if (pt_cmpR op_in_seq (pv 1) (pe_glob (v := .ref aB) (by rfl) A.g_BACKWARD_WORDS rfl) (by rfl)) (pss_one (ps_ret (pe_tup (pa_cons (pv 2) (pa_cons (pv 0) (pa_cons (pe_bl) (pa_nil))))))) (pss_nil))
    (pss_one (ps_ret (pe_non))))), ?_⟩
    refine ⟨_, rfl, rfl, _, rfl, ite2 (fun c => ?_) (fun c => ?_)⟩
    · have c : wd = ("with" : Str) := V.str.inj (of_decide_eq_true c)
      rw [if_pos c] at q
      exact ⟨_, rfl, _, rfl, by show 3 ≤ sizeLine; decide, fun t nt => q t nt⟩
    · have c : ¬ wd = ("with" : Str) := fun z => c (decide_eq_true (congrArg V.str z))
      rw [if_neg c] at q
      refine ⟨_, rfl, aF, fwW, rfl, .inr (A.forward _), rfl, rfl, _, rfl, ite2 (fun d => ?_) (fun d => ?_)⟩
      · have d : inV (.str wd) fwW = true := d
        rw [if_pos d] at q
        exact ⟨_, rfl, _, rfl, by show 3 ≤ sizeLine; decide, fun t nt => q t nt⟩
      · have d : ¬ inV (.str wd) fwW = true := d
        rw [if_neg d] at q
        refine ⟨_, rfl, aB, bkW, rfl, .inr (A.backward _), rfl, rfl, _, rfl, ite2 (fun g => ?_) (fun g => ?_)⟩
        · have g : inV (.str wd) bkW = true := g
          rw [if_pos g] at q
          exact ⟨_, rfl, _, rfl, by show 3 ≤ sizeLine; decide, fun t nt => q t nt⟩
        · have g : ¬ inV (.str wd) bkW = true := g
          rw [if_neg g] at q
          exact q
theorem slV_some (q : Str) (s : Sen) : slV (.str q) s.1 s.2 = (optOf q s).map fun l => (V.str l.1, V.str l.2.1, l.2.2) := by
  unfold slV optOf linkOf
  split
  · rfl
  · split
    · rfl
    · split <;> rfl
theorem ok_tale_links (T : Txt K mg) (A : Wds K mg aM aF aB aW) (F : Fn K mg "tale_links" s_tale_links) (FS : Fn K mg "tale_stands" s_tale_stands) (FL : Fn K mg "sentence_link" s_sentence_link) : Df P w K mg base "tale_links" 2 ["tale"] (spLinks K) := by
  have G_tale_stands : Df P w K mg base "tale_stands" 1 ["tale"] (spStands K) := ok_tale_stands T A FS
  have G_sentence_link : Df P w K mg base "sentence_link" 1 ["stand", "word", "moment"] spSLink := ok_sentence_link T A FL
  refine F.df (fun _ _ _ _ _ _ us hl => match us, hl with | [_], _ => rfl) fun f fd F => F.ok sc_tale_links (fun vs H Q E h => ?_) (fun cdv AA outer s H vs Q E hr h => ?_)
  · obtain ⟨a, S, rfl, _⟩ := h
    rfl
  · obtain ⟨a, S, rfl, hT, hl, hb, q⟩ := h
    have hB : Begins S := fun s e => by
      rw [hb s e]
      rfl
    refine ⟨_, pss_one (ps_ret (pe_lc (own := [("stand", 1), ("sentence", 2)]) rfl sc_tale_links.nd (ZLT.pi_zipLT (by rfl) T.m_zip (pa_cons (pe_op op_cat (pe_lst (pa_cons (pe_non) (pa_nil))) (pe_df G_tale_stands (hr.mono (by decide)) (by rfl) (pa_cons (pv 0) (pa_nil)))) (pa_cons (pv 0) (pa_nil)))) (blkOk_by (N := ["tale", "stand", "sentence"]) (sc := defScope s_tale_links) (by decide +kernel)) (fun _ _ _ _ _ => (show PG _ _ (gTup K 2 _) from pg_tup (by rfl) (pgs_cons (pg_name (i := 1) sc_tale_links.nd rfl (by first | exact Or.inl rfl | exact Or.inr rfl)) (pgs_cons (pg_name (i := 2) sc_tale_links.nd rfl (by first | exact Or.inl rfl | exact Or.inr rfl)) (pgs_nil))) (by rfl))) (fun _ _ _ _ _ => pts_nil) (fun _ _ _ _ _ => pe_dfS G_sentence_link (hr.mono (by decide)) (by rfl) (pa_cons (pv 1) ((show PA _ _ (StX.tStar K _ _) from StX.pa_star (pv 2) (pa_nil))))))), ?_⟩
    refine ⟨by show 1 ≤ sizeLine; decide, fun p1 np1 => ?_⟩
    have s1 := same_upd np1 (o := .lst [.non])
    refine ⟨.ref a, rfl, a, S, rfl, hT.same s1, hl, hB, fun p2 H2 s2 np2 h2 => ?_⟩
    have s3 := s1.trans s2
    have h1 : H2 p1 = some (.lst [.non]) := s2 _ _ upd_same
    refine ⟨p1, p2, _, _, rfl, rfl, h1, h2, ?_, fun p3 np3 => ?_⟩
    · rw [List.length_map, standsL_length]
      have := small1000 hl
      show 1 + S.length ≤ sizeLine
      omega
    have s4 := s3.trans (same_upd np3 (o := .lst ([V.non] ++ (standsL "" S).map V.str)))
    have h3 : (upd H2 p3 (.lst ([V.non] ++ (standsL "" S).map V.str))) p3 = some (.lst ([V.non] ++ (standsL "" S).map V.str)) := upd_same
    generalize upd H2 p3 (.lst ([V.non] ++ (standsL "" S).map V.str)) = H3 at s4 h3
    obtain ⟨xs, hq, hx⟩ := hT
    have hn : xs.length = min ([V.non] ++ (standsL "" S).map V.str).length xs.length := by
      rw [List.length_append, List.length_map, standsL_length, hx.length]
      show S.length = min (1 + S.length) S.length
      omega
    refine ⟨.ref a, rfl, p3, a, _, xs, rfl, SqL.of h3, s4.seqT hq, fun D nD => lc_it (ZLT.walk_lt (K := K) (a := p3) (b := a) (xs := [V.non] ++ (standsL "" S).map V.str) (ys := xs) hn)
      (fun i H' => Same H3 H' ∧ ∃ ys, H' D = some (.lst ys) ∧ All2 (LnkO H') ys ((lawLinks "" S).take i)) ⟨same_upd nD, [], upd_same, .nil⟩ (fun i H' _ h => ⟨SqL.of (h.1 _ _ h3), (s4.trans h.1).seqT hq⟩) ?_ ?_⟩
    · rintro i x H4 H5 hi ⟨s5, ys, hys, hY⟩ ⟨t, st, x2, rfl, nt, rfl, e1, e2⟩
      obtain ⟨s, es, t2, rfl, ht⟩ := hx.get e2
      obtain ⟨q0, f1, f2⟩ := standsL_at S "" i s es
      have lt : i < S.length := (List.getElem?_eq_some_iff.mp es).1
      have s6 := s5.trans (same_upd nt (o := .tup [st, .ref t2]))
      have s46 := s4.trans s6
      refine ⟨t, _, rfl, .inl (.inl upd_same), rfl, _, _, rfl, _, _, rfl, rfl, rfl, yes_run ?_⟩
      have h6 : (upd H4 t (.tup [st, .ref t2])) D = some (.lst ys) := (same_upd nt) _ _ hys
      have ll : ys.length < sizeLine := by
        rw [hY.length, List.length_take, lawLinks_length]
        exact small1000 (by omega)
      have more : (lawLinks "" S).take (i + 1) = (lawLinks "" S).take i ++ [optOf q0 s] := take_next (lawLinks_at S "" q0 i s es f1)
      have hsl : slV st s.1 s.2 = (optOf q0 s).map fun l => (V.str l.1, V.str l.2.1, l.2.2) := by
        match i, e1, f1, es with
        | 0, e1, f1, es =>
          have e1 : some V.non = some st := e1
          cases e1
          have f1 : some ("" : Str) = some q0 := f1
          cases f1
          have a1 := hb s es
          obtain ⟨w1, m1⟩ := s
          have a1 : w1 = "at" := a1
          subst a1
          rfl
        | k + 1, e1, f1, _ =>
          have e1 : ((standsL "" S).map V.str)[k]? = some st := e1
          have f1 : (standsL "" S)[k]? = some q0 := f1
          rw [List.getElem?_map, f1] at e1
          cases e1
          exact slV_some q0 s
      refine ⟨_, rfl, _, rfl, t2, _, rfl, .inl (s46.seqT ht), _, _, _, rfl, ?_⟩
      rw [hsl]
      have up : ∀ (H7 : Hp) (v : V), Same H4 H7 → ∀ y o, LnkO H4 y o → LnkO (upd H7 D (.lst (ys ++ [v]))) y o := fun H7 v s7 y o ho => by
        cases o with
        | none => exact ho
        | some l =>
          obtain ⟨u, rfl, hu⟩ := ho
          exact ⟨u, rfl, by rw [upd_ne fun q => by rw [q, hys] at hu; cases hu]; exact s7 _ _ hu⟩
      cases ho : optOf q0 s with
      | none =>
        refine ⟨ys, h6, ll, s6.fresh nD, _, upd_same, ?_⟩
        rw [more, ho]
        exact (hY.imp (up _ _ (same_upd nt))).append (.cons rfl .nil)
      | some l =>
        intro u nu
        refine ⟨ys, (same_upd nu) _ _ h6, ll, (s6.trans (same_upd nu)).fresh nD, _, upd_same, ?_⟩
        rw [more, ho]
        refine (hY.imp (up _ _ ((same_upd nt).trans (same_upd nu)))).append (.cons ⟨u, rfl, ?_⟩ .nil)
        rw [upd_ne fun q => by rw [q, h6] at nu; cases nu]
        exact upd_same
    · rintro H4 ⟨s5, ys, hys, hY⟩
      refine q D H4 (s4.trans s5) ?_ ⟨ys, hys, ?_⟩
      · cases h : H D with
        | none => rfl
        | some o => rw [s4 _ _ h] at nD; cases nD
      · have e : (lawLinks "" S).take xs.length = lawLinks "" S := List.take_of_length_le (by rw [lawLinks_length, hx.length]; exact Nat.le_refl _)
        rw [← e]
        exact hY
end
end Lw
set_option Elab.async false
set_option linter.all false
set_option maxRecDepth 100000
set_option maxHeartbeats 4000000
/-! parts joined by pairs: the classes of what pairs lead to -/
namespace L2
open PySem PySem.Spec PyProof.Rows
inductive Conn (E : List (Str × Str)) : Str → Str → Prop
  | refl (x : Str) : Conn E x x
  | edge {x y : Str} (h : (x, y) ∈ E) : Conn E x y
  | symm {x y : Str} (h : Conn E x y) : Conn E y x
  | trans {x y z : Str} (h : Conn E x y) (g : Conn E y z) : Conn E x z
theorem Conn.mono {E E' : List (Str × Str)} (s : ∀ p ∈ E, p ∈ E') {x y : Str} (h : Conn E x y) : Conn E' x y := by
  induction h with
  | refl x => exact .refl x
  | edge h => exact .edge (s _ h)
  | symm _ ih => exact ih.symm
  | trans _ _ i1 i2 => exact i1.trans i2
theorem Conn.nil {x y : Str} (h : Conn [] x y) : x = y := by
  induction h with
  | refl x => rfl
  | edge h => cases h
  | symm _ ih => exact ih.symm
  | trans _ _ i1 i2 => exact i1.trans i2
theorem Conn.more {E : List (Str × Str)} {a b x y : Str} (h : Conn (E ++ [(a, b)]) x y) : Conn E x y ∨ ((Conn E a x ∨ Conn E b x) ∧ (Conn E a y ∨ Conn E b y)) := by
  induction h with
  | refl x => exact .inl (.refl x)
  | edge h =>
    rcases List.mem_append.mp h with h | h
    · exact .inl (.edge h)
    · cases List.mem_singleton.mp h
      exact .inr ⟨.inl (.refl _), .inr (.refl _)⟩
  | symm _ ih =>
    rcases ih with h | ⟨h, g⟩
    · exact .inl h.symm
    · exact .inr ⟨g, h⟩
  | trans _ _ i1 i2 =>
    rcases i1 with h | ⟨h, g⟩
    · rcases i2 with h2 | ⟨h2, g2⟩
      · exact .inl (h.trans h2)
      · refine .inr ⟨?_, g2⟩
        rcases h2 with h2 | h2
        · exact .inl (h2.trans h.symm)
        · exact .inr (h2.trans h.symm)
    · rcases i2 with h2 | ⟨h2, g2⟩
      · refine .inr ⟨h, ?_⟩
        rcases g with g | g
        · exact .inl (g.trans h2)
        · exact .inr (g.trans h2)
      · exact .inr ⟨h, g2⟩
theorem Conn.less {E : List (Str × Str)} {a b x y : Str} (h : Conn E x y ∨ ((Conn E a x ∨ Conn E b x) ∧ (Conn E a y ∨ Conn E b y))) : Conn (E ++ [(a, b)]) x y := by
  have up : ∀ {x y}, Conn E x y → Conn (E ++ [(a, b)]) x y := fun h => h.mono fun p hp => List.mem_append_left _ hp
  have ab : Conn (E ++ [(a, b)]) a b := .edge (List.mem_append_right _ (List.mem_singleton.mpr rfl))
  rcases h with h | ⟨h, g⟩
  · exact up h
  · have fx : Conn (E ++ [(a, b)]) a x := by
      rcases h with h | h
      · exact up h
      · exact ab.trans (up h)
    have fy : Conn (E ++ [(a, b)]) a y := by
      rcases g with h | h
      · exact up h
      · exact ab.trans (up h)
    exact fx.symm.trans fy
abbrev PM := List (Str × List Str)
def getP (P : PM) (k : Str) : Option (List Str) := (P.find? fun e => decide (e.1 = k)).map (·.2)
def putP (P : PM) (k : Str) (L : List Str) : PM := if (P.any fun e => decide (e.1 = k)) = true then P.map (fun e => if e.1 = k then (e.1, L) else e) else P ++ [(k, L)]
def putAll (P : PM) (ks : List Str) (L : List Str) : PM := ks.foldl (fun P t => putP P t L) P
def startP (ts : List Str) : PM := ts.foldl (fun P t => putP P t [t]) []
def mergeP (P : PM) (a b : Str) : PM := if b ∈ (getP P a).getD [] then P else putAll P ((getP P a).getD [] ++ (getP P b).getD []) ((getP P a).getD [] ++ (getP P b).getD [])
def joinP (ts : List Str) (E : List (Str × Str)) : PM := E.foldl (fun P e => mergeP P e.1 e.2) (startP ts)
theorem getP_pos {p : Str × List Str} {r : PM} {k : Str} (e : p.1 = k) : getP (p :: r) k = some p.2 := by simp [getP, List.find?_cons, e]
theorem getP_neg {p : Str × List Str} {r : PM} {k : Str} (e : ¬ p.1 = k) : getP (p :: r) k = getP r k := by simp [getP, List.find?_cons, e]
theorem getP_any (k : Str) : ∀ P : PM, (P.any fun e => decide (e.1 = k)) = (getP P k).isSome
  | [] => rfl
  | p :: r => by
    rw [List.any_cons]
    by_cases e : p.1 = k
    · rw [getP_pos e, decide_eq_true e]
      rfl
    · rw [getP_neg e, decide_eq_false e, getP_any k r]
      rfl
theorem getP_map (k j : Str) (L : List Str) : ∀ P : PM, getP (P.map fun e => if e.1 = k then (e.1, L) else e) j = (getP P j).map fun x => if j = k then L else x
  | [] => rfl
  | p :: r => by
    rw [List.map_cons]
    by_cases e : p.1 = j
    · rw [getP_pos (p := p) e]
      by_cases h : p.1 = k
      · rw [if_pos h, getP_pos (p := (p.1, L)) e, Option.map_some, if_pos (e.symm.trans h)]
      · rw [if_neg h, getP_pos (p := p) e, Option.map_some, if_neg fun z => h (e.trans z)]
    · rw [getP_neg (p := p) e, ← getP_map k j L r]
      by_cases h : p.1 = k
      · rw [if_pos h, getP_neg (p := (p.1, L)) e]
      · rw [if_neg h, getP_neg (p := p) e]
theorem getP_app (k j : Str) (L : List Str) : ∀ P : PM, getP P k = none → getP (P ++ [(k, L)]) j = if j = k then some L else getP P j
  | [], _ => by
    by_cases e : j = k
    · rw [if_pos e]
      exact getP_pos (p := (k, L)) e.symm
    · rw [if_neg e]
      exact getP_neg (p := (k, L)) fun z => e z.symm
  | p :: r, hn => by
    have hk : ¬ p.1 = k := fun z => by
      rw [getP_pos z] at hn
      cases hn
    rw [getP_neg hk] at hn
    rw [List.cons_append]
    by_cases e : p.1 = j
    · rw [getP_pos e, getP_pos e, if_neg fun z => hk (e.trans z)]
    · rw [getP_neg e, getP_neg e, getP_app k j L r hn]
theorem getP_put (P : PM) (k j : Str) (L : List Str) : getP (putP P k L) j = if j = k then some L else getP P j := by
  unfold putP
  rw [getP_any]
  by_cases h : (getP P k).isSome = true
  · rw [if_pos h, getP_map]
    by_cases e : j = k
    · subst e
      rw [if_pos rfl]
      cases g : getP P j with
      | none => rw [g] at h; cases h
      | some x => rw [Option.map_some, if_pos rfl]
    · rw [if_neg e]
      cases getP P j with
      | none => rfl
      | some x => rw [Option.map_some, if_neg e]
  · rw [if_neg h]
    exact getP_app k j L P (Option.not_isSome_iff_eq_none.mp h)
theorem getP_all (L : List Str) (j : Str) : ∀ (ks : List Str) (P : PM), getP (putAll P ks L) j = if j ∈ ks then some L else getP P j
  | [], P => by
    rw [if_neg List.not_mem_nil]
    rfl
  | k :: r, P => by
    show getP (putAll (putP P k L) r L) j = _
    rw [getP_all L j r, getP_put]
    by_cases h : j ∈ r
    · rw [if_pos h, if_pos (List.mem_cons_of_mem _ h)]
    · rw [if_neg h]
      by_cases e : j = k
      · rw [if_pos e, if_pos (e ▸ List.mem_cons_self)]
      · rw [if_neg e, if_neg fun z => (List.mem_cons.mp z).elim e h]
theorem getP_start (j : Str) : ∀ (ts : List Str) (P : PM), getP (ts.foldl (fun P t => putP P t [t]) P) j = if j ∈ ts then some [j] else getP P j
  | [], P => by
    rw [if_neg List.not_mem_nil]
    rfl
  | t :: r, P => by
    rw [List.foldl_cons, getP_start j r, getP_put]
    by_cases h : j ∈ r
    · rw [if_pos h, if_pos (List.mem_cons_of_mem _ h)]
    · rw [if_neg h]
      by_cases e : j = t
      · rw [if_pos e, if_pos (e ▸ List.mem_cons_self), e]
      · rw [if_neg e, if_neg fun z => (List.mem_cons.mp z).elim e h]
/-- every key has its class -/
structure Good (P : PM) (ts : List Str) (E : List (Str × Str)) : Prop where
  dom : ∀ x, (getP P x).isSome = true ↔ x ∈ ts
  cls : ∀ x L, getP P x = some L → L.Nodup ∧ (∀ y, y ∈ L ↔ Conn E x y)
  one : ∀ x L y, getP P x = some L → y ∈ L → getP P y = some L
theorem good_start (ts : List Str) : Good (startP ts) ts [] := by
  have g : ∀ j, getP (startP ts) j = if j ∈ ts then some [j] else none := fun j => getP_start j ts []
  refine ⟨fun x => ?_, fun x L h => ?_, fun x L y h hy => ?_⟩
  · rw [g]
    by_cases h : x ∈ ts
    · rw [if_pos h]
      exact ⟨fun _ => h, fun _ => rfl⟩
    · rw [if_neg h]
      exact ⟨fun z => (nomatch z), fun z => absurd z h⟩
  · rw [g] at h
    by_cases hx : x ∈ ts
    · rw [if_pos hx] at h
      cases h
      refine ⟨List.nodup_cons.mpr ⟨List.not_mem_nil, List.nodup_nil⟩, fun y => Iff.intro (fun hy => ?_) (fun c => ?_)⟩
      · rw [List.mem_singleton.mp hy]
        exact .refl x
      · rw [c.nil]
        exact List.mem_singleton.mpr rfl
    · rw [if_neg hx] at h
      cases h
  · rw [g] at h
    by_cases hx : x ∈ ts
    · rw [if_pos hx] at h
      cases h
      cases List.mem_singleton.mp hy
      rw [g, if_pos hx]
    · rw [if_neg hx] at h
      cases h
theorem Good.merge {P : PM} {ts : List Str} {E : List (Str × Str)} (G : Good P ts E) {a b : Str} (ha : a ∈ ts) (hb : b ∈ ts) : Good (mergeP P a b) ts (E ++ [(a, b)]) := by
  obtain ⟨A, eA⟩ := Option.isSome_iff_exists.mp ((G.dom a).mpr ha)
  obtain ⟨B, eB⟩ := Option.isSome_iff_exists.mp ((G.dom b).mpr hb)
  obtain ⟨nA, cA⟩ := G.cls a A eA
  obtain ⟨nB, cB⟩ := G.cls b B eB
  unfold mergeP
  rw [eA, eB]
  show Good (if b ∈ A then P else putAll P (A ++ B) (A ++ B)) ts _
  by_cases h : b ∈ A
  · rw [if_pos h]
    have ab : Conn E a b := (cA b).mp h
    refine ⟨G.dom, fun x L e => ⟨(G.cls x L e).1, fun y => ?_⟩, G.one⟩
    rw [(G.cls x L e).2 y]
    refine ⟨fun c => .less (.inl c), fun c => ?_⟩
    rcases c.more with c | ⟨c1, c2⟩
    · exact c
    · have f1 : Conn E a x := c1.elim id fun c => ab.trans c
      have f2 : Conn E a y := c2.elim id fun c => ab.trans c
      exact f1.symm.trans f2
  · rw [if_neg h]
    have g : ∀ j, getP (putAll P (A ++ B) (A ++ B)) j = if j ∈ A ++ B then some (A ++ B) else getP P j := fun j => getP_all _ j _ P
    have inA : ∀ x ∈ A, x ∈ ts := fun x hx => (G.dom x).mp (by rw [G.one a A x eA hx]; rfl)
    have inB : ∀ x ∈ B, x ∈ ts := fun x hx => (G.dom x).mp (by rw [G.one b B x eB hx]; rfl)
    have dis : ∀ x ∈ A, ∀ y ∈ B, x ≠ y := fun x hx y hy e => by
      subst e
      have e1 := G.one a A x eA hx
      rw [G.one b B x eB hy] at e1
      cases e1
      exact h ((cB b).mpr (.refl b))
    have nAB : (A ++ B).Nodup := List.nodup_append.mpr ⟨nA, nB, dis⟩
    have mem : ∀ y, y ∈ A ++ B ↔ (Conn E a y ∨ Conn E b y) := fun y => by rw [List.mem_append, cA, cB]
    refine ⟨fun x => ?_, fun x L e => ?_, fun x L y e hy => ?_⟩
    · rw [g]
      by_cases hx : x ∈ A ++ B
      · rw [if_pos hx]
        exact ⟨fun _ => (List.mem_append.mp hx).elim (inA x) (inB x), fun _ => rfl⟩
      · rw [if_neg hx]
        exact G.dom x
    · rw [g] at e
      by_cases hx : x ∈ A ++ B
      · rw [if_pos hx] at e
        cases e
        refine ⟨nAB, fun y => ⟨fun hy => .less (.inr ⟨(mem x).mp hx, (mem y).mp hy⟩), fun c => ?_⟩⟩
        rcases c.more with c | ⟨_, c2⟩
        · exact (mem y).mpr (((mem x).mp hx).elim (fun z => .inl (z.trans c)) fun z => .inr (z.trans c))
        · exact (mem y).mpr c2
      · rw [if_neg hx] at e
        refine ⟨(G.cls x L e).1, fun y => ?_⟩
        rw [(G.cls x L e).2 y]
        refine ⟨fun c => .less (.inl c), fun c => ?_⟩
        rcases c.more with c | ⟨c1, _⟩
        · exact c
        · exact absurd ((mem x).mpr c1) hx
    · rw [g] at e ⊢
      by_cases hx : x ∈ A ++ B
      · rw [if_pos hx] at e
        cases e
        rw [if_pos hy]
      · rw [if_neg hx] at e
        have hy2 : y ∉ A ++ B := fun z => hx ((mem x).mpr (((mem y).mp z).elim (fun c => .inl (c.trans ((G.cls x L e).2 y |>.mp hy).symm)) fun c => .inr (c.trans ((G.cls x L e).2 y |>.mp hy).symm)))
        rw [if_neg hy2]
        exact G.one x L y e hy
theorem good_fold {ts : List Str} : ∀ (E E0 : List (Str × Str)) (P : PM), Good P ts E0 → (∀ e ∈ E, e.1 ∈ ts ∧ e.2 ∈ ts) → Good (E.foldl (fun P e => mergeP P e.1 e.2) P) ts (E0 ++ E)
  | [], E0, P, G, _ => by
    rw [List.append_nil]
    exact G
  | e :: r, E0, P, G, h => by
    obtain ⟨h1, h2⟩ := h e (List.mem_cons_self ..)
    have g := good_fold r (E0 ++ [e]) (mergeP P e.1 e.2) (G.merge h1 h2) fun e' he => h e' (List.mem_cons_of_mem _ he)
    rw [List.append_assoc] at g
    exact g
theorem good_join {ts : List Str} {E : List (Str × Str)} (h : ∀ e ∈ E, e.1 ∈ ts ∧ e.2 ∈ ts) : Good (joinP ts E) ts E := by
  have g := good_fold E [] (startP ts) (good_start ts) h
  exact g
end L2
set_option Elab.async false
set_option linter.all false
set_option maxRecDepth 100000
set_option maxHeartbeats 4000000
/-! walks of comprehensions of dicts and sets; parts in the heap -/
namespace L2
open PySem PySem.Spec PyProof.Rows TKS
section
variable {J : It} {n : Nat} {G : Hp → Prop} {Y : Nat → Hp → V → Hp → Prop}
theorem dc_it (w : Walk J n G Y) {g : TG} {tt : TT} {tk tv : TE} {vs : List Nat} {σ : L2.St} {H1 : Hp} {D : Addr} {Qd : Hp → Prop} (Pv : Nat → Hp → Prop) (h0 : Pv 0 (upd H1 D (.dK []))) (hG : ∀ i H, i ≤ n → Pv i H → G H)
    (hs : ∀ i x H H', i < n → Pv i H → Y i H x H' → g x (wipe σ vs) H' fun σ2 H2 => wipe σ2 vs = wipe σ vs ∧ tt σ2 H2 fun b H3 =>
      if b = true then tk σ2 H3 fun y H4 => tv σ2 H4 fun z H5 => ∃ kvs k, y = kV k ∧ H5 D = some (.dK kvs) ∧ kvs.length < sizeLine ∧ Pv (i + 1) (upd H5 D (.dK (putK kvs k z))) else Pv (i + 1) H3) (hd : ∀ H, Pv n H → Qd H) :
    ∃ W : Nat → Nat → Hp → Prop, (∃ m, W 0 m (upd H1 D (.dK []))) ∧ ∀ i m H, W i m H →
      (J.stop i H ∧ Qd H) ∨ (J.go i H ∧ ∃ Nx : Hp → Prop, (∀ H', Nx H' → ∃ m', m' < m ∧ W (i + 1) m' H') ∧ ∀ x H', J.yld i H x H' → g x (wipe σ vs) H' fun σ2 H2 => wipe σ2 vs = wipe σ vs ∧ tt σ2 H2 fun b H3 =>
        if b = true then tk σ2 H3 fun y H4 => tv σ2 H4 fun z H5 => ∃ kvs k, y = kV k ∧ H5 D = some (.dK kvs) ∧ kvs.length < sizeLine ∧ Nx (upd H5 D (.dK (putK kvs k z))) else Nx H3) := by
  refine ⟨fun i m H => m = n - i ∧ i ≤ n ∧ Pv i H, ⟨n, by simp, Nat.zero_le _, h0⟩, ?_⟩
  rintro i m H ⟨rfl, hi, p⟩
  have q := hG i H hi p
  rcases Nat.lt_or_eq_of_le hi with lt | rfl
  · exact .inr ⟨w.goes i H lt q, Pv (i + 1), fun H' p' => ⟨n - (i + 1), by omega, rfl, lt, p'⟩, fun x H' y => hs i x H H' lt p (w.yields i H x H' lt q y)⟩
  · exact .inl ⟨w.stops H q, hd H p⟩
theorem sc_it (w : Walk J n G Y) {O : Addr → HO} {Ad : TAd} {g : TG} {tt : TT} {te : TE} {vs : List Nat} {σ : L2.St} {H1 : Hp} {D : Addr} {Qd : Hp → Prop} (Pv : Nat → Hp → Prop) (h0 : Pv 0 (upd H1 D (O D))) (hG : ∀ i H, i ≤ n → Pv i H → G H)
    (hs : ∀ i x H H', i < n → Pv i H → Y i H x H' → g x (wipe σ vs) H' fun σ2 H2 => wipe σ2 vs = wipe σ vs ∧ tt σ2 H2 fun b H3 => if b = true then te σ2 H3 fun y H4 => Ad D y H4 (Pv (i + 1)) else Pv (i + 1) H3) (hd : ∀ H, Pv n H → Qd H) :
    ∃ W : Nat → Nat → Hp → Prop, (∃ m, W 0 m (upd H1 D (O D))) ∧ ∀ i m H, W i m H →
      (J.stop i H ∧ Qd H) ∨ (J.go i H ∧ ∃ Nx : Hp → Prop, (∀ H', Nx H' → ∃ m', m' < m ∧ W (i + 1) m' H') ∧ ∀ x H', J.yld i H x H' → g x (wipe σ vs) H' fun σ2 H2 => wipe σ2 vs = wipe σ vs ∧ tt σ2 H2 fun b H3 =>
        if b = true then te σ2 H3 fun y H4 => Ad D y H4 Nx else Nx H3) := by
  refine ⟨fun i m H => m = n - i ∧ i ≤ n ∧ Pv i H, ⟨n, by simp, Nat.zero_le _, h0⟩, ?_⟩
  rintro i m H ⟨rfl, hi, p⟩
  have q := hG i H hi p
  rcases Nat.lt_or_eq_of_le hi with lt | rfl
  · exact .inr ⟨w.goes i H lt q, Pv (i + 1), fun H' p' => ⟨n - (i + 1), by omega, rfl, lt, p'⟩, fun x H' y => hs i x H H' lt p (w.yields i H x H' lt q y)⟩
  · exact .inl ⟨w.stops H q, hd H p⟩
end
/-- an entry of the dict of parts -/
def EntAt (H : Hp) (kv : Key × V) (e : Str × List Str) : Prop := kv.1 = Sum.inr e.1 ∧ ∃ l, kv.2 = .ref l ∧ H l = some (.lst (e.2.map V.str))
def PartsAt (H : Hp) (d : Addr) (P : PM) : Prop := ∃ kvs, H d = some (.dK kvs) ∧ All2 (EntAt H) kvs P
theorem EntAt.upd {H : Hp} {d : Addr} {o : HO} {kv : Key × V} {e : Str × List Str} (hd : ∀ xs, H d ≠ some (.lst xs)) (h : EntAt H kv e) : EntAt (upd H d o) kv e := by
  obtain ⟨h1, l, h2, h3⟩ := h
  have ne : l ≠ d := fun z => hd _ (z ▸ h3)
  exact ⟨h1, l, h2, by rw [upd_ne ne]; exact h3⟩
theorem EntAt.same {H H' : Hp} {kv : Key × V} {e : Str × List Str} (s : Same H H') (h : EntAt H kv e) : EntAt H' kv e := by
  obtain ⟨h1, l, h2, h3⟩ := h
  exact ⟨h1, l, h2, s _ _ h3⟩
theorem ent_any {H : Hp} {k : Str} : ∀ {kvs : List (Key × V)} {P : PM}, All2 (EntAt H) kvs P → (kvs.any fun kv => decide (kv.1 = Sum.inr k)) = (P.any fun e => decide (e.1 = k))
  | _, _, .nil => rfl
  | _, _, .cons (x := x) (y := y) h t => by
    rw [List.any_cons, List.any_cons, ent_any t]
    have e : decide (x.1 = Sum.inr k) = decide (y.1 = k) := by
      rw [h.1, Bool.eq_iff_iff, decide_eq_true_eq, decide_eq_true_eq]
      exact ⟨fun z => Sum.inr.inj z, fun z => congrArg Sum.inr z⟩
    rw [e]
theorem ent_get {H : Hp} {k : Str} {L : List Str} : ∀ {kvs : List (Key × V)} {P : PM}, All2 (EntAt H) kvs P → getP P k = some L → ∃ l, valV kvs (Sum.inr k) = some (.ref l) ∧ H l = some (.lst (L.map V.str))
  | _, _, .nil, e => nomatch e
  | _, _, .cons (x := x) (y := y) h t, e => by
    obtain ⟨h1, l, h2, h3⟩ := h
    by_cases z : y.1 = k
    · rw [getP_pos z] at e
      cases e
      exact ⟨l, by rw [valV_pos (by rw [h1, z]), h2], h3⟩
    · rw [getP_neg z] at e
      obtain ⟨l', e1, e2⟩ := ent_get t e
      exact ⟨l', by rw [valV_neg (by rw [h1]; exact fun q => z (Sum.inr.inj q))]; exact e1, e2⟩
theorem ent_map {H : Hp} {k : Str} {L : List Str} {l : Addr} (hl : H l = some (.lst (L.map V.str))) : ∀ {kvs : List (Key × V)} {P : PM}, All2 (EntAt H) kvs P →
    All2 (EntAt H) (kvs.map fun kv => if kv.1 = Sum.inr k then (kv.1, V.ref l) else kv) (P.map fun e => if e.1 = k then (e.1, L) else e)
  | _, _, .nil => .nil
  | _, _, .cons (x := x) (y := y) h t => by
    refine .cons ?_ (ent_map hl t)
    have h1 := h.1
    show EntAt H (if x.1 = Sum.inr k then (x.1, V.ref l) else x) (if y.1 = k then (y.1, L) else y)
    by_cases z : y.1 = k
    · rw [if_pos z, if_pos (by rw [h1, z])]
      exact ⟨h1, l, rfl, hl⟩
    · rw [if_neg z, if_neg (by rw [h1]; exact fun q => z (Sum.inr.inj q))]
      exact h
theorem ent_put {H : Hp} {k : Str} {L : List Str} {l : Addr} {kvs : List (Key × V)} {P : PM} (hl : H l = some (.lst (L.map V.str))) (h : All2 (EntAt H) kvs P) : All2 (EntAt H) (putK kvs (Sum.inr k) (.ref l)) (putP P k L) := by
  unfold putK putP
  rw [ent_any h]
  split
  · exact ent_map hl h
  · exact h.append (.cons ⟨rfl, l, rfl, hl⟩ .nil)
/-- d[k] = list at l -/
theorem PartsAt.put {H : Hp} {d l : Addr} {P : PM} {k : Str} {L : List Str} {kvs : List (Key × V)} (hd : H d = some (.dK kvs)) (h : All2 (EntAt H) kvs P) (hl : H l = some (.lst (L.map V.str))) : PartsAt (upd H d (.dK (putK kvs (Sum.inr k) (.ref l)))) d (putP P k L) :=
  ⟨_, upd_same, (ent_put hl h).imp fun _ _ => EntAt.upd fun xs z => by rw [hd] at z; cases z⟩
theorem putP_length (P : PM) (k : Str) (L : List Str) : (putP P k L).length ≤ P.length + 1 := by
  unfold putP
  split
  · rw [List.length_map]
    omega
  · rw [List.length_append]
    exact Nat.le_refl _
theorem putP_keys (P : PM) (k : Str) (L : List Str) : (putP P k L).map (·.1) = if k ∈ P.map (·.1) then P.map (·.1) else P.map (·.1) ++ [k] := by
  have e : (P.any fun e => decide (e.1 = k)) = true ↔ k ∈ P.map (·.1) := by
    rw [List.any_eq_true, List.mem_map]
    exact ⟨fun ⟨x, h, g⟩ => ⟨x, h, of_decide_eq_true g⟩, fun ⟨x, h, g⟩ => ⟨x, h, decide_eq_true g⟩⟩
  unfold putP
  by_cases h : k ∈ P.map (·.1)
  · rw [if_pos (e.mpr h), if_pos h, List.map_map]
    refine List.map_congr_left fun x _ => ?_
    show (if x.1 = k then (x.1, L) else x).1 = x.1
    split <;> rfl
  · rw [if_neg (fun z => h (e.mp z)), if_neg h, List.map_append]
    rfl
/-- keys once, and from the things -/
def Keys (P : PM) (ts : List Str) : Prop := (P.map (·.1)).Nodup ∧ ∀ k ∈ P.map (·.1), k ∈ ts
theorem Keys.put {P : PM} {ts : List Str} {k : Str} {L : List Str} (h : Keys P ts) (hk : k ∈ ts) : Keys (putP P k L) ts := by
  unfold Keys
  rw [putP_keys]
  split
  · exact h
  · rename_i hn
    refine ⟨List.nodup_append.mpr ⟨h.1, List.nodup_cons.mpr ⟨List.not_mem_nil, List.nodup_nil⟩, fun a ha b hb e => ?_⟩, fun a ha => ?_⟩
    · cases List.mem_singleton.mp hb
      exact hn (e ▸ ha)
    · rcases List.mem_append.mp ha with ha | ha
      · exact h.2 a ha
      · cases List.mem_singleton.mp ha
        exact hk
theorem Keys.all {ts : List Str} {L : List Str} : ∀ {ks : List Str} {P : PM}, Keys P ts → (∀ k ∈ ks, k ∈ ts) → Keys (putAll P ks L) ts
  | [], _, h, _ => h
  | k :: r, P, h, g => Keys.all (ks := r) (P := putP P k L) (h.put (g k (List.mem_cons_self ..))) fun k hk => g k (List.mem_cons_of_mem _ hk)
theorem Keys.length {P : PM} {ts : List Str} (h : Keys P ts) : P.length ≤ ts.length := by
  have e := h.1.length_le_of_subset (fun a ha => h.2 a ha)
  rw [List.length_map] at e
  exact e
theorem getP_of {P : PM} (nd : (P.map (·.1)).Nodup) {e : Str × List Str} (h : e ∈ P) : getP P e.1 = some e.2 := by
  induction P with
  | nil => cases h
  | cons p r ih =>
    rw [List.map_cons, List.nodup_cons] at nd
    rcases List.mem_cons.mp h with rfl | h
    · exact getP_pos rfl
    · rw [getP_neg fun z => nd.1 (z ▸ List.mem_map_of_mem h)]
      exact ih nd.2 h
theorem getP_mem {P : PM} {k : Str} {L : List Str} (h : getP P k = some L) : (k, L) ∈ P := by
  induction P with
  | nil => cases h
  | cons p r ih =>
    by_cases z : p.1 = k
    · rw [getP_pos z] at h
      cases h
      rw [← z]
      exact List.mem_cons_self
    · rw [getP_neg z] at h
      exact List.mem_cons_of_mem _ (ih h)
end L2
set_option Elab.async false
set_option linter.all false
set_option maxRecDepth 100000
set_option maxHeartbeats 4000000
namespace Lw
open PySem PySem.Spec PyProof.Rows L2 TKS
/-- two lists: things as texts, pairs of things -/
def PairsAt (K : PySem.W.Frag) (H : Hp) (b : Addr) (E : List (Str × Str)) : Prop := ∃ ys, SqL K H b ys ∧ All2 (SenAt K H) ys E
theorem PairsAt.same {K : PySem.W.Frag} {H H' : Hp} {a : Addr} {S : List (Str × Str)} (e : Same H H') (h : PairsAt K H a S) : PairsAt K H' a S := by
  obtain ⟨xs, q, r⟩ := h
  exact ⟨xs, e.seq q, r.imp fun _ _ => SenAt.same e⟩
theorem flat_strs (A : List Str) : (A.map V.str).all flatV = true := by
  rw [List.all_eq_true]
  intro x hx
  obtain ⟨_, _, rfl⟩ := List.mem_map.mp hx
  rfl
theorem inV_strs (y : Str) : ∀ A : List Str, inV (.str y) (A.map V.str) = decide (y ∈ A)
  | [] => rfl
  | x :: r => by
    have ih := inV_strs y r
    show (eqV (.str x) (.str y) || inV (.str y) (r.map V.str)) = _
    rw [ih]
    show ((x == y) || _) = _
    rw [Bool.eq_iff_iff]
    simp only [Bool.or_eq_true, beq_iff_eq, decide_eq_true_eq, List.mem_cons]
    constructor
    · rintro (h | h)
      · exact .inl h.symm
      · exact .inr h
    · rintro (h | h)
      · exact .inl h.symm
      · exact .inr h
theorem dget_str {H : Hp} {d l : Addr} {kvs : List (Key × V)} {k : Str} (hd : H d = some (.dK kvs)) (e : valV kvs (Sum.inr k) = some (.ref l)) : DGet H d (.str k) (some (.ref l)) := by
  rw [← e]
  exact DGet.k (k := Sum.inr k) hd
def unK : Key → Str
  | .inr s => s
  | .inl _ => ""
theorem unK_map (g : List Str) : (g.map (Sum.inr : Str → Key)).map unK = g := by
  rw [List.map_map]
  exact (List.map_congr_left fun _ _ => rfl).trans (List.map_id g)
theorem keys_perm {M : List (Addr × List Str)} {L : List (Addr × List Key)} (h : L.Perm (keysOf M)) : ∃ M', M'.Perm M ∧ keysOf M' = L := by
  have un : ∀ N : List (Addr × List Str), (keysOf N).map (fun p => (p.1, p.2.map unK)) = N := fun N => by
    rw [List.map_map]
    exact (List.map_congr_left fun p _ => by show (p.1, _) = p; rw [unK_map]).trans (List.map_id N)
  refine ⟨L.map fun p => (p.1, p.2.map unK), ?_, ?_⟩
  · have p := h.map fun p : Addr × List Key => (p.1, p.2.map unK)
    rw [un] at p
    exact p
  · show (L.map _).map _ = L
    rw [List.map_map]
    refine (List.map_congr_left fun p hp => ?_).trans (List.map_id L)
    obtain ⟨p0, _, rfl⟩ := List.mem_map.mp (h.mem_iff.mp hp)
    show (p0.1, ((p0.2.map Sum.inr).map unK).map Sum.inr) = (p0.1, p0.2.map Sum.inr)
    rw [unK_map]
theorem inr_inj : ∀ {g g' : List Str}, g.map (Sum.inr : Str → Key) = g'.map Sum.inr → g = g' := fun {g g'} h => by
  have e := congrArg (List.map unK) h
  rw [unK_map, unK_map] at e
  exact e
theorem keys_has {M : List (Addr × List Str)} {g : List Str} : g.map Sum.inr ∈ (keysOf M).map (·.2) ↔ g ∈ M.map (·.2) := by
  rw [List.mem_map, List.mem_map]
  constructor
  · rintro ⟨p, hp, e⟩
    obtain ⟨p0, hp0, rfl⟩ := List.mem_map.mp hp
    exact ⟨p0, hp0, inr_inj e⟩
  · rintro ⟨p, hp, rfl⟩
    exact ⟨_, List.mem_map_of_mem hp, rfl⟩
theorem key_vals (g : List Str) : (g.map (Sum.inr : Str → Key)).map kV = g.map V.str := by
  rw [List.map_map]
  rfl
/-- the classes as the program lists them -/
structure IsGroups (ts : List Str) (E : List (Str × Str)) (G : List (List Str)) : Prop where
  asc : G.Pairwise fun x y => llt y x = false
  nd : G.Nodup
  own : ∀ g ∈ G, ∃ x L, x ∈ ts ∧ L.Nodup ∧ (∀ y, y ∈ L ↔ Conn E x y) ∧ g.Perm L ∧ sortedS g = true
  all : ∀ x ∈ ts, ∃ g ∈ G, x ∈ g
  few : G.length ≤ 60
  small : ∀ g ∈ G, g.length ≤ 60
def GroupsAt (H : Hp) (r : Addr) (G : List (List Str)) : Prop := ∃ M : List (Addr × List Str), H r = some (.lst (refsOf M)) ∧ (∀ p ∈ M, H p.1 = some (.tup (p.2.map V.str))) ∧ M.map (·.2) = G
def spJoined (K : PySem.W.Frag) : Sp := fun vs H Q _ => ∃ a b ts E, vs = [.ref a, .ref b] ∧ SqL K H a (ts.map V.str) ∧ PairsAt K H b E ∧ ts.length ≤ 60 ∧ (∀ e ∈ E, e.1 ∈ ts ∧ e.2 ∈ ts) ∧
  ∀ r H' G, Same H H' → H r = none → GroupsAt H' r G → IsGroups ts E G → Q (.ref r) H'
section
variable {P : Program} {w : World} {K : PySem.W.Frag} {mg : Str → Option Value} {base : Heap}
theorem ok_joined (T : Txt K mg) (F : Fn K mg "joined" s_joined) : Df P w K mg base "joined" 1 ["things", "pairs"] (spJoined K) := by
  refine F.df (fun _ _ _ _ _ _ us hl => match us, hl with | [_, _], _ => rfl) fun f fd F => F.ok sc_joined (fun vs H Q E h => ?_) (fun cdv AA outer s H vs Q E hr h => ?_)
  · obtain ⟨a, b, ts, E, rfl, _⟩ := h
    rfl
  · obtain ⟨a, b, ts, E, rfl, ha, hb, hts, hE, q⟩ := h
    have hu := Nat.lt_of_le_of_lt (Nat.add_le_add_left (by decide : 1 ≤ 64) _) hr.units
    refine ⟨_, pss_cons (ps_setDc (i := 2) (own := [("thing", 3)]) rfl sc_joined.nd rfl rfl (sw_dict rfl rfl rfl (by decide +kernel)) (pi_list (pv 0)) (blkOk_by (N := ["things", "pairs", "parts", "thing", "one", "other", "part"]) (sc := defScope s_joined) (by decide +kernel)) (fun _ _ _ _ _ => pg_name (i := 3) sc_joined.nd rfl (by first | exact Or.inl rfl | exact Or.inr rfl)) (fun _ _ _ _ _ => pts_nil) (fun _ _ _ _ _ => pv 3) (fun _ _ _ _ _ => pe_lst (pa_cons (pv 3) (pa_nil))))
    (pss_cons (ps_for PassesOwn.never rfl (pi_list (pv 1)) (pg_tup (by rfl) (pgs_cons (pg_name (i := 4) sc_joined.nd rfl (by first | exact Or.inl rfl | exact Or.inr rfl)) (pgs_cons (pg_name (i := 5) sc_joined.nd rfl (by first | exact Or.inl rfl | exact Or.inr rfl)) (pgs_nil)))) (pss_one (ps_if (pt_cmpR op_notIn_seq (pv 5) (pe_dget hu (pv 2) (pv 4) (fun _ _ => rfl)) (by rfl)) (pss_cons (ps_set (i := 6) sc_joined.nd rfl (by first | exact Or.inl rfl | exact Or.inr rfl) (pe_op op_cat (pe_dget hu (pv 2) (pv 4) (fun _ _ => rfl)) (pe_dget hu (pv 2) (pv 5) (fun _ _ => rfl))))
    (pss_one (ps_for PassesOwn.never rfl (pi_list (pv 6)) (pg_name (i := 3) sc_joined.nd rfl (by first | exact Or.inl rfl | exact Or.inr rfl)) (pss_one (ps_dput hu (pv 2) (pv 3) (pv 6) rfl))))) (pss_nil))))
    (pss_one (ps_ret (pe_callB (show CallR _ _ (rSortTS K P w) from cr_sortTS rfl) (by rfl) T.m_sorted (by decide +kernel) (pa_cons (pe_lock (pe_scG (O := fun D => TupSet P w D []) (Ad := adT K P w) (own := [("part", 6)]) (fun H h => tset_new _ H h) (fun _ _ _ _ => adT_ok hu) rfl sc_joined.nd (pi_values (pv 2)) (blkOk_by (N := ["things", "pairs", "parts", "thing", "one", "other", "part"]) (sc := defScope s_joined) (by decide +kernel)) (fun _ _ _ _ _ => pg_name (i := 6) sc_joined.nd rfl (by first | exact Or.inl rfl | exact Or.inr rfl)) (fun _ _ _ _ _ => pts_nil) (fun _ _ _ _ _ => pe_callTy (show CallR _ _ (rTupL K) from cl_tupL) (by rfl) T.m_tuple (by decide +kernel) (pa_cons (pe_callB (show CallR _ _ (rSortedS K) from cr_sortedS) (by rfl) T.m_sorted (by decide +kernel) (pa_cons (pv 6) (pa_nil))) (pa_nil))))) (pa_nil)))))), ?_⟩
    have sl : ∀ {n : Nat}, n ≤ 1000 → n < sizeLine := fun h => small1000 h
    refine ⟨.ref a, rfl, a, rfl, ⟨_, ha⟩, fun D nD => dc_it (walk_list (K := K) (a := a) (xs := ts.map V.str))
      (fun i H' => Same H H' ∧ PartsAt H' D ((ts.take i).foldl (fun P t => putP P t [t]) []) ∧ Keys ((ts.take i).foldl (fun P t => putP P t [t]) []) ts)
      ⟨same_upd nD, ⟨[], upd_same, .nil⟩, List.nodup_nil, fun k hk => nomatch hk⟩ (fun i H' _ h => h.1.seq ha) ?_ ?_⟩
    · rintro i x H0 H1 hi ⟨s1, ⟨kvs, hD, hP⟩, hk⟩ ⟨rfl, ex⟩
      obtain ⟨t, ht, rfl⟩ : ∃ t, ts[i]? = some t ∧ V.str t = x := by
        rw [List.getElem?_map] at ex
        cases e : ts[i]? with
        | none => rw [e] at ex; cases ex
        | some t => rw [e] at ex; exact ⟨t, rfl, Option.some.inj ex⟩
      have mt : t ∈ ts := List.mem_of_getElem? ht
      have step : (ts.take (i + 1)).foldl (fun P t => putP P t [t]) [] = putP ((ts.take i).foldl (fun P t => putP P t [t]) []) t [t] := by
        rw [List.take_add_one, ht, Option.toList_some, List.foldl_append]
        rfl
      refine ⟨rfl, yes_run ?_⟩
      refine ⟨_, rfl, _, rfl, by show 1 ≤ sizeLine; decide, fun l nl => ⟨kvs, Sum.inr t, rfl, (same_upd nl) _ _ hD, ?_, ?_⟩⟩
      · rw [hP.length]
        exact sl (by have := hk.length; omega)
      · rw [step]
        exact ⟨(s1.trans (same_upd nl)).fresh nD, PartsAt.put ((same_upd nl) _ _ hD) (hP.imp fun _ _ => EntAt.same (same_upd nl)) upd_same, hk.put mt⟩
    · rintro H1 ⟨s1, hP, hk⟩
      rw [List.take_of_length_le (by rw [List.length_map]; exact Nat.le_refl _)] at hP hk
      obtain ⟨ys, hy, hyE⟩ := hb
      refine ⟨.ref b, rfl, b, rfl, ⟨ys, s1.seq hy⟩, for_it (walk_list (K := K) (a := b) (xs := ys))
        (fun i σ H' => ∃ y3 y4 y5 y6, σ = [some (.ref a), some (.ref b), some (.ref D), y3, y4, y5, y6] ∧ Same H H' ∧ PartsAt H' D (joinP ts (E.take i)) ∧ Keys (joinP ts (E.take i)) ts)
        ⟨none, none, none, none, rfl, s1, hP, hk⟩ (fun i σ H' _ ⟨_, _, _, _, _, e, _⟩ => e.seq hy) ?_ ?_⟩
      · rintro i x σ H0 H2 hi ⟨y3, y4, y5, y6, rfl, s2, ⟨kvs, hD, hP⟩, hk⟩ ⟨rfl, ex⟩
        obtain ⟨e, ee, t, rfl, ht⟩ := hyE.get ex
        have G : Good (joinP ts (E.take i)) ts (E.take i) := good_join fun e he => hE e (List.mem_of_mem_take he)
        have step : joinP ts (E.take (i + 1)) = mergeP (joinP ts (E.take i)) e.1 e.2 := by
          unfold joinP
          rw [List.take_add_one, ee, Option.toList_some, List.foldl_append]
          rfl
        obtain ⟨m1, m2⟩ := hE e (List.mem_of_getElem? ee)
        obtain ⟨A, eA⟩ := Option.isSome_iff_exists.mp ((G.dom e.1).mpr m1)
        obtain ⟨B, eB⟩ := Option.isSome_iff_exists.mp ((G.dom e.2).mpr m2)
        obtain ⟨lA, vA, hA⟩ := ent_get hP eA
        obtain ⟨lB, vB, hB⟩ := ent_get hP eB
        have inT : ∀ k L, getP (joinP ts (E.take i)) k = some L → (∀ y ∈ L, y ∈ ts) ∧ L.length ≤ ts.length := fun k L h => by
          have g : ∀ y ∈ L, y ∈ ts := fun y hy => (G.dom y).mp (by rw [G.one k L y h hy]; rfl)
          exact ⟨g, (G.cls k L h).1.length_le_of_subset g⟩
        have mg : mergeP (joinP ts (E.take i)) e.1 e.2 = if e.2 ∈ A then joinP ts (E.take i) else L2.putAll (joinP ts (E.take i)) (A ++ B) (A ++ B) := by
          unfold mergeP
          rw [eA, eB]
          rfl
        refine ⟨t, _, rfl, s2.seqT ht, rfl, _, _, rfl, _, _, rfl, rfl, ?_⟩
        refine ⟨_, rfl, _, rfl, _, rfl, D, _, rfl, dget_str hD vA, lA, _, rfl, .inl (SqL.of hA), rfl, flat_strs A, _, rfl, ?_⟩
        rw [inV_strs]
        refine ite2 (fun c => ?_) (fun c => ?_)
        · have c : ¬ e.2 ∈ A := by simpa using c
          rw [if_neg c] at mg
          refine ⟨_, rfl, _, rfl, D, _, rfl, dget_str hD vA, _, rfl, _, rfl, D, _, rfl, dget_str hD vB, lA, lB, _, _, rfl, rfl, hA, hB, ?_, fun l nl => ?_⟩
          · rw [List.length_map, List.length_map]
            have h1 := (inT _ _ eA).2
            have h2 := (inT _ _ eB).2
            exact Nat.le_of_lt (sl (by omega))
          · have eAB : A.map V.str ++ B.map V.str = (A ++ B).map V.str := List.map_append.symm
            rw [eAB]
            have h5 : (upd H2 l (.lst ((A ++ B).map V.str))) D = some (.dK kvs) := (same_upd nl) _ _ hD
            refine ⟨.ref l, rfl, l, rfl, ⟨_, SqL.of upd_same⟩, for_it (walk_list (K := K) (a := l) (xs := (A ++ B).map V.str))
              (fun j σ H' => ∃ y3, σ = [some (.ref a), some (.ref b), some (.ref D), y3, some (.str e.1), some (.str e.2), some (.ref l)] ∧ Same H H' ∧ H' l = some (.lst ((A ++ B).map V.str)) ∧ PartsAt H' D (L2.putAll (joinP ts (E.take i)) ((A ++ B).take j) (A ++ B)) ∧ Keys (L2.putAll (joinP ts (E.take i)) ((A ++ B).take j) (A ++ B)) ts)
              ⟨_, rfl, s2.trans (same_upd nl), upd_same, ⟨kvs, h5, hP.imp fun _ _ => EntAt.same (same_upd nl)⟩, hk⟩ (fun j σ H' _ ⟨_, _, _, e, _⟩ => SqL.of e) ?_ ?_⟩
            · rintro j x σ H3 H4 hj ⟨z3, rfl, s4, h4, ⟨kvs4, hD4, hP4⟩, hk4⟩ ⟨rfl, ex4⟩
              obtain ⟨y, hy4, rfl⟩ : ∃ y, (A ++ B)[j]? = some y ∧ V.str y = x := by
                rw [List.getElem?_map] at ex4
                cases e : (A ++ B)[j]? with
                | none => rw [e] at ex4; cases ex4
                | some y => rw [e] at ex4; exact ⟨y, rfl, Option.some.inj ex4⟩
              have my : y ∈ ts := (List.mem_append.mp (List.mem_of_getElem? hy4)).elim ((inT _ _ eA).1 y) ((inT _ _ eB).1 y)
              have st4 : L2.putAll (joinP ts (E.take i)) ((A ++ B).take (j + 1)) (A ++ B) = putP (L2.putAll (joinP ts (E.take i)) ((A ++ B).take j) (A ++ B)) y (A ++ B) := by
                unfold L2.putAll
                rw [List.take_add_one, hy4, Option.toList_some, List.foldl_append]
                rfl
              have ne : l ≠ D := fun z => by rw [z, hD4] at h4; cases h4
              refine ⟨_, rfl, _, rfl, _, rfl, D, _, rfl, DPut.k (k := Sum.inr y) hD4 ?_, _, rfl, s4.fresh nD, ?_, ?_⟩
              · rw [hP4.length]
                exact sl (by have := hk4.length; omega)
              · rw [upd_ne ne]
                exact h4
              · rw [st4]
                exact ⟨PartsAt.put hD4 hP4 h4, hk4.put my⟩
            · rintro σ H3 ⟨z3, rfl, s4, h4, hP4, hk4⟩
              have tk : (A ++ B).take ((A ++ B).map V.str).length = A ++ B := List.take_of_length_le (by rw [List.length_map]; exact Nat.le_refl _)
              rw [tk, ← mg, ← step] at hP4 hk4
              exact ⟨_, _, _, _, rfl, s4, hP4, hk4⟩
        · have c : e.2 ∈ A := by simpa using c
          rw [if_pos c] at mg
          refine ⟨_, _, _, _, rfl, s2, ?_⟩
          rw [step, mg]
          exact ⟨⟨kvs, hD, hP⟩, hk⟩
      · rintro σ H2 ⟨y3, y4, y5, y6, rfl, s2, ⟨kvs, hD, hP⟩, hk⟩
        rw [List.take_of_length_le (by rw [hyE.length]; exact Nat.le_refl _)] at hP hk
        have G : Good (joinP ts E) ts E := good_join hE
        generalize joinP ts E = PP at hP hk G
        have inT : ∀ e ∈ PP, e.1 ∈ ts ∧ e.2.Nodup ∧ (∀ y, y ∈ e.2 ↔ Conn E e.1 y) ∧ e.2.length ≤ ts.length := fun e he => by
          have g := getP_of hk.1 he
          obtain ⟨c1, c2⟩ := G.cls _ _ g
          refine ⟨hk.2 _ (List.mem_map_of_mem he), c1, c2, c1.length_le_of_subset fun y hy => (G.dom y).mp ?_⟩
          rw [G.one _ _ y g hy]
          rfl
        have lenP : kvs.length ≤ 60 := by
          rw [hP.length]
          have := hk.length
          omega
        refine ⟨D, .dK kvs, hD, True.intro, fun od => ⟨_, rfl, D, od, kvs, rfl, upd_same, fun S nS => sc_it (O := fun D => TupSet P w D []) (Ad := adT K P w) (walk_values (d := D) (o := od) (kvs := kvs))
          (fun i H' => Same (upd H2 D (.frz od (.dK kvs))) H' ∧ ∃ M : List (Addr × List Str), H' S = some (TupSet P w S (keysOf M)) ∧ (∀ p ∈ M, H' p.1 = some (.tup (p.2.map V.str))) ∧ (M.map (·.2)).Nodup ∧ M.length ≤ i ∧
            (∀ g ∈ M.map (·.2), ∃ e ∈ PP.take i, g.Perm e.2 ∧ sortedS g = true) ∧ ∀ e ∈ PP.take i, ∃ g ∈ M.map (·.2), g.Perm e.2)
          ⟨same_upd nS, [], upd_same, (fun p hp => nomatch hp), List.nodup_nil, Nat.zero_le _, (fun g hg => nomatch hg), fun e he => nomatch he⟩ (fun i H' _ h => h.1 _ _ upd_same) ?_ ?_⟩⟩
        · rintro i x H3 H4 hi ⟨s3, M, hS, hM, ndM, lM, own, all⟩ ⟨rfl, k, ek⟩
          obtain ⟨e, ee, _, l, rfl, hl⟩ := hP.get ek
          have me : e ∈ PP := List.mem_of_getElem? ee
          have ne : l ≠ D := fun z => by rw [z, hD] at hl; cases hl
          have hl4 : H4 l = some (.lst (e.2.map V.str)) := s3 _ _ (by rw [upd_ne ne]; exact hl)
          have lt60 : i < 60 := Nat.lt_of_lt_of_le hi lenP
          refine ⟨rfl, yes_run ?_⟩
          refine ⟨_, rfl, l, e.2, rfl, SqL.of hl4, by have := (inT e me).2.2.2; omega, fun g p gp gs np => ⟨p, _, rfl, SqL.of upd_same, fun t nt => ?_⟩⟩
          have s5 : Same H4 (upd (upd H4 p (.lst (g.map V.str))) t (.tup (g.map V.str))) := (same_upd np).trans (same_upd nt)
          have tk : PP.take (i + 1) = PP.take i ++ [e] := by
            rw [List.take_add_one, ee]
            rfl
          refine ⟨t, g.map Sum.inr, keysOf M, rfl, s5 _ _ hS, by rw [key_vals]; exact SqT.of upd_same, fun q hq => ?_, ?_, fun L' h1 h2 => ?_⟩
          · obtain ⟨q0, hq0, rfl⟩ := List.mem_map.mp hq
            show SqT K _ q0.1 ((q0.2.map Sum.inr).map kV)
            rw [key_vals]
            exact SqT.of (s5 _ _ (hM q0 hq0))
          · rw [List.length_map]
            omega
          · have nS4 : upd H2 D (.frz od (.dK kvs)) S = none := nS
            have keep : ∀ q : Addr, ∀ v, (upd (upd H4 p (.lst (g.map V.str))) t (.tup (g.map V.str))) q = some (.tup v) → (upd (upd (upd H4 p (.lst (g.map V.str))) t (.tup (g.map V.str))) S (TupSet P w S L')) q = some (.tup v) := fun q v hv => by
              have qS : q ≠ S := fun z => by
                rw [z, s5 _ _ hS] at hv
                cases hv
              rw [upd_ne qS]
              exact hv
            by_cases hg : g ∈ M.map (·.2)
            · have e1 := h1 (keys_has.mpr hg)
              subst e1
              refine ⟨(s3.trans s5).fresh nS4, M, upd_same, fun q hq => keep _ _ (s5 _ _ (hM q hq)), ndM, by omega, fun g' hg' => ?_, fun e' he' => ?_⟩
              · obtain ⟨e', he', r⟩ := own g' hg'
                exact ⟨e', by rw [tk]; exact List.mem_append_left _ he', r⟩
              · rw [tk] at he'
                rcases List.mem_append.mp he' with he' | he'
                · exact all e' he'
                · cases List.mem_singleton.mp he'
                  exact ⟨g, hg, gp⟩
            · have e2 : L'.Perm (keysOf ((t, g) :: M)) := h2 fun z => hg (keys_has.mp z)
              obtain ⟨M', pM, rfl⟩ := keys_perm e2
              have pk : (M'.map (·.2)).Perm (g :: M.map (·.2)) := pM.map (·.2)
              refine ⟨(s3.trans s5).fresh nS4, M', upd_same, fun q hq => keep _ _ ?_, pk.nodup_iff.mpr (List.nodup_cons.mpr ⟨hg, ndM⟩), by rw [pM.length_eq]; show M.length + 1 ≤ _; omega, fun g' hg' => ?_, fun e' he' => ?_⟩
              · rcases List.mem_cons.mp (pM.mem_iff.mp hq) with rfl | hq
                · exact upd_same
                · exact s5 _ _ (hM q hq)
              · rcases List.mem_cons.mp (pk.mem_iff.mp hg') with rfl | hg'
                · exact ⟨e, by rw [tk]; exact List.mem_append_right _ (List.mem_singleton.mpr rfl), gp, gs⟩
                · obtain ⟨e', he', r⟩ := own g' hg'
                  exact ⟨e', by rw [tk]; exact List.mem_append_left _ he', r⟩
              · rw [tk] at he'
                rcases List.mem_append.mp he' with he' | he'
                · obtain ⟨g', hg', r⟩ := all e' he'
                  exact ⟨g', pk.mem_iff.mpr (List.mem_cons_of_mem _ hg'), r⟩
                · cases List.mem_singleton.mp he'
                  exact ⟨g, pk.mem_iff.mpr List.mem_cons_self, gp⟩
        · rintro H3 ⟨s3, M, hS, hM, ndM, lM, own, all⟩
          rw [List.take_of_length_le (by rw [hP.length]; exact Nat.le_refl _)] at own all
          have hD3 : H3 D = some (.frz od (.dK kvs)) := s3 _ _ upd_same
          have sf : Same H (upd H3 D (.dK kvs)) := fun b o e => by
            have nb : b ≠ D := ne_of_none e nD
            rw [upd_ne nb]
            exact s3 _ _ (by rw [upd_ne nb]; exact s2 _ _ e)
          have neS : S ≠ D := fun z => by rw [z, hD3] at hS; cases hS
          have hMf : ∀ p ∈ M, (upd H3 D (.dK kvs)) p.1 = some (.tup (p.2.map V.str)) := fun p hp => by
            have np : p.1 ≠ D := fun z => by
              have h := hM p hp
              rw [z, hD3] at h
              cases h
            rw [upd_ne np]
            exact hM p hp
          refine ⟨hD3, S, M, rfl, by rw [upd_ne neS]; exact hS, fun p hp => ⟨SqT.of (hMf p hp), fun z => ?_⟩, fun M' r pM srt nr => ?_⟩
          · obtain ⟨e, he, gp, _⟩ := own p.2 (List.mem_map_of_mem hp)
            rw [z] at gp
            have h := ((inT e he).2.2.1 e.1).mpr (.refl _)
            rw [gp.symm.eq_nil] at h
            cases h
          · have pk : (M'.map (·.2)).Perm (M.map (·.2)) := pM.map (·.2)
            refine q r _ (M'.map (·.2)) (sf.trans (same_upd nr)) ?_ ⟨M', upd_same, fun p hp => (same_upd nr) _ _ (hMf p (pM.mem_iff.mp hp)), rfl⟩ ⟨(List.pairwise_map (f := fun p : Addr × List Str => p.2) (R := fun x y => llt y x = false)).mpr srt, pk.nodup_iff.mpr ndM, fun g hg => ?_, fun x hx => ?_, ?_, fun g hg => ?_⟩
            · cases h : H r with
              | none => rfl
              | some o => rw [sf _ _ h] at nr; cases nr
            · obtain ⟨e, he, gp, gs⟩ := own g (pk.mem_iff.mp hg)
              obtain ⟨c1, c2, c3, _⟩ := inT e he
              exact ⟨e.1, e.2, c1, c2, c3, gp, gs⟩
            · obtain ⟨L, hL⟩ := Option.isSome_iff_exists.mp ((G.dom x).mpr hx)
              have mL := getP_mem hL
              obtain ⟨g, hg, gp⟩ := all _ mL
              exact ⟨g, pk.mem_iff.mpr hg, gp.mem_iff.mpr (((inT _ mL).2.2.1 x).mpr (.refl x))⟩
            · rw [List.length_map, pM.length_eq]
              omega
            · obtain ⟨e, he, gp, gs⟩ := own g (pk.mem_iff.mp hg)
              rw [gp.length_eq]
              have := (inT e he).2.2.2
              omega
end
end Lw
set_option Elab.async false
set_option linter.all false
set_option maxRecDepth 100000
set_option maxHeartbeats 4000000
namespace L2
open PySem PySem.Spec PyProof.Rows
def natsV (ms : List Nat) : List V := ms.map fun n : Nat => V.int (n : Int)
/-- one round: who leads to the middle leads to where the middle leads -/
def closeRound (j : Nat) (ms : List Nat) : List Nat := ms.map fun m => if m.testBit j = true then m ||| ms.getD j 0 else m
def closeN : Nat → List Nat → List Nat
  | 0, ms => ms
  | k + 1, ms => closeRound k (closeN k ms)
theorem closeN_length : ∀ (k : Nat) (ms : List Nat), (closeN k ms).length = ms.length
  | 0, _ => rfl
  | k + 1, ms => by
    show ((closeN k ms).map _).length = _
    rw [List.length_map, closeN_length k ms]
end L2
namespace Lw
open PySem PySem.Spec PyProof.Rows L2
def spClosed : Sp := fun vs H Q _ => ∃ p ms, vs = [.ref p] ∧ H p = some (.lst (natsV ms)) ∧ ms.length ≤ 1000 ∧ ∀ p' H', Same H H' → H' p' = some (.lst (natsV (closeN ms.length ms))) → Q (.ref p') H'
section
variable {P : Program} {w : World} {K : PySem.W.Frag} {mg : Str → Option Value} {base : Heap}
theorem ok_closed (T : Txt K mg) (F : Fn K mg "closed" s_closed) : Df P w K mg base "closed" 1 ["masks"] spClosed := by
  refine F.df (fun _ _ _ _ _ _ us hl => match us, hl with | [_], _ => rfl) fun f fd F => F.ok sc_closed (fun vs H Q E h => ?_) (fun cdv AA outer s H vs Q E hr h => ?_)
  · obtain ⟨p, ms, rfl, _⟩ := h
    rfl
  · obtain ⟨p, ms, rfl, hp, hl, q⟩ := h
    refine ⟨_, pss_cons (ps_for PassesOwn.never rfl (pi_range1 (by rfl) T.m_range (pa_cons (pe_callB call_len_seq (by rfl) T.m_len (by decide +kernel) (pa_cons (pv 0) (pa_nil))) (pa_nil))) (pg_name (i := 1) sc_closed.nd rfl (by first | exact Or.inl rfl | exact Or.inr rfl)) (pss_one (ps_set (i := 0) sc_closed.nd rfl (by first | exact Or.inl rfl | exact Or.inr rfl) (pe_lc (own := [("mask", 2)]) rfl sc_closed.nd (pi_list (pv 0)) (blkOk_by (N := ["masks", "middle", "mask"]) (sc := defScope s_closed) (by decide +kernel)) (fun _ _ _ _ _ => pg_name (i := 2) sc_closed.nd rfl (by first | exact Or.inl rfl | exact Or.inr rfl)) (fun _ _ _ _ _ => pts_nil) (fun _ _ _ _ _ => pe_ifExp (pt_num (pe_op op_andN (pe_op op_shrNN (pv 2) (pv 1)) (pe_int))) (pe_op op_orN (pv 2) (pe_ix (show IxR _ (rIxL K) from ix_list) (pv 0) (pv 1) (fun _ _ => rfl))) (pv 2))))))
    (pss_one (ps_ret (pv 0))), ?_⟩
    have len : ∀ i, (natsV (closeN i ms)).length = ms.length := fun i => (List.length_map ..).trans (closeN_length i ms)
    refine ⟨.ref p, rfl, p, _, rfl, .inl (SqL.of hp), (natsV ms).length, rfl, ?_, ?_, for_it (walk_range (lo := 0) (n := (natsV ms).length)) (fun i σ H' => ∃ p' y1 y2, σ = [some (.ref p'), y1, y2] ∧ Same H H' ∧ H' p' = some (.lst (natsV (closeN i ms)))) ⟨p, none, none, rfl, Same.refl H, hp⟩ (fun _ _ _ _ _ => trivial) ?_ ?_⟩
    · omega
    · have e : (natsV ms).length = ms.length := len 0
      rw [e]
      omega
    · rintro i x σ H0 H1 hi ⟨p1, y1, y2, rfl, s1, h1⟩ ⟨rfl, rfl⟩
      have hi : i < ms.length := by rw [← len 0]; exact hi
      have ez : (fun i : Nat => V.int (0 + (i : Nat))) i = V.int (i : Nat) := by
        show V.int (0 + (i : Nat)) = _
        rw [Int.zero_add]
      rw [ez]
      obtain ⟨mi, hmi⟩ : ∃ m, (closeN i ms)[i]? = some m := ⟨_, List.getElem?_eq_getElem (by rw [closeN_length]; exact hi)⟩
      have gd : (closeN i ms).getD i 0 = mi := by rw [List.getD_eq_getElem?_getD, hmi]; rfl
      refine ⟨.ref p1, rfl, p1, rfl, ⟨_, SqL.of h1⟩, fun D nD => lc_it (walk_list (K := K) (a := p1) (xs := natsV (closeN i ms))) (fun k H' => Same H1 H' ∧ H' D = some (.lst ((natsV (closeRound i (closeN i ms))).take k))) ⟨same_upd nD, upd_same⟩ (fun k H' _ e => e.1.seq (SqL.of h1)) ?_ ?_⟩
      · rintro k x H2 H3 hk ⟨s2, h2⟩ ⟨rfl, ex⟩
        obtain ⟨m, hm, rfl⟩ : ∃ m, (closeN i ms)[k]? = some m ∧ V.int (m : Nat) = x := by
          have ex : ((closeN i ms).map _)[k]? = some x := ex
          rw [List.getElem?_map] at ex
          cases e : (closeN i ms)[k]? with
          | none => rw [e] at ex; cases ex
          | some m => rw [e] at ex; exact ⟨m, rfl, Option.some.inj ex⟩
        have fin : ∀ v : Nat, v = (if m.testBit i = true then m ||| mi else m) → ∃ acc, H3 D = some (.lst acc) ∧ acc.length < sizeLine ∧ (Same H1 (upd H3 D (.lst (acc ++ [V.int (v : Nat)]))) ∧ (upd H3 D (.lst (acc ++ [V.int (v : Nat)]))) D = some (.lst ((natsV (closeRound i (closeN i ms))).take (k + 1)))) := fun v hv => by
          refine ⟨_, h2, ?_, s2.fresh nD, ?_⟩
          · have := List.length_take_le k (natsV (closeRound i (closeN i ms)))
            have hk : k < (natsV (closeN i ms)).length := hk
            rw [len] at hk
            exact small1000 (by omega)
          · have e : (natsV (closeRound i (closeN i ms)))[k]? = some (V.int (v : Nat)) := by
              show (((closeN i ms).map _).map _)[k]? = _
              rw [List.getElem?_map, List.getElem?_map, hm, hv, gd]
              rfl
            rw [upd_same, List.take_add_one, e]
            rfl
        have bit : ((((m >>> i) &&& 1 : Nat) : Int) != 0) = m.testBit i := by
          rw [bit_and]
          cases m.testBit i <;> rfl
        refine ⟨rfl, yes_run ?_⟩
        refine ⟨_, rfl, _, rfl, m, i, rfl, rfl, _, 1, rfl, rfl, _, rfl, ?_⟩
        rw [bit]
        refine ite2 (fun c => ?_) (fun c => ?_)
        · have hp1 : H3 p1 = some (.lst (natsV (closeN i ms))) := s2 _ _ h1
          refine ⟨_, rfl, _, rfl, _, rfl, p1, _, _, .int (mi : Nat), rfl, rfl, SqL.of hp1, atI_nat ?_, m, mi, rfl, rfl, fin _ (by rw [if_pos c])⟩
          show ((closeN i ms).map _)[i]? = _
          rw [List.getElem?_map, hmi]
          rfl
        · exact ⟨_, rfl, fin _ (by rw [if_neg c])⟩
      · rintro H2 ⟨s2, h2⟩
        refine ⟨D, _, _, rfl, s1.trans s2, ?_⟩
        have e : (natsV (closeRound i (closeN i ms))).take (natsV (closeN i ms)).length = natsV (closeN (i + 1) ms) := by
          rw [List.take_of_length_le]
          · rfl
          · rw [len]
            show ((List.map _ (List.map _ (closeN i ms)))).length ≤ _
            rw [List.length_map, List.length_map, closeN_length]
            exact Nat.le_refl _
        rw [← e]
        exact h2
    · rintro σ H1 ⟨p1, y1, y2, rfl, s1, h1⟩
      refine ⟨.ref p1, rfl, q p1 H1 s1 ?_⟩
      have e : (natsV ms).length = ms.length := len 0
      rw [← e]
      exact h1
end
end Lw
set_option Elab.async false
set_option linter.all false
set_option maxRecDepth 100000
set_option maxHeartbeats 4000000
/-! an instance changes, the rest stays; a dict comprehension with two clauses, walked -/
namespace L2
open PySem PySem.Spec PyProof.Rows TKS
section
variable {J J1 : It} {n n1 : Nat} {G G1 : Hp → Prop} {Y Y1 : Nat → Hp → V → Hp → Prop}
theorem dcin_it (w : Walk J1 n1 G1 Y1) {g1 : TG} {tt1 : TT} {tk tv : TE} {vs1 : List Nat} {σ2 : L2.St} {H4 : Hp} {D : Addr} {Nx : Hp → Prop} (Pv : Nat → Hp → Prop) (h0 : Pv 0 H4) (hG : ∀ i H, i ≤ n1 → Pv i H → G1 H)
    (hs : ∀ j x H H', j < n1 → Pv j H → Y1 j H x H' → g1 x (wipe σ2 vs1) H' fun σ3 H5 => wipe σ3 vs1 = wipe σ2 vs1 ∧ tt1 σ3 H5 fun b H6 =>
      if b = true then tk σ3 H6 fun y H7 => tv σ3 H7 fun z H8 => ∃ kvs k, y = kV k ∧ H8 D = some (.dK kvs) ∧ kvs.length < sizeLine ∧ Pv (j + 1) (upd H8 D (.dK (putK kvs k z))) else Pv (j + 1) H6) (hd : ∀ H, Pv n1 H → Nx H) :
    ∃ W1 : Nat → Nat → Hp → Prop, (∃ m, W1 0 m H4) ∧ ∀ j k H, W1 j k H →
      (J1.stop j H ∧ Nx H) ∨ (J1.go j H ∧ ∃ Nx1 : Hp → Prop, (∀ H', Nx1 H' → ∃ k', k' < k ∧ W1 (j + 1) k' H') ∧ ∀ x H', J1.yld j H x H' → g1 x (wipe σ2 vs1) H' fun σ3 H5 => wipe σ3 vs1 = wipe σ2 vs1 ∧ tt1 σ3 H5 fun b H6 =>
        if b = true then tk σ3 H6 fun y H7 => tv σ3 H7 fun z H8 => ∃ kvs k, y = kV k ∧ H8 D = some (.dK kvs) ∧ kvs.length < sizeLine ∧ Nx1 (upd H8 D (.dK (putK kvs k z))) else Nx1 H6) := by
  refine ⟨fun j m H => m = n1 - j ∧ j ≤ n1 ∧ Pv j H, ⟨n1, by simp, Nat.zero_le _, h0⟩, ?_⟩
  rintro j m H ⟨rfl, hj, p⟩
  have q := hG j H hj p
  rcases Nat.lt_or_eq_of_le hj with lt | rfl
  · exact .inr ⟨w.goes j H lt q, Pv (j + 1), fun H' p' => ⟨n1 - (j + 1), by omega, rfl, lt, p'⟩, fun x H' y => hs j x H H' lt p (w.yields j H x H' lt q y)⟩
  · exact .inl ⟨w.stops H q, hd H p⟩
theorem dc2_it (w : Walk J n G Y) {g g1 : TG} {tt tt1 : TT} {wi1 : TI} {tk tv : TE} {vs vs1 : List Nat} {σ : L2.St} {H1 : Hp} {D : Addr} {Qd : Hp → Prop} (Pv : Nat → Hp → Prop) (h0 : Pv 0 (upd H1 D (.dK []))) (hG : ∀ i H, i ≤ n → Pv i H → G H)
    (hs : ∀ i x H H', i < n → Pv i H → Y i H x H' → g x (wipe σ vs) H' fun σ2 H2 => wipe σ2 vs = wipe σ vs ∧ tt σ2 H2 fun b H3 =>
      if b = true then wi1 σ2 H3 fun J1 H4 => ∃ W1 : Nat → Nat → Hp → Prop, (∃ m, W1 0 m H4) ∧ ∀ j k H, W1 j k H →
        (J1.stop j H ∧ Pv (i + 1) H) ∨ (J1.go j H ∧ ∃ Nx1 : Hp → Prop, (∀ H', Nx1 H' → ∃ k', k' < k ∧ W1 (j + 1) k' H') ∧ ∀ x H', J1.yld j H x H' → g1 x (wipe σ2 vs1) H' fun σ3 H5 => wipe σ3 vs1 = wipe σ2 vs1 ∧ tt1 σ3 H5 fun b H6 =>
          if b = true then tk σ3 H6 fun y H7 => tv σ3 H7 fun z H8 => ∃ kvs k, y = kV k ∧ H8 D = some (.dK kvs) ∧ kvs.length < sizeLine ∧ Nx1 (upd H8 D (.dK (putK kvs k z))) else Nx1 H6)
      else Pv (i + 1) H3) (hd : ∀ H, Pv n H → Qd H) :
    ∃ W : Nat → Nat → Hp → Prop, (∃ m, W 0 m (upd H1 D (.dK []))) ∧ ∀ i m H, W i m H →
      (J.stop i H ∧ Qd H) ∨ (J.go i H ∧ ∃ Nx : Hp → Prop, (∀ H', Nx H' → ∃ m', m' < m ∧ W (i + 1) m' H') ∧ ∀ x H', J.yld i H x H' → g x (wipe σ vs) H' fun σ2 H2 => wipe σ2 vs = wipe σ vs ∧ tt σ2 H2 fun b H3 =>
        if b = true then wi1 σ2 H3 fun J1 H4 => ∃ W1 : Nat → Nat → Hp → Prop, (∃ m, W1 0 m H4) ∧ ∀ j k H, W1 j k H →
          (J1.stop j H ∧ Nx H) ∨ (J1.go j H ∧ ∃ Nx1 : Hp → Prop, (∀ H', Nx1 H' → ∃ k', k' < k ∧ W1 (j + 1) k' H') ∧ ∀ x H', J1.yld j H x H' → g1 x (wipe σ2 vs1) H' fun σ3 H5 => wipe σ3 vs1 = wipe σ2 vs1 ∧ tt1 σ3 H5 fun b H6 =>
            if b = true then tk σ3 H6 fun y H7 => tv σ3 H7 fun z H8 => ∃ kvs k, y = kV k ∧ H8 D = some (.dK kvs) ∧ kvs.length < sizeLine ∧ Nx1 (upd H8 D (.dK (putK kvs k z))) else Nx1 H6)
        else Nx H3) := by
  refine ⟨fun i m H => m = n - i ∧ i ≤ n ∧ Pv i H, ⟨n, by simp, Nat.zero_le _, h0⟩, ?_⟩
  rintro i m H ⟨rfl, hi, p⟩
  have q := hG i H hi p
  rcases Nat.lt_or_eq_of_le hi with lt | rfl
  · exact .inr ⟨w.goes i H lt q, Pv (i + 1), fun H' p' => ⟨n - (i + 1), by omega, rfl, lt, p'⟩, fun x H' y => hs i x H H' lt p (w.yields i H x H' lt q y)⟩
  · exact .inl ⟨w.stops H q, hd H p⟩
end
section
variable {K : PySem.W.Frag} {H : Hp} {x C dx : Addr} {fs : List (Str × V)} {o' : HO}
theorem keepX {b : Addr} {o : HO} (hx : H x = some (.ins C dx fs)) (h : H b = some o) (ho : ∀ C dx fs, o ≠ .ins C dx fs) : upd H x o' b = some o := by
  have ne : b ≠ x := fun z => by
    rw [z, hx] at h
    exact ho _ _ _ (Option.some.inj h).symm
  rw [upd_ne ne]
  exact h
theorem sqT_ins {t : Addr} {xs : List V} (hx : H x = some (.ins C dx fs)) (h : SqT K H t xs) : SqT K (upd H x o') t xs := by
  rcases h with (h | ⟨o, h⟩) | h
  · exact .inl (.inl (keepX hx h nofun))
  · exact .inl (.inr ⟨o, keepX hx h nofun⟩)
  · exact .inr h
theorem sqT_lst {D t : Addr} {xs ys : List V} (hD : H D = some (.lst ys)) (h : SqT K H t xs) : SqT K (upd H D o') t xs := by
  have ne : ∀ {o : HO}, H t = some o → (∀ ys, o ≠ .lst ys) → t ≠ D := fun h ho z => by
    rw [z, hD] at h
    exact ho _ (Option.some.inj h).symm
  rcases h with (h | ⟨o, h⟩) | h
  · exact .inl (.inl (by rw [upd_ne (ne h nofun)]; exact h))
  · exact .inl (.inr ⟨o, by rw [upd_ne (ne h nofun)]; exact h⟩)
  · exact .inr h
theorem tale_ins {a : Addr} {S : List Sen} (hx : H x = some (.ins C dx fs)) (h : TaleAt K H a S) : TaleAt K (upd H x o') a S := by
  obtain ⟨xs, q, r⟩ := h
  exact ⟨xs, sqT_ins hx q, r.imp fun _ _ ⟨t, e, ht⟩ => ⟨t, e, sqT_ins hx ht⟩⟩
theorem links_ins {p : Addr} {L : List Lnk} (hx : H x = some (.ins C dx fs)) (h : LinksAt H p L) : LinksAt (upd H x o') p L := by
  obtain ⟨xs, q, r⟩ := h
  exact ⟨xs, keepX hx q nofun, r.imp fun _ _ ⟨t, e, ht⟩ => ⟨t, e, keepX hx ht nofun⟩⟩
end
/-- the relations at the same time -/
def sameL (L : List Lnk) : List (Str × Str) := (L.filter fun l => !l.2.2).map fun l => (l.1, l.2.1)
theorem sameL_at {L : List Lnk} {i : Nat} {l : Lnk} (h : L[i]? = some l) : sameL (L.take (i + 1)) = sameL (L.take i) ++ if l.2.2 = true then [] else [(l.1, l.2.1)] := by
  unfold sameL
  rw [List.take_add_one, h, Option.toList_some, List.filter_append, List.map_append]
  congr 1
  cases hb : l.2.2 <;> simp [List.filter, hb]
theorem linksL_in : ∀ (S : List Sen) (p : Str) (l : Lnk), l ∈ linksL p S → l.1 ∈ p :: S.map (·.2) ∧ l.2.1 ∈ p :: S.map (·.2)
  | [], _, _, h => nomatch h
  | s :: r, p, l, h => by
    have one : ∀ l ∈ linkOf p s, l.1 ∈ [p, s.2] ∧ l.2.1 ∈ [p, s.2] := fun l h => by
      unfold linkOf at h
      split at h
      · cases List.mem_singleton.mp h
        exact ⟨by simp, by simp⟩
      · split at h
        · cases List.mem_singleton.mp h
          exact ⟨by simp, by simp⟩
        · split at h
          · cases List.mem_singleton.mp h
            exact ⟨by simp, by simp⟩
          · cases h
    rcases List.mem_append.mp h with h | h
    · obtain ⟨h1, h2⟩ := one l h
      have up : ∀ y, y ∈ [p, s.2] → y ∈ p :: (s :: r).map (·.2) := fun y hy => by
        rcases List.mem_cons.mp hy with rfl | hy
        · exact List.mem_cons_self
        · cases List.mem_singleton.mp hy
          exact List.mem_cons_of_mem _ List.mem_cons_self
      exact ⟨up _ h1, up _ h2⟩
    · obtain ⟨h1, h2⟩ := linksL_in r _ l h
      have up : ∀ y, y ∈ (if moving s.1 = true then s.2 else p) :: r.map (·.2) → y ∈ p :: (s :: r).map (·.2) := fun y hy => by
        rcases List.mem_cons.mp hy with e | hy
        · rw [e]
          split
          · exact List.mem_cons_of_mem _ List.mem_cons_self
          · exact List.mem_cons_self
        · exact List.mem_cons_of_mem _ (List.mem_cons_of_mem _ hy)
      exact ⟨up _ h1, up _ h2⟩
theorem links_in {S : List Sen} (h : ∀ s, S[0]? = some s → s.1 = ("at" : Str)) {l : Lnk} (hl : l ∈ linksL "" S) : l.1 ∈ S.map (·.2) ∧ l.2.1 ∈ S.map (·.2) := by
  cases S with
  | nil => cases hl
  | cons s r =>
    have e := h s rfl
    have e1 : linkOf "" s = [] := by
      unfold linkOf
      rw [e]
      rfl
    have hl : l ∈ linkOf "" s ++ linksL (if moving s.1 = true then s.2 else "") r := hl
    rw [e1, List.nil_append, e] at hl
    exact linksL_in r s.2 l hl
end L2
set_option Elab.async false
set_option linter.all false
set_option maxRecDepth 100000
set_option maxHeartbeats 4000000
namespace Lw
open PySem PySem.Spec PyProof.Rows L2 TKS

section
variable {P : Program} {w : World} {K : PySem.W.Frag} {mg : Str → Option Value} {base : Heap} {C fI : Addr} {fd : FuncData} {aM aF aB aW : Addr}
/-- the class as it stands behind the top -/
structure Kls (K : PySem.W.Frag) (mg : Str → Option Value) (C : Addr) : Prop where
  g : mg "Order" = some (.ref C)
  c : Cls K C
  n1 : NoAttr K C "groups"
  n2 : NoAttr K C "number"
  n3 : NoAttr K C "after"
/-- group k has m -/
def InG (G : List (List Str)) (k : Nat) (m : Str) : Prop := ∃ g, G[k]? = some g ∧ m ∈ g
/-- the number of each moment's group -/
structure NumOk (kvs : List (Key × V)) (G : List (List Str)) : Prop where
  all : ∀ k m, InG G k m → valV kvs (Sum.inr m) = some (.int (k : Nat))
  own : ∀ m v, valV kvs (Sum.inr m) = some v → ∃ k, InG G k m ∧ v = .int (k : Nat)
/-- the steps told by strict links -/
structure StepsOk (G : List (List Str)) (L : List Lnk) (ms : List Nat) : Prop where
  len : ms.length = G.length
  bit : ∀ i j, (ms.getD i 0).testBit j = true ↔ ∃ a b, (a, b, true) ∈ L ∧ InG G i a ∧ InG G j b
theorem inG_take {G : List (List Str)} {i k : Nat} {m : Str} : InG (G.take i) k m ↔ k < i ∧ InG G k m := by
  unfold InG
  constructor
  · rintro ⟨g, e, h⟩
    rw [List.getElem?_take] at e
    by_cases c : k < i
    · rw [if_pos c] at e
      exact ⟨c, g, e, h⟩
    · rw [if_neg c] at e
      cases e
  · rintro ⟨c, g, e, h⟩
    exact ⟨g, by rw [List.getElem?_take, if_pos c]; exact e, h⟩
/-- behind j moments of group i -/
structure NumIn (kvs : List (Key × V)) (G : List (List Str)) (i j : Nat) (g : List Str) : Prop where
  old : ∀ k m, k < i → InG G k m → valV kvs (Sum.inr m) = some (.int (k : Nat))
  cur : ∀ m, m ∈ g.take j → valV kvs (Sum.inr m) = some (.int (i : Nat))
  own : ∀ m v, valV kvs (Sum.inr m) = some v → (∃ k, k < i ∧ InG G k m ∧ v = .int (k : Nat)) ∨ (m ∈ g.take j ∧ v = .int (i : Nat))
theorem NumIn.zero {kvs : List (Key × V)} {G : List (List Str)} {i : Nat} {g : List Str} (h : NumOk kvs (G.take i)) : NumIn kvs G i 0 g :=
  ⟨fun k m hk hm => h.all k m (inG_take.mpr ⟨hk, hm⟩), fun m hm => (nomatch hm), fun m v e => by
    obtain ⟨k, hk, ev⟩ := h.own m v e
    obtain ⟨c, hm⟩ := inG_take.mp hk
    exact .inl ⟨k, c, hm, ev⟩⟩
theorem NumIn.done {kvs : List (Key × V)} {G : List (List Str)} {i : Nat} {g : List Str} (hg : G[i]? = some g) (h : NumIn kvs G i g.length g) : NumOk kvs (G.take (i + 1)) := by
  refine ⟨fun k m hk => ?_, fun m v e => ?_⟩
  · obtain ⟨c, hm⟩ := inG_take.mp hk
    by_cases z : k < i
    · exact h.old k m z hm
    · have e : k = i := by omega
      subst e
      obtain ⟨g', e1, e2⟩ := hm
      rw [hg] at e1
      cases e1
      exact h.cur m (by rw [List.take_length]; exact e2)
  · rcases h.own m v e with ⟨k, c, hm, ev⟩ | ⟨hm, ev⟩
    · exact ⟨k, inG_take.mpr ⟨by omega, hm⟩, ev⟩
    · rw [List.take_length] at hm
      exact ⟨i, inG_take.mpr ⟨by omega, g, hg, hm⟩, ev⟩
theorem NumIn.step {kvs : List (Key × V)} {G : List (List Str)} {i j : Nat} {g : List Str} {m : Str} (dis : ∀ {i j : Nat} {m : Str}, InG G i m → InG G j m → i = j) (hg : G[i]? = some g) (hm : g[j]? = some m) (h : NumIn kvs G i j g) : NumIn (putK kvs (Sum.inr m) (.int (i : Nat))) G i (j + 1) g := by
  have mi : InG G i m := ⟨g, hg, List.mem_of_getElem? hm⟩
  have tk : g.take (j + 1) = g.take j ++ [m] := by
    rw [List.take_add_one, hm]
    rfl
  refine ⟨fun k y hk hy => ?_, fun y hy => ?_, fun y v e => ?_⟩
  · rw [valV_put, if_neg fun z => by
      have z := Sum.inr.inj z
      subst z
      have := dis hy mi
      omega]
    exact h.old k y hk hy
  · rw [valV_put]
    by_cases z : (Sum.inr y : Key) = Sum.inr m
    · rw [if_pos z]
    · rw [if_neg z]
      rw [tk] at hy
      rcases List.mem_append.mp hy with hy | hy
      · exact h.cur y hy
      · exact absurd (congrArg Sum.inr (List.mem_singleton.mp hy)) z
  · rw [valV_put] at e
    by_cases z : (Sum.inr y : Key) = Sum.inr m
    · rw [if_pos z] at e
      cases e
      rw [Sum.inr.inj z]
      exact .inr ⟨by rw [tk]; exact List.mem_append_right _ (List.mem_singleton.mpr rfl), rfl⟩
    · rw [if_neg z] at e
      rcases h.own y v e with q | ⟨hy, ev⟩
      · exact .inl q
      · exact .inr ⟨by rw [tk]; exact List.mem_append_left _ hy, ev⟩
theorem flat_rep : ∀ n : Nat, (List.replicate n [V.int 0]).flatten = natsV (List.replicate n 0)
  | 0 => rfl
  | n + 1 => by
    rw [List.replicate_succ, List.replicate_succ, List.flatten_cons, flat_rep n]
    rfl
theorem ixN_nat {n i : Nat} (h : i < n) : ixN n (i : Int) = some i := by
  unfold ixN
  rw [if_pos (Int.natCast_nonneg _), if_pos (by omega), Int.toNat_natCast]
theorem dget_int {H : Hp} {d : Addr} {kvs : List (Key × V)} {k : Str} {i : Int} (hd : H d = some (.dK kvs)) (e : valV kvs (Sum.inr k) = some (.int i)) : DGet H d (.str k) (some (.int i)) := by
  rw [← e]
  exact DGet.k (k := Sum.inr k) hd
theorem StepsOk.zero (G : List (List Str)) : StepsOk G [] (List.replicate G.length 0) := by
  refine ⟨List.length_replicate, fun i j => ⟨fun h => ?_, fun ⟨a, b, h, _⟩ => nomatch h⟩⟩
  have e : (List.replicate G.length 0).getD i 0 = 0 := by
    rw [List.getD_eq_getElem?_getD, List.getElem?_replicate]
    split <;> rfl
  rw [e, Nat.zero_testBit] at h
  cases h
theorem StepsOk.skip {G : List (List Str)} {L : List Lnk} {ms : List Nat} {l : Lnk} (h : StepsOk G L ms) (hl : l.2.2 = false) : StepsOk G (L ++ [l]) ms := by
  refine ⟨h.len, fun i j => ?_⟩
  rw [h.bit]
  constructor
  · rintro ⟨a, b, q, r⟩
    exact ⟨a, b, List.mem_append_left _ q, r⟩
  · rintro ⟨a, b, q, r⟩
    rcases List.mem_append.mp q with q | q
    · exact ⟨a, b, q, r⟩
    · have e := List.mem_singleton.mp q
      rw [← e] at hl
      cases hl
theorem StepsOk.add {G : List (List Str)} {L : List Lnk} {ms : List Nat} {a b : Str} {i0 j0 m : Nat} (dis : ∀ {i j : Nat} {m : Str}, InG G i m → InG G j m → i = j) (h : StepsOk G L ms) (ha : InG G i0 a) (hb : InG G j0 b) (hm : ms[i0]? = some m) :
    StepsOk G (L ++ [(a, b, true)]) (ms.set i0 (m ||| 1 <<< j0)) := by
  have lt : i0 < ms.length := (List.getElem?_eq_some_iff.mp hm).1
  refine ⟨by rw [List.length_set]; exact h.len, fun i j => ?_⟩
  have bitOne : (1 <<< j0).testBit j = decide (j0 = j) := by
    rw [Nat.shiftLeft_eq, Nat.one_mul, Nat.testBit_two_pow]
  have md : ms.getD i0 0 = m := by rw [List.getD_eq_getElem?_getD, hm]; rfl
  by_cases e : i = i0
  · subst e
    have g : (ms.set i (m ||| 1 <<< j0)).getD i 0 = m ||| 1 <<< j0 := by
      rw [List.getD_eq_getElem?_getD, List.getElem?_set_self lt]
      rfl
    rw [g, Nat.testBit_or, Bool.or_eq_true, bitOne, decide_eq_true_eq]
    have old := h.bit i j
    rw [md] at old
    rw [old]
    constructor
    · rintro (⟨x, y, q, r⟩ | rfl)
      · exact ⟨x, y, List.mem_append_left _ q, r⟩
      · exact ⟨a, b, List.mem_append_right _ (List.mem_singleton.mpr rfl), ha, hb⟩
    · rintro ⟨x, y, q, r1, r2⟩
      rcases List.mem_append.mp q with q | q
      · exact .inl ⟨x, y, q, r1, r2⟩
      · cases List.mem_singleton.mp q
        exact .inr (dis hb r2)
  · have g : (ms.set i0 (m ||| 1 <<< j0)).getD i 0 = ms.getD i 0 := by
      rw [List.getD_eq_getElem?_getD, List.getElem?_set_ne (Ne.symm e), ← List.getD_eq_getElem?_getD]
    rw [g, h.bit]
    constructor
    · rintro ⟨x, y, q, r⟩
      exact ⟨x, y, List.mem_append_left _ q, r⟩
    · rintro ⟨x, y, q, r1, r2⟩
      rcases List.mem_append.mp q with q | q
      · exact ⟨x, y, q, r1, r2⟩
      · cases List.mem_singleton.mp q
        exact absurd (dis r1 ha) e
def OrderAt (C : Addr) (H : Hp) (x : Addr) (S : List Sen) : Prop := ∃ dx g n f G kvs ms, H x = some (.ins C dx [("groups", .ref g), ("number", .ref n), ("after", .ref f)]) ∧ GroupsAt H g G ∧ IsGroups (S.map (·.2)) (sameL (linksL "" S)) G ∧
  H n = some (.dK kvs) ∧ NumOk kvs G ∧ StepsOk G (linksL "" S) ms ∧ H f = some (.lst (natsV (closeN ms.length ms)))
/-- the list of groups is a new one -/
def NewG (C : Addr) (H0 H : Hp) (x : Addr) : Prop := ∃ dx g n f, H x = some (.ins C dx [("groups", .ref g), ("number", .ref n), ("after", .ref f)]) ∧ H0 g = none
def spInit (K : PySem.W.Frag) (C : Addr) : Sp := fun vs H Q _ => ∃ x a dx S, vs = [.ref x, .ref a] ∧ H x = some (.ins C dx []) ∧ TaleAt K H a S ∧ S.length ≤ 60 ∧ (∀ s, S[0]? = some s → s.1 = ("at" : Str)) ∧ ∀ H', SameB x H H' → OrderAt C H' x S → NewG C H H' x → Q .non H'
theorem groups_one {ts : List Str} {E : List (Str × Str)} {G : List (List Str)} (h : IsGroups ts E G) {i j : Nat} {m : Str} (h1 : InG G i m) (h2 : InG G j m) : i = j := by
  obtain ⟨g1, e1, m1⟩ := h1
  obtain ⟨g2, e2, m2⟩ := h2
  obtain ⟨x1, L1, _, n1, c1, p1, s1⟩ := h.own g1 (List.mem_of_getElem? e1)
  obtain ⟨x2, L2, _, n2, c2, p2, s2⟩ := h.own g2 (List.mem_of_getElem? e2)
  have k1 : Conn E x1 m := (c1 m).mp (p1.mem_iff.mp m1)
  have k2 : Conn E x2 m := (c2 m).mp (p2.mem_iff.mp m2)
  have p : L1.Perm L2 := (List.perm_ext_iff_of_nodup n1 n2).mpr fun y => by
    rw [c1, c2]
    exact ⟨fun c => k2.trans (k1.symm.trans c), fun c => k1.trans (k2.symm.trans c)⟩
  have e : g1 = g2 := sortedS_uniq (p1.trans (p.trans p2.symm)) s1 s2
  subst e
  exact (List.getElem?_inj (List.getElem?_eq_some_iff.mp e1).1 h.nd).mp (e1.trans e2.symm)
theorem ok_init (T : Txt K mg) (A : Wds K mg aM aF aB aW) (B : Kls K mg C) (F : Fun K "__init__" "Order.__init__" s_Order_init fI fd) (FL : Fn K mg "tale_links" s_tale_links) (FS : Fn K mg "tale_stands" s_tale_stands) (FT : Fn K mg "sentence_link" s_sentence_link) (FJ : Fn K mg "joined" s_joined) (FC : Fn K mg "closed" s_closed) :
    FnOk P w K mg base CX0 3 fI fd ["self", "tale"] (spInit K C) := by
  have G_tale_links : Df P w K mg base "tale_links" 2 ["tale"] (spLinks K) := ok_tale_links T A FL FS FT
  have G_joined : Df P w K mg base "joined" 1 ["things", "pairs"] (spJoined K) := ok_joined T FJ
  have G_closed : Df P w K mg base "closed" 1 ["masks"] spClosed := ok_closed T FC
  refine F.ok sc_Order_init (fun vs H Q E h => ?_) (fun cdv AA outer s H vs Q E hr h => ?_)
  · obtain ⟨x, a, dx, S, rfl, _⟩ := h
    rfl
  · obtain ⟨x, a, dx, S, rfl, hx, hT, hl, hat, q⟩ := h
    have hu := Nat.lt_of_le_of_lt (Nat.add_le_add_left (by decide : 1 ≤ 64) _) hr.units
    refine ⟨_, pss_cons (ps_setLc (i := 2) (own := [("link", 3)]) rfl sc_Order_init.nd rfl rfl (sw_true rfl rfl rfl (by decide +kernel)) (pi_list (pe_df G_tale_links (hr.mono (by decide)) (by rfl) (pa_cons (pv 1) (pa_nil)))) (blkOk_by (N := ["self", "tale", "links", "link", "same", "first", "second", "strict", "_", "moment", "k", "group", "steps"]) (sc := defScope s_Order_init) (by decide +kernel)) (fun _ _ _ _ _ => pg_name (i := 3) sc_Order_init.nd rfl (by first | exact Or.inl rfl | exact Or.inr rfl)) (fun _ _ _ _ _ => pts_one (pt_cmpR op_notN (pv 3) (pe_non) (nomark _))) (fun _ _ _ _ _ => pv 3))
    (pss_cons (ps_setLc (i := 4) (own := [("first", 5), ("second", 6), ("strict", 7)]) rfl sc_Order_init.nd rfl rfl (sw_true rfl rfl rfl (by decide +kernel)) (pi_list (pv 2)) (blkOk_by (N := ["self", "tale", "links", "link", "same", "first", "second", "strict", "_", "moment", "k", "group", "steps"]) (sc := defScope s_Order_init) (by decide +kernel)) (fun _ _ _ _ _ => (show PG _ _ (gTup K 3 _) from pg_tup (by rfl) (pgs_cons (pg_name (i := 5) sc_Order_init.nd rfl (by first | exact Or.inl rfl | exact Or.inr rfl)) (pgs_cons (pg_name (i := 6) sc_Order_init.nd rfl (by first | exact Or.inl rfl | exact Or.inr rfl)) (pgs_cons (pg_name (i := 7) sc_Order_init.nd rfl (by first | exact Or.inl rfl | exact Or.inr rfl)) (pgs_nil)))) (by rfl))) (fun _ _ _ _ _ => pts_one (pt_not (pt_val (pv 7)))) (fun _ _ _ _ _ => pe_tup (pa_cons (pv 5) (pa_cons (pv 6) (pa_nil)))))
    (pss_cons (ps_fld (pv 0) (pe_df G_joined (hr.mono (by decide)) (by rfl) (pa_cons (pe_lc (own := [("_", 8), ("moment", 9)]) rfl sc_Order_init.nd (pi_tup (pv 1)) (blkOk_by (N := ["self", "tale", "links", "link", "same", "first", "second", "strict", "_", "moment", "k", "group", "steps"]) (sc := defScope s_Order_init) (by decide +kernel)) (fun _ _ _ _ _ => (show PG _ _ (gTup K 2 _) from pg_tup (by rfl) (pgs_cons (pg_name (i := 8) sc_Order_init.nd rfl (by first | exact Or.inl rfl | exact Or.inr rfl)) (pgs_cons (pg_name (i := 9) sc_Order_init.nd rfl (by first | exact Or.inl rfl | exact Or.inr rfl)) (pgs_nil))) (by rfl))) (fun _ _ _ _ _ => pts_nil) (fun _ _ _ _ _ => pv 9)) (pa_cons (pv 4) (pa_nil)))) (by rfl))
    (pss_cons (ps_fld (pv 0) (pe_dc2 (own := [("k", 10), ("group", 11), ("moment", 9)]) (vs1 := [9]) rfl sc_Order_init.nd (pi_enum (by rfl) T.m_enumerate (pa_cons (pe_fld (pv 0) rfl) (pa_nil))) (blkOk_by (N := ["self", "tale", "links", "link", "same", "first", "second", "strict", "_", "moment", "k", "group", "steps"]) (sc := defScope s_Order_init) (by decide +kernel)) (by decide) (fun _ _ _ _ _ => (show PG _ _ (gTup K 2 _) from pg_tup (by rfl) (pgs_cons (pg_name (i := 10) sc_Order_init.nd rfl (by first | exact Or.inl rfl | exact Or.inr rfl)) (pgs_cons (pg_name (i := 11) sc_Order_init.nd rfl (by first | exact Or.inl rfl | exact Or.inr rfl)) (pgs_nil))) (by rfl))) (fun _ _ _ _ _ => pts_nil) (fun _ _ _ _ _ => (show PI _ _ _ (iTup K _) from pi_tup (pv 11))) (fun _ _ _ _ _ => pg_name (i := 9) sc_Order_init.nd rfl (by first | exact Or.inl rfl | exact Or.inr rfl)) (fun _ _ _ _ _ => pts_nil) (fun _ _ _ _ _ => pv 9) (fun _ _ _ _ _ => pv 10)) (by rfl))
    (pss_cons (ps_set (i := 12) sc_Order_init.nd rfl (by first | exact Or.inl rfl | exact Or.inr rfl) (pe_op op_rep (pe_lst (pa_cons (pe_int) (pa_nil))) (pe_callB call_len_seq (by rfl) T.m_len (by decide +kernel) (pa_cons (pe_fld (pv 0) rfl) (pa_nil)))))
    (pss_cons (ps_for PassesOwn.never rfl (pi_list (pv 2)) (pg_tup (by rfl) (pgs_cons (pg_name (i := 5) sc_Order_init.nd rfl (by first | exact Or.inl rfl | exact Or.inr rfl)) (pgs_cons (pg_name (i := 6) sc_Order_init.nd rfl (by first | exact Or.inl rfl | exact Or.inr rfl)) (pgs_cons (pg_name (i := 7) sc_Order_init.nd rfl (by first | exact Or.inl rfl | exact Or.inr rfl)) (pgs_nil))))) (pss_one (ps_if (pt_val (pv 7)) (pss_one (ps_augS (pv 12) (pe_dget hu (pe_fld (pv 0) rfl) (pv 5) (fun _ _ => rfl)) get_lstN (pe_op op_bitN (pe_int) (pe_dget hu (pe_fld (pv 0) rfl) (pv 6) (fun _ _ => rfl))) ip_orN set_list)) (pss_nil))))
    (pss_one (ps_fld (pv 0) (pe_df G_closed (hr.mono (by decide)) (by rfl) (pa_cons (pv 12) (pa_nil))) (by rfl)))))))), ?_⟩
    have hl1000 : S.length ≤ 1000 := by omega
    refine ⟨_, rfl, a, S, rfl, hT, hl1000, hat, fun pO H0 s0 nO ⟨os, hos, hO⟩ => ⟨pO, rfl, ⟨_, SqL.of hos⟩, fun pL nL0 => lc_it (walk_list (K := K) (a := pO) (xs := os)) (fun k H' => Same H0 H' ∧ ∃ zs, H' pL = some (.lst zs) ∧ All2 (LnkAt H') zs (((lawLinks "" S).take k).filterMap id) ∧ zs.length ≤ k) ⟨same_upd nL0, [], upd_same, .nil, Nat.zero_le _⟩ (fun k H' _ h => SqL.of (h.1 _ _ hos)) ?_ ?_⟩⟩
    · rintro k z H4 H5 hk ⟨s4, zs, hzs, hZ, lz⟩ ⟨rfl, ez⟩
      obtain ⟨o, eo, ho⟩ := hO.get ez
      have st : ((lawLinks "" S).take (k + 1)).filterMap id = ((lawLinks "" S).take k).filterMap id ++ o.toList := by
        rw [List.take_add_one, eo, Option.toList_some, List.filterMap_append]
        cases o <;> rfl
      have kl : k < S.length := by
        have h := (List.getElem?_eq_some_iff.mp eo).1
        rw [lawLinks_length] at h
        exact h
      refine ⟨rfl, ?_⟩
      cases o with
      | none =>
        cases (show z = .non from ho)
        refine ⟨_, rfl, rfl, false, by rw [decide_eq_true rfl]; rfl, iteF ⟨s4, zs, hzs, ?_, by omega⟩⟩
        rw [st]
        show All2 _ zs (_ ++ [])
        rw [List.append_nil]
        exact hZ
      | some l =>
        obtain ⟨t, rfl, ht⟩ := ho
        have ht5 := s4 _ _ ht
        refine ⟨_, rfl, rfl, true, by rw [decide_eq_false nofun]; rfl, iteT ?_⟩
        refine ⟨_, rfl, zs, hzs, small1000 (by omega), s4.fresh nL0, _, upd_same, ?_, by rw [List.length_append]; show zs.length + 1 ≤ _; omega⟩
        have up : ∀ y e, LnkAt H5 y e → LnkAt (upd H5 pL (.lst (zs ++ [.ref t]))) y e := by
          rintro y e ⟨v, rfl, hv⟩
          exact ⟨v, rfl, by rw [upd_ne fun q => by rw [q, hzs] at hv; cases hv]; exact hv⟩
        rw [st]
        exact (hZ.imp up).append (.cons (up _ _ ⟨t, rfl, ht5⟩) .nil)
    rintro H1 ⟨s01, ls, hls, hL, _⟩
    rw [List.take_of_length_le (by rw [hO.length]; exact Nat.le_refl _), lawLinks_some] at hL
    have s1 : Same H H1 := s0.trans s01
    have nL : H pL = none := by
      cases h : H pL with
      | none => rfl
      | some o => rw [s0 _ _ h] at nL0; cases nL0
    have lenL : (linksL "" S).length ≤ 60 := Nat.le_trans (linksL_le S "") hl
    -- same
    refine ⟨_, rfl, pL, rfl, ⟨_, SqL.of hls⟩, fun D nD => lc_it (walk_list (K := K) (a := pL) (xs := ls)) (fun i H' => Same H1 H' ∧ ∃ ys, H' D = some (.lst ys) ∧ All2 (SenAt K H') ys (sameL ((linksL "" S).take i)) ∧ ys.length ≤ i) ⟨same_upd nD, [], upd_same, .nil, Nat.zero_le _⟩ (fun i H' _ h => SqL.of (h.1 _ _ hls)) ?_ ?_⟩
    · rintro i x0 H2 H3 hi ⟨s2, ys, hys, hyS, lys⟩ ⟨rfl, ex⟩
      obtain ⟨l, el, t, rfl, ht⟩ := hL.get ex
      have st := sameL_at el
      have i60 : i ≤ 60 := by
        have hi : i < ls.length := hi
        rw [hL.length] at hi
        omega
      refine ⟨t, _, rfl, SqT.of (s2 _ _ ht), rfl, _, _, rfl, _, _, rfl, _, _, rfl, rfl, rfl, ?_⟩
      refine ⟨_, rfl, l.2.2, rfl, ?_⟩
      refine ite2 (fun c => ?_) (fun c => ?_)
      · have c : l.2.2 = false := by
          cases h : l.2.2 with
          | false => rfl
          | true => rw [h] at c; exact absurd c (by decide)
        rw [c] at st
        refine ⟨_, rfl, _, rfl, by show 2 ≤ sizeLine; decide, fun u nu => ⟨ys, (same_upd nu) _ _ hys, small1000 (by omega), (s2.trans (same_upd nu)).fresh nD, _, upd_same, ?_, ?_⟩⟩
        · rw [st]
          have up : ∀ y e, SenAt K H3 y e → SenAt K (upd (upd H3 u (.tup [.str l.1, .str l.2.1])) D (.lst (ys ++ [.ref u]))) y e := by
            rintro y e ⟨v, rfl, hv⟩
            exact ⟨v, rfl, sqT_lst ((same_upd nu) _ _ hys) ((same_upd nu).seqT hv)⟩
          refine (hyS.imp up).append (.cons ⟨u, rfl, sqT_lst ((same_upd nu) _ _ hys) (SqT.of upd_same)⟩ .nil)
        · rw [List.length_append]
          show ys.length + 1 ≤ _
          omega
      · have c : l.2.2 = true := by
          cases h : l.2.2 with
          | true => rfl
          | false => rw [h] at c; exact absurd rfl c
        rw [c] at st
        refine ⟨s2, ys, hys, ?_, by omega⟩
        rw [st]
        show All2 _ ys (_ ++ [])
        rw [List.append_nil]
        exact hyS
    · rintro H2 ⟨s2, ys, hys, hyS, lys⟩
      rw [List.take_of_length_le (by rw [hL.length]; exact Nat.le_refl _)] at hyS
      have s12 := s1.trans s2
      have hT2 := hT.same s12
      obtain ⟨xs, hxs, hxS⟩ := hT2
      -- moments
      refine ⟨_, rfl, a, rfl, ⟨_, hxs⟩, fun D2 nD2 => lc_it (walk_tup (K := K) (a := a) (xs := xs)) (fun i H' => Same H2 H' ∧ H' D2 = some (.lst (((S.take i).map (·.2)).map V.str))) ⟨same_upd nD2, upd_same⟩ (fun i H' _ h => h.1.seqT hxs) ?_ ?_⟩
      · rintro i x0 H3 H4 hi ⟨s3, hD2⟩ ⟨rfl, ex⟩
        obtain ⟨e, ee, t, rfl, ht⟩ := hxS.get ex
        have hi : i < S.length := (List.getElem?_eq_some_iff.mp ee).1
        refine ⟨t, _, rfl, s3.seqT ht, rfl, _, _, rfl, _, _, rfl, rfl, rfl, yes_run ?_⟩
        refine ⟨_, rfl, _, hD2, ?_, s3.fresh nD2, ?_⟩
        · rw [List.length_map, List.length_map, List.length_take]
          exact small1000 (by omega)
        · rw [upd_same, take_next ee, List.map_append, List.map_append]
          rfl
      · rintro H3 ⟨s3, hD2⟩
        rw [List.take_of_length_le (by rw [hxS.length]; exact Nat.le_refl _)] at hD2
        refine ⟨_, rfl, D2, D, S.map (·.2), sameL (linksL "" S), rfl, SqL.of hD2, ⟨ys, SqL.of (s3 _ _ hys), hyS.imp fun _ _ => SenAt.same s3⟩, by rw [List.length_map]; exact hl, ?_, fun r H4 G s4 nr hG iG => ?_⟩
        · intro e he
          obtain ⟨l, hl1, rfl⟩ := List.mem_map.mp he
          exact links_in hat (List.mem_filter.mp hl1).1
        · have s14 := (s12.trans s3).trans s4
          have nrH : H r = none := by
            cases e : H r with
            | none => rfl
            | some o => rw [(s12.trans s3) _ _ e] at nr; cases nr
          have hx4 : H4 x = some (.ins C dx []) := s14 _ _ hx
          refine ⟨_, rfl, x, C, dx, [], rfl, hx4, B.c, B.n1, by decide, ?_⟩
          obtain ⟨M, hM, hMt, rfl⟩ := hG
          have hx5 : (upd H4 x (.ins C dx (putF "groups" (.ref r) []))) x = some (.ins C dx [("groups", .ref r)]) := upd_same
          have hM5 : (upd H4 x (.ins C dx (putF "groups" (.ref r) []))) r = some (.lst (refsOf M)) := keepX hx4 hM nofun
          have hMt5 : ∀ p ∈ M, (upd H4 x (.ins C dx (putF "groups" (.ref r) []))) p.1 = some (.tup (p.2.map V.str)) := fun p hp => keepX hx4 (hMt p hp) nofun
          have sb5 : SameB x H (upd H4 x (.ins C dx (putF "groups" (.ref r) []))) := s14.but.trans SameB.upd
          have hL5 : LinksAt (upd H4 x (.ins C dx (putF "groups" (.ref r) []))) pL (linksL "" S) := links_ins hx4 (LinksAt.same ((s2.trans s3).trans s4) ⟨ls, hls, hL⟩)
          have hys5 : True := trivial
          generalize upd H4 x (.ins C dx (putF "groups" (.ref r) [])) = H5 at hx5 hM5 hMt5 sb5 hL5 ⊢
          have dis : ∀ {i j : Nat} {m : Str}, InG (M.map (·.2)) i m → InG (M.map (·.2)) j m → i = j := fun h1 h2 => groups_one iG h1 h2
          have few := iG.few
          rw [List.length_map] at few
          refine ⟨_, rfl, x, C, dx, _, .ref r, rfl, hx5, B.c, B.n1, rfl, r, _, rfl, SqL.of hM5, fun D3 nD3 => dc2_it (walk_enum (K := K) (a := r) (xs := refsOf M))
            (fun i H' => Same H5 H' ∧ ∃ kvs, H' D3 = some (.dK kvs) ∧ NumOk kvs ((M.map (·.2)).take i) ∧ kvs.length ≤ 60 * i) ⟨same_upd nD3, [], upd_same, ⟨fun k m h => (by obtain ⟨_, e, _⟩ := h; cases e), fun m v e => nomatch e⟩, Nat.zero_le _⟩ (fun i H' _ h => SqL.of (h.1 _ _ hM5)) ?_ ?_⟩
          · rintro i x0 H6 H7 hi ⟨s6, kvs, hD6, N, lenK⟩ ⟨T1, x1, x2, rfl, nT, rfl, e1, e2⟩
            cases e1
            obtain ⟨p, ep, rfl⟩ : ∃ p, M[i]? = some p ∧ V.ref p.1 = x2 := by
              have e2 : (M.map fun p => V.ref p.1)[i]? = some x2 := e2
              rw [List.getElem?_map] at e2
              cases e : M[i]? with
              | none => rw [e] at e2; cases e2
              | some p => rw [e] at e2; exact ⟨p, rfl, Option.some.inj e2⟩
            have mp : p ∈ M := List.mem_of_getElem? ep
            have hg : (M.map (·.2))[i]? = some p.2 := by
              rw [List.getElem?_map, ep]
              rfl
            have gl : p.2.length ≤ 60 := iG.small _ (List.mem_map_of_mem mp)
            have iM : i < M.length := (List.getElem?_eq_some_iff.mp ep).1
            have s7 := s6.trans (same_upd nT (o := .tup [.int (i : Nat), .ref p.1]))
            have hD7 : (upd H6 T1 (.tup [.int (i : Nat), .ref p.1])) D3 = some (.dK kvs) := (same_upd nT) _ _ hD6
            refine ⟨T1, _, rfl, .inl (.inl upd_same), rfl, _, _, rfl, _, _, rfl, rfl, rfl, yes_run ?_⟩
            refine ⟨_, rfl, p.1, rfl, ⟨_, SqT.of (s7 _ _ (hMt5 p mp))⟩, dcin_it (walk_tup (K := K) (a := p.1) (xs := p.2.map V.str))
              (fun j H' => Same H5 H' ∧ ∃ kvs, H' D3 = some (.dK kvs) ∧ NumIn kvs (M.map (·.2)) i j p.2 ∧ kvs.length ≤ 60 * i + j) ⟨s7, kvs, hD7, .zero N, lenK⟩ (fun j H' _ h => SqT.of (h.1 _ _ (hMt5 p mp))) ?_ ?_⟩
            · rintro j y H8 H9 hj ⟨s8, kvs8, hD8, N8, len8⟩ ⟨rfl, ey⟩
              obtain ⟨m, em, rfl⟩ : ∃ m, p.2[j]? = some m ∧ V.str m = y := by
                rw [List.getElem?_map] at ey
                cases e : p.2[j]? with
                | none => rw [e] at ey; cases ey
                | some m => rw [e] at ey; exact ⟨m, rfl, Option.some.inj ey⟩
              have jl : j < p.2.length := (List.getElem?_eq_some_iff.mp em).1
              have grow := length_putK kvs8 (Sum.inr m) (.int (i : Nat))
              refine ⟨rfl, yes_run ?_⟩
              refine ⟨_, rfl, _, rfl, kvs8, Sum.inr m, rfl, hD8, ?_, s8.fresh nD3, _, upd_same, N8.step dis hg em, by omega⟩
              have h4000 : (4000 : Nat) < sizeLine := by decide
              omega
            · rintro H8 ⟨s8, kvs8, hD8, N8, len8⟩
              rw [List.length_map] at N8 len8
              exact ⟨s8, kvs8, hD8, N8.done hg, by omega⟩
          · rintro H6 ⟨s6, kvs, hD6, N, _⟩
            rw [List.take_of_length_le (by rw [List.length_map, List.length_map]; exact Nat.le_refl _)] at N
            have hx6 : H6 x = some (.ins C dx [("groups", .ref r)]) := s6 _ _ hx5
            refine ⟨_, rfl, x, C, dx, _, rfl, hx6, B.c, B.n2, by show 1 < 1000; decide, ?_⟩
            have hx7 : (upd H6 x (.ins C dx (putF "number" (.ref D3) [("groups", .ref r)]))) x = some (.ins C dx [("groups", .ref r), ("number", .ref D3)]) := upd_same
            have hM7 : (upd H6 x (.ins C dx (putF "number" (.ref D3) [("groups", .ref r)]))) r = some (.lst (refsOf M)) := keepX hx6 (s6 _ _ hM5) nofun
            have hMt7 : ∀ p ∈ M, (upd H6 x (.ins C dx (putF "number" (.ref D3) [("groups", .ref r)]))) p.1 = some (.tup (p.2.map V.str)) := fun p hp => keepX hx6 (s6 _ _ (hMt5 p hp)) nofun
            have hD7 : (upd H6 x (.ins C dx (putF "number" (.ref D3) [("groups", .ref r)]))) D3 = some (.dK kvs) := keepX hx6 hD6 nofun
            have hL7 : LinksAt (upd H6 x (.ins C dx (putF "number" (.ref D3) [("groups", .ref r)]))) pL (linksL "" S) := links_ins hx6 (hL5.same s6)
            have sb7 : SameB x H (upd H6 x (.ins C dx (putF "number" (.ref D3) [("groups", .ref r)]))) := (sb5.trans s6.but).trans SameB.upd
            generalize upd H6 x (.ins C dx (putF "number" (.ref D3) [("groups", .ref r)])) = H7 at hx7 hM7 hMt7 hD7 hL7 sb7 ⊢
            refine ⟨by show 1 ≤ sizeLine; decide, fun p0 n0 => ?_⟩
            have s8 := same_upd n0 (o := .lst [.int 0])
            refine ⟨_, rfl, x, C, dx, _, .ref r, rfl, s8 _ _ hx7, B.c, B.n1, rfl, r, _, rfl, .inl (SqL.of (s8 _ _ hM7)), p0, ((refsOf M).length : Nat), [.int 0], rfl, rfl, upd_same, ?_, ?_, ?_, fun p1 n1 => ?_⟩
            · omega
            · have e : (refsOf M).length = M.length := List.length_map ..
              rw [e]
              omega
            · have e : (refsOf M).length = M.length := List.length_map ..
              rw [e]
              have h4000 : (4000 : Nat) < sizeLine := by decide
              show 1 * (M.length : Int).toNat ≤ sizeLine
              omega
            have hz : (List.replicate (((refsOf M).length : Nat) : Int).toNat [V.int 0]).flatten = natsV (List.replicate M.length 0) := by
              rw [Int.toNat_natCast, List.length_map]
              exact flat_rep _
            rw [hz]
            have s9 := s8.trans (same_upd n1 (o := .lst (natsV (List.replicate M.length 0))))
            obtain ⟨ls7, hls7, hLa7⟩ := hL7
            have np : ∀ {b : Addr} {o : HO}, H7 b = some o → b ≠ p1 := fun e => ne_of_none (s8 _ _ e) n1
            have hp9 : (upd (upd H7 p0 (.lst [.int 0])) p1 (.lst (natsV (List.replicate M.length 0)))) p1 = some (.lst (natsV (List.replicate M.length 0))) := upd_same
            generalize upd (upd H7 p0 (.lst [.int 0])) p1 (.lst (natsV (List.replicate M.length 0))) = H9 at s9 hp9 ⊢
            have Gl : (M.map (·.2)).length = M.length := List.length_map ..
            have z0 : StepsOk (M.map (·.2)) ((linksL "" S).take 0) (List.replicate M.length 0) := by
              have z := StepsOk.zero (M.map (·.2))
              rw [Gl] at z
              exact z
            refine ⟨.ref pL, rfl, pL, rfl, ⟨_, SqL.of (s9 _ _ hls7)⟩, for_it (walk_list (K := K) (a := pL) (xs := ls7))
              (fun i σ H' => ∃ y4 y5 y6, σ = [some (.ref x), some (.ref a), some (.ref pL), none, some (.ref D), y4, y5, y6, none, none, none, none, some (.ref p1)] ∧ SameB p1 H9 H' ∧ ∃ ms, H' p1 = some (.lst (natsV ms)) ∧ StepsOk (M.map (·.2)) ((linksL "" S).take i) ms)
              ⟨none, none, none, rfl, SameB.refl, _, hp9, z0⟩ (fun i σ H' _ ⟨_, _, _, _, e, _⟩ => SqL.of (e _ _ (np hls7) (s9 _ _ hls7))) ?_ ?_⟩
            · rintro i x0 σ H10 H11 hi ⟨y4, y5, y6, rfl, sb, ms, hms, St⟩ ⟨rfl, ex⟩
              obtain ⟨l, el, t, rfl, ht⟩ := hLa7.get ex
              have tk : (linksL "" S).take (i + 1) = (linksL "" S).take i ++ [l] := take_next el
              have ht11 : H11 t = some (.tup [.str l.1, .str l.2.1, .bl l.2.2]) := sb _ _ (np ht) (s9 _ _ ht)
              have hx11 := sb _ _ (np hx7) (s9 _ _ hx7)
              have hD11 := sb _ _ (np hD7) (s9 _ _ hD7)
              refine ⟨t, _, rfl, SqT.of ht11, rfl, _, _, rfl, _, _, rfl, _, _, rfl, rfl, ?_⟩
              refine ⟨_, rfl, l.2.2, rfl, ite2 (fun c => ?_) (fun c => ?_)⟩
              · obtain ⟨m1, m2⟩ := links_in hat (List.mem_of_getElem? el)
                obtain ⟨g1, hg1, hm1⟩ := iG.all _ m1
                obtain ⟨g2, hg2, hm2⟩ := iG.all _ m2
                obtain ⟨i1, e1⟩ := List.getElem?_of_mem hg1
                obtain ⟨i2, e2⟩ := List.getElem?_of_mem hg2
                have I1 : InG (M.map (·.2)) i1 l.1 := ⟨g1, e1, hm1⟩
                have I2 : InG (M.map (·.2)) i2 l.2.1 := ⟨g2, e2, hm2⟩
                have lt1 : i1 < ms.length := by rw [St.len]; exact (List.getElem?_eq_some_iff.mp e1).1
                have lt2 : i2 < M.length := by rw [← Gl]; exact (List.getElem?_eq_some_iff.mp e2).1
                have em : ms[i1]? = some ms[i1] := List.getElem?_eq_getElem lt1
                have ev : (natsV ms)[i1]? = some (.int (ms[i1] : Nat)) := by
                  show (ms.map _)[i1]? = _
                  rw [List.getElem?_map, em]
                  rfl
                have c3 : l = (l.1, l.2.1, true) := by
                  have c : l.2.2 = true := c
                  rw [← c]
                refine ⟨_, rfl, _, rfl, x, C, dx, _, .ref D3, rfl, hx11, B.c, B.n2, rfl, _, rfl, D3, _, rfl, dget_int hD11 (N.all _ _ I1), p1, natsV ms, _, i1, rfl, rfl, hms, ev, ?_⟩
                refine ⟨_, rfl, x, C, dx, _, .ref D3, rfl, hx11, B.c, B.n2, rfl, _, rfl, D3, _, rfl, dget_int hD11 (N.all _ _ I2), i2, rfl, rfl, by omega, ?_⟩
                refine ⟨ms[i1], 1 <<< i2, rfl, rfl, p1, natsV ms, _, i1, rfl, rfl, hms, ixN_nat (by show i1 < (ms.map _).length; rw [List.length_map]; exact lt1), ?_⟩
                refine ⟨_, _, _, rfl, sb.trans SameB.upd, ms.set i1 (ms[i1] ||| 1 <<< i2), ?_, ?_⟩
                · rw [upd_same]
                  show some (HO.lst ((ms.map _).set i1 _)) = some (HO.lst ((ms.set i1 _).map _))
                  rw [List.map_set]
                · rw [tk, c3]
                  exact St.add dis I1 I2 em
              · have c : l.2.2 = false := by
                  cases h : l.2.2 with
                  | false => rfl
                  | true => rw [h] at c; exact absurd rfl c
                refine ⟨_, _, _, rfl, sb, ms, hms, ?_⟩
                rw [tk]
                exact St.skip c
            · rintro σ H10 ⟨y4, y5, y6, rfl, sb, ms, hms, St⟩
              rw [List.take_of_length_le (by rw [hLa7.length]; exact Nat.le_refl _)] at St
              have mlen : ms.length ≤ 60 := by
                rw [St.len, Gl]
                exact few
              refine ⟨_, rfl, p1, ms, rfl, hms, by omega, fun f H12 s12 hf => ?_⟩
              have keep : ∀ {b : Addr} {o : HO}, H7 b = some o → H12 b = some o := fun e => s12 _ _ (sb _ _ (np e) (s9 _ _ e))
              refine ⟨_, rfl, x, C, dx, _, rfl, keep hx7, B.c, B.n3, by show 2 < 1000; decide, ?_⟩
              refine q _ (fun b o nb e => ?_) ⟨dx, r, D3, f, _, kvs, ms, upd_same, ⟨M, keepX (keep hx7) (keep hM7) nofun, fun p hp => keepX (keep hx7) (keep (hMt7 p hp)) nofun, rfl⟩, iG, keepX (keep hx7) (keep hD7) nofun, N, St, keepX (keep hx7) hf nofun⟩ ⟨dx, r, D3, f, upd_same, ?_⟩
              · rw [upd_ne nb]
                exact keep (sb7 _ _ nb e)
              · exact nrH
end
end Lw
set_option Elab.async false
set_option linter.all false
set_option maxRecDepth 100000
set_option maxHeartbeats 4000000
namespace Lw
open PySem PySem.Spec PyProof.Rows L2 TKS
/-- an order as it stands: groups, numbers, and who is after whom -/
def Ord (C : Addr) (H : Hp) (x : Addr) (G : List (List Str)) (kvs : List (Key × V)) (A : List Nat) : Prop := ∃ dx g n f, H x = some (.ins C dx [("groups", .ref g), ("number", .ref n), ("after", .ref f)]) ∧ GroupsAt H g G ∧ H n = some (.dK kvs) ∧ H f = some (.lst (natsV A))
theorem OrderAt.ord {C : Addr} {H : Hp} {x : Addr} {S : List Sen} (h : OrderAt C H x S) : ∃ G kvs ms, Ord C H x G kvs (closeN ms.length ms) ∧ IsGroups (S.map (·.2)) (sameL (linksL "" S)) G ∧ NumOk kvs G ∧ StepsOk G (linksL "" S) ms := by
  obtain ⟨dx, g, n, f, G, kvs, ms, h1, h2, h3, h4, h5, h6, h7⟩ := h
  exact ⟨G, kvs, ms, ⟨dx, g, n, f, h1, h2, h4, h7⟩, h3, h5, h6⟩
theorem Ord.same {C : Addr} {H H' : Hp} {x : Addr} {G : List (List Str)} {kvs : List (Key × V)} {A : List Nat} (s : Same H H') (h : Ord C H x G kvs A) : Ord C H' x G kvs A := by
  obtain ⟨dx, g, n, f, h1, ⟨M, h2, h3, h4⟩, h5, h6⟩ := h
  exact ⟨dx, g, n, f, s _ _ h1, ⟨M, s _ _ h2, fun p hp => s _ _ (h3 p hp), h4⟩, s _ _ h5, s _ _ h6⟩
def spPrec (C : Addr) : Sp := fun vs H Q _ => ∃ x i j G kvs A, vs = [.ref x, .int (i : Nat), .int (j : Nat)] ∧ Ord C H x G kvs A ∧ i < A.length ∧ Q (.bl ((A.getD i 0).testBit j)) H
section
variable {P : Program} {w : World} {K : PySem.W.Frag} {mg : Str → Option Value} {base : Heap} {C fP : Addr} {fd : FuncData}
theorem ok_precedes (T : Txt K mg) (B : Kls K mg C) (F : Fun K "precedes" "Order.precedes" s_Order_precedes fP fd) : FnOk P w K mg base CX0 1 fP fd ["self", "one", "other"] (spPrec C) := by
  refine F.ok sc_Order_precedes (fun vs H Q E h => ?_) (fun cdv AA outer s H vs Q E hr h => ?_)
  · obtain ⟨x, i, j, G, kvs, A, rfl, _⟩ := h
    rfl
  · obtain ⟨x, i, j, G, kvs, A, rfl, ⟨dx, g, n, f, h1, h2, h3, h4⟩, hi, q⟩ := h
    refine ⟨_, pss_one (ps_ret (pe_cmpR op_eq (pe_op op_andN (pe_op op_shrNN (pe_ix ix_list (pe_fld (pv 0) rfl) (pv 1) (fun _ _ => rfl)) (pv 2)) (pe_int)) (pe_int) (nomark _))), ?_⟩
    have em : A[i]? = some A[i] := List.getElem?_eq_getElem hi
    have ev : (natsV A)[i]? = some (.int (A[i] : Nat)) := by
      show (A.map _)[i]? = _
      rw [List.getElem?_map, em]
      rfl
    have gd : A.getD i 0 = A[i] := by rw [List.getD_eq_getElem?_getD, em]; rfl
    rw [gd] at q
    refine ⟨_, rfl, x, C, dx, _, .ref f, rfl, h1, B.c, B.n3, rfl, _, rfl, f, _, _, _, rfl, rfl, SqL.of h4, atI_nat ev, _, rfl, A[i], j, rfl, rfl, _, 1, rfl, rfl, rfl, ?_⟩
    have e : decide (V.int (((A[i] >>> j) &&& 1 : Nat) : Int) = V.int 1) = A[i].testBit j := by
      rw [bit_and]
      cases A[i].testBit j <;> rfl
    rw [e]
    exact q
/-- some group is after itself -/
def looped (A : List Nat) : Bool := (List.range A.length).any fun k => (A.getD k 0).testBit k
def spCons (C : Addr) : Sp := fun vs H Q _ => ∃ x G kvs A, vs = [.ref x] ∧ Ord C H x G kvs A ∧ A.length = G.length ∧ G.length ≤ 60 ∧ ∀ H', Same H H' → Q (.bl (!looped A)) H'
theorem ok_is_consistent (T : Txt K mg) (B : Kls K mg C) (F : Fun K "is_consistent" "Order.is_consistent" s_Order_is_consistent fP fd) (M_precedes : Mt P w K mg base C "precedes" 1 ["self", "one", "other"] (spPrec C)) : FnOk P w K mg base CX0 2 fP fd ["self"] (spCons C) := by
  refine F.ok sc_Order_is_consistent (fun vs H Q E h => ?_) (fun cdv AA outer s H vs Q E hr h => ?_)
  · obtain ⟨x, G, kvs, A, rfl, _⟩ := h
    rfl
  · obtain ⟨x, G, kvs, A, rfl, hO, hlen, few, q⟩ := h
    refine ⟨_, pss_one (ps_ret (pe_not (pe_callB (show CallR _ _ (rAny K) from cr_any rfl) (by rfl) T.m_any (by decide +kernel) (pa_cons (pe_lc (own := [("k", 1)]) rfl sc_Order_is_consistent.nd (pi_range1 (by rfl) T.m_range (pa_cons (pe_callB call_len_seq (by rfl) T.m_len (by decide +kernel) (pa_cons (pe_fld (pv 0) rfl) (pa_nil))) (pa_nil))) (blkOk_by (N := ["self", "k"]) (sc := defScope s_Order_is_consistent) (by decide +kernel)) (fun _ _ _ _ _ => pg_name (i := 1) sc_Order_is_consistent.nd rfl (by first | exact Or.inl rfl | exact Or.inr rfl)) (fun _ _ _ _ _ => pts_nil) (fun _ _ _ _ _ => pe_mt B.c M_precedes (hr.mono (by decide)) (pv 0) (pa_cons (pv 1) (pa_cons (pv 1) pa_nil)))) (pa_nil))))), ?_⟩
    obtain ⟨dx, g, n, f, h1, ⟨M, h2, h3, h4⟩, h5, h6⟩ := id hO
    have Ml : (refsOf M).length = A.length := by
      rw [hlen, ← h4, List.length_map, List.length_map]
    refine ⟨_, rfl, x, C, dx, _, .ref g, rfl, h1, B.c, B.n1, rfl, g, _, rfl, .inl (SqL.of h2), ((refsOf M).length : Nat), rfl, ?_, ?_, fun D nD => lc_it (walk_range (lo := 0) (n := (refsOf M).length)) (fun i H' => Same H H' ∧ H' D = some (.lst (((List.range i).map fun k => (A.getD k 0).testBit k).map V.bl))) ⟨same_upd nD, upd_same⟩ (fun _ _ _ _ => trivial) ?_ ?_⟩
    · omega
    · rw [Ml]
      omega
    · rintro i y H1 H2 hi ⟨s1, hD⟩ ⟨rfl, rfl⟩
      have ez : (fun i : Nat => V.int (0 + (i : Nat))) i = V.int (i : Nat) := by
        show V.int (0 + (i : Nat)) = _
        rw [Int.zero_add]
      rw [ez]
      rw [Ml] at hi
      refine ⟨rfl, yes_run ?_⟩
      obtain ⟨dx', g', n', f', e1, e2, e3, e4⟩ := hO.same s1
      refine ⟨_, rfl, x, dx', _, rfl, e1, rfl, _, rfl, _, rfl, x, i, i, G, kvs, A, rfl, ⟨dx', g', n', f', e1, e2, e3, e4⟩, hi, _, hD, ?_, s1.fresh nD, ?_⟩
      · rw [List.length_map, List.length_map, List.length_range]
        exact small1000 (by omega)
      · rw [upd_same, List.range_succ, List.map_append, List.map_append]
        rfl
    · rintro H1 ⟨s1, hD⟩
      refine ⟨D, _, rfl, SqL.of hD, _, rfl, ?_⟩
      have e : (((List.range (refsOf M).length).map fun k => (A.getD k 0).testBit k).any id) = looped A := by
        rw [Ml, List.any_map]
        rfl
      rw [e]
      exact q H1 s1
end
end Lw
set_option Elab.async false
set_option linter.all false
set_option maxRecDepth 100000
set_option maxHeartbeats 4000000
/-! data of any depth: its type by name; x in a tuple of such; isinstance of such -/
namespace L2
open PySem PySem.Spec PyProof.Rows
section
variable {X : Cx}
def rInDT (K : PySem.W.Frag) (neg : Bool) : R2 := fun x y H Q => ∃ d ds, Dp K H x d ∧ Dp K H y (.tuple ds) ∧ SeqAt.shaped d = true ∧ SeqAt.shaped (.tuple ds) = true ∧ Q (.bl (if neg then !ds.any (fun z => PyData.eqv z d) else ds.any fun z => PyData.eqv z d)) H
theorem op_inDT (hu : X.A.units + 65 < cLine) : OpR X (compareOp .In) (rInDT X.K false) := by
  intro pins s σ H x y v u Q I rx ry h
  obtain ⟨d, ds, hd, he, sd, se, q⟩ := h
  obtain ⟨as, r1⟩ := Dp.reads I d x v hd rx
  obtain ⟨bs, r2⟩ := Dp.reads I (.tuple ds) y u he ry
  exact SeqAt.in_tuple_reads r2 r1 (SeqAt.canLay_of_shaped se) (SeqAt.canLay_of_shaped sd) (room_in_shaped sd hu) ⟨.bl _, H, I, rfl, q⟩
theorem op_notInDT (hu : X.A.units + 65 < cLine) : OpR X (compareOp .NotIn) (rInDT X.K true) := by
  intro pins s σ H x y v u Q I rx ry h
  obtain ⟨d, ds, hd, he, sd, se, q⟩ := h
  obtain ⟨as, r1⟩ := Dp.reads I d x v hd rx
  obtain ⟨bs, r2⟩ := Dp.reads I (.tuple ds) y u he ry
  exact SeqAt.notIn_tuple_reads r2 r1 (SeqAt.canLay_of_shaped se) (SeqAt.canLay_of_shaped sd) (room_in_shaped sd hu) ⟨.bl _, H, I, rfl, q⟩
end
theorem unit65 {k : Nat} {A : Around} (r : Room k A) : A.units + 65 < cLine := by have := r.un; omega
def tyN : PyData → String
  | .none => "NoneType" | .bool _ => "bool" | .int _ => "int" | .str _ => "str" | .list _ => "list" | .tuple _ => "tuple" | .dict _ => "dict"
theorem take_snoc {α : Type} {l : List α} {i : Nat} {x : α} (h : l[i]? = some x) : l.take (i + 1) = l.take i ++ [x] := by
  rw [List.take_add_one, h]
  rfl
theorem tyOfT {K : PySem.W.Frag} {H : Hp} {t : Addr} {xs : List V} (h : SqT K H t xs) : TyX K H (.ref t) (.type "tuple") := by
  rcases h with (h | ⟨o, h⟩) | ⟨o, its, n, h, c, _⟩
  · exact .base (.tup h)
  · exact .fTuple h
  · exact .kTuple h c
theorem tyOfL {K : PySem.W.Frag} {H : Hp} {t : Addr} {xs : List V} (h : SqL K H t xs) : TyX K H (.ref t) (.type "list") := by
  rcases h with (h | ⟨o, h⟩) | ⟨o, its, n, h, c, _⟩
  · exact .base (.lst h)
  · exact .base (.frz h)
  · exact .kList h c
theorem Dp.ty {K : PySem.W.Frag} {H : Hp} {v : V} {d : PyData} (h : Dp K H v d) : TyX K H v (.type (tyN d)) := by
  cases h with
  | non => exact .base .non
  | bl b => exact .base (.bl b)
  | int i => exact .base (.int i)
  | str x => exact .base (.str x)
  | lst h _ => exact tyOfL h
  | tup h _ => exact tyOfT h
def isTup : PyData → Bool | .tuple _ => true | _ => false
def isLst : PyData → Bool | .list _ => true | _ => false
def isTxt : PyData → Bool | .str _ => true | _ => false
def isNum : PyData → Bool | .int _ => true | .bool _ => true | _ => false
def isBl : PyData → Bool | .bool _ => true | _ => false
theorem Dp.kTup {K : PySem.W.Frag} {H : Hp} {v : V} {d : PyData} (h : Dp K H v d) : PySem.W.kitOne K (.type (tyN d)) (.type "tuple") = some (isTup d) := by cases h <;> rfl
theorem Dp.kLst {K : PySem.W.Frag} {H : Hp} {v : V} {d : PyData} (h : Dp K H v d) : PySem.W.kitOne K (.type (tyN d)) (.type "list") = some (isLst d) := by cases h <;> rfl
theorem Dp.kTxt {K : PySem.W.Frag} {H : Hp} {v : V} {d : PyData} (h : Dp K H v d) : PySem.W.kitOne K (.type (tyN d)) (.type "str") = some (isTxt d) := by cases h <;> rfl
theorem Dp.kNum {K : PySem.W.Frag} {H : Hp} {v : V} {d : PyData} (h : Dp K H v d) : PySem.W.kitOne K (.type (tyN d)) (.type "int") = some (isNum d) := by cases h <;> rfl
theorem Dp.kBl {K : PySem.W.Frag} {H : Hp} {v : V} {d : PyData} (h : Dp K H v d) : PySem.W.kitOne K (.type (tyN d)) (.type "bool") = some (isBl d) := by cases h <;> rfl
/-- isinstance of data: the reading's tail -/
theorem isi_tup {K : PySem.W.Frag} {H : Hp} {v : V} {d : PyData} {Q : VK} (h : Dp K H v d) (q : Q (.bl (isTup d)) H) : rIsi K [v, .ty "tuple"] H Q := ⟨v, _, _, _, _, rfl, .ty "tuple", h.ty, h.kTup, q⟩
theorem isi_lst {K : PySem.W.Frag} {H : Hp} {v : V} {d : PyData} {Q : VK} (h : Dp K H v d) (q : Q (.bl (isLst d)) H) : rIsi K [v, .ty "list"] H Q := ⟨v, _, _, _, _, rfl, .ty "list", h.ty, h.kLst, q⟩
theorem isi_txt {K : PySem.W.Frag} {H : Hp} {v : V} {d : PyData} {Q : VK} (h : Dp K H v d) (q : Q (.bl (isTxt d)) H) : rIsi K [v, .ty "str"] H Q := ⟨v, _, _, _, _, rfl, .ty "str", h.ty, h.kTxt, q⟩
theorem isi_num {K : PySem.W.Frag} {H : Hp} {v : V} {d : PyData} {Q : VK} (h : Dp K H v d) (q : Q (.bl (isNum d)) H) : rIsi K [v, .ty "int"] H Q := ⟨v, _, _, _, _, rfl, .ty "int", h.ty, h.kNum, q⟩
theorem isi_bl {K : PySem.W.Frag} {H : Hp} {v : V} {d : PyData} {Q : VK} (h : Dp K H v d) (q : Q (.bl (isBl d)) H) : rIsi K [v, .ty "bool"] H Q := ⟨v, _, _, _, _, rfl, .ty "bool", h.ty, h.kBl, q⟩
theorem Dp.tup_of {K : PySem.W.Frag} {H : Hp} {v : V} {d : PyData} (h : Dp K H v d) (t : isTup d = true) : ∃ a xs ds, v = .ref a ∧ d = .tuple ds ∧ SqT K H a xs ∧ DpAll K H xs ds := by
  cases h with
  | tup h hs => exact ⟨_, _, _, rfl, rfl, h, hs⟩
  | _ => cases t
theorem Dp.lst_of {K : PySem.W.Frag} {H : Hp} {v : V} {d : PyData} (h : Dp K H v d) (t : isLst d = true) : ∃ a xs ds, v = .ref a ∧ d = .list ds ∧ SqL K H a xs ∧ DpAll K H xs ds := by
  cases h with
  | lst h hs => exact ⟨_, _, _, rfl, rfl, h, hs⟩
  | _ => cases t
theorem Dp.str_of {K : PySem.W.Frag} {H : Hp} {v : V} {d : PyData} (h : Dp K H v d) (t : isTxt d = true) : ∃ z, v = .str z ∧ d = .str z := by
  cases h with
  | str z => exact ⟨_, rfl, rfl⟩
  | _ => cases t
theorem DpAll.len {K : PySem.W.Frag} {H : Hp} : ∀ {vs : List V} {ds : List PyData}, DpAll K H vs ds → vs.length = ds.length
  | _, _, .nil => rfl
  | _, _, .cons _ h => congrArg Nat.succ h.len
theorem DpAll.get {K : PySem.W.Frag} {H : Hp} : ∀ {vs : List V} {ds : List PyData} {i : Nat} {v : V}, DpAll K H vs ds → vs[i]? = some v → ∃ d, ds[i]? = some d ∧ Dp K H v d
  | _, _, 0, _, .cons h _, e => ⟨_, rfl, by cases e; exact h⟩
  | _, _, i + 1, _, .cons _ h, e => DpAll.get (i := i) h e
theorem DpAll.get' {K : PySem.W.Frag} {H : Hp} : ∀ {vs : List V} {ds : List PyData} {i : Nat} {d : PyData}, DpAll K H vs ds → ds[i]? = some d → ∃ v, vs[i]? = some v ∧ Dp K H v d
  | _, _, 0, _, .cons h _, e => ⟨_, rfl, by cases e; exact h⟩
  | _, _, i + 1, _, .cons _ h, e => DpAll.get' (i := i) h e
theorem lay_mem {d : PyData} : ∀ {ds : List PyData}, PyData.canLayAll0 ds = true → d ∈ ds → d.canLay0 = true
  | x :: xs, h, m => by
    have h : (x.canLay0 && PyData.canLayAll0 xs) = true := by simpa only [PyData.canLayAll0] using h
    rw [Bool.and_eq_true] at h
    rcases List.mem_cons.mp m with rfl | m
    · exact h.1
    · exact lay_mem h.2 m
theorem depth_mem {d : PyData} : ∀ {ds : List PyData}, d ∈ ds → d.depth ≤ PyData.depthAll ds
  | x :: xs, m => by
    simp only [PyData.depthAll]
    rcases List.mem_cons.mp m with rfl | m
    · omega
    · have := depth_mem m
      omega
theorem shaped_tup {d : PyData} {ds : List PyData} (h : SeqAt.shaped (.tuple ds) = true) (m : d ∈ ds) : SeqAt.shaped d = true := by
  have h := Bool.and_eq_true_iff.mp h
  have h1 : PyData.canLayAll0 ds = true := by simpa only [PyData.canLay0] using h.1
  have h2 : PyData.depth (.tuple ds) ≤ 64 := of_decide_eq_true h.2
  simp only [PyData.depth] at h2
  have := depth_mem m
  exact Bool.and_eq_true_iff.mpr ⟨lay_mem h1 m, decide_eq_true (by omega)⟩
theorem shaped_lst {d : PyData} {ds : List PyData} (h : SeqAt.shaped (.list ds) = true) (m : d ∈ ds) : SeqAt.shaped d = true := by
  have h := Bool.and_eq_true_iff.mp h
  have h1 : PyData.canLayAll0 ds = true := by simpa only [PyData.canLay0] using h.1
  have h2 : PyData.depth (.list ds) ≤ 64 := of_decide_eq_true h.2
  simp only [PyData.depth] at h2
  have := depth_mem m
  exact Bool.and_eq_true_iff.mpr ⟨lay_mem h1 m, decide_eq_true (by omega)⟩
end L2
namespace L2
open PySem PySem.Spec PyProof.Rows
mutual
/-- texts and sequences of at most a thousand -/
def sized : PyData → Bool
  | .str z => decide (z.length ≤ 1000)
  | .list xs => decide (xs.length ≤ 1000) && sizedAll xs
  | .tuple xs => decide (xs.length ≤ 1000) && sizedAll xs
  | _ => true
def sizedAll : List PyData → Bool
  | [] => true
  | x :: xs => sized x && sizedAll xs
end
theorem sizedAll_mem {d : PyData} : ∀ {ds : List PyData}, sizedAll ds = true → d ∈ ds → sized d = true
  | x :: xs, h, m => by
    simp only [sizedAll, Bool.and_eq_true] at h
    rcases List.mem_cons.mp m with rfl | m
    · exact h.1
    · exact sizedAll_mem h.2 m
theorem sizedAll_of {ds : List PyData} (h : ∀ d ∈ ds, sized d = true) : sizedAll ds = true := by
  induction ds with
  | nil => rfl
  | cons x xs ih =>
    simp only [sizedAll, Bool.and_eq_true]
    exact ⟨h x List.mem_cons_self, ih fun d m => h d (List.mem_cons_of_mem _ m)⟩
theorem sized_tup {d : PyData} {ds : List PyData} (h : sized (.tuple ds) = true) (m : d ∈ ds) : sized d = true := by
  simp only [sized, Bool.and_eq_true] at h
  exact sizedAll_mem h.2 m
theorem sized_lst {d : PyData} {ds : List PyData} (h : sized (.list ds) = true) (m : d ∈ ds) : sized d = true := by
  simp only [sized, Bool.and_eq_true] at h
  exact sizedAll_mem h.2 m
theorem sized_str {z : Str} (h : sized (.str z) = true) : z.length ≤ 1000 := by
  simp only [sized] at h
  exact of_decide_eq_true h
theorem sized_len {ds : List PyData} (h : sized (.tuple ds) = true) : ds.length ≤ 1000 := by
  simp only [sized, Bool.and_eq_true] at h
  exact of_decide_eq_true h.1
/-- data that every rule takes -/
structure Gd (d : PyData) : Prop where
  sh : SeqAt.shaped d = true
  sz : sized d = true
theorem Gd.tup {d : PyData} {ds : List PyData} (h : Gd (.tuple ds)) (m : d ∈ ds) : Gd d := ⟨shaped_tup h.sh m, sized_tup h.sz m⟩
theorem Gd.lst {d : PyData} {ds : List PyData} (h : Gd (.list ds)) (m : d ∈ ds) : Gd d := ⟨shaped_lst h.sh m, sized_lst h.sz m⟩
end L2
set_option Elab.async false
set_option linter.all false
set_option maxRecDepth 100000
set_option maxHeartbeats 4000000
namespace Lw
open PySem PySem.Spec PyProof.Rows L2 TKS
/-- a letter from a to z -/
def isLetter (c : Nat) : Bool := !(Builtin.Str.occurrences letters ⟨#[c]⟩ 0 letters.length 1).isEmpty
def NameOk (z : Str) : Prop := 1 ≤ z.length ∧ z.length ≤ 8 ∧ ∀ c ∈ z.cps.toList, isLetter c = true
def letD (z : Str) : Bool := decide (1 ≤ z.length) && decide (z.length ≤ 8) && z.cps.toList.all isLetter
theorem letD_iff {z : Str} : letD z = true ↔ NameOk z := by
  simp only [letD, Bool.and_eq_true, decide_eq_true_eq, List.all_eq_true, NameOk, and_assoc]
def nameD : PyData → Bool | .str z => letD z | _ => false
def pairD : PyData → Bool | .tuple [_, _] => true | _ => false
def wordsV : List V := [.str "at", .str "then", .str "back", .str "later", .str "earlier", .str "with"]
def wordsP : List PyData := [.str "at", .str "then", .str "back", .str "later", .str "earlier", .str "with"]
def wordD (d : PyData) : Bool := wordsP.any fun z => PyData.eqv z d
def senD : PyData → Bool | .tuple [a, b] => wordD a && nameD b | _ => false
def spName (K : PySem.W.Frag) : Sp := fun vs H Q _ => ∃ v d, vs = [v] ∧ Dp K H v d ∧ sized d = true ∧ ∀ H', Same H H' → Q (.bl (nameD d)) H'
def spPair (K : PySem.W.Frag) : Sp := fun vs H Q _ => ∃ v d, vs = [v] ∧ Dp K H v d ∧ ∀ H', Same H H' → Q (.bl (pairD d)) H'
def spSenD (K : PySem.W.Frag) : Sp := fun vs H Q _ => ∃ v d, vs = [v] ∧ Dp K H v d ∧ Gd d ∧ ∀ H', Same H H' → Q (.bl (senD d)) H'
theorem wordsP_dp {K : PySem.W.Frag} {H : Hp} : DpAll K H wordsV wordsP := .cons (.str _) (.cons (.str _) (.cons (.str _) (.cons (.str _) (.cons (.str _) (.cons (.str _) .nil)))))
theorem wordsP_shaped : SeqAt.shaped (.tuple wordsP) = true := by decide +kernel
theorem isLetter_mem (c : Nat) : isLetter c = decide (c ∈ letters.cps.toList) := PySem.StrLaws.found_one letters c
theorem name_ok {z : Str} (h : NameOk z) : PySem.PyData.strOk z = true := by
  have q : ∀ c ∈ letters.cps.toList, c < 0x110000 := by decide +kernel
  show z.cps.all _ = true
  rw [← Array.all_toList, List.all_eq_true]
  intro c m
  have e := h.2.2 c m
  rw [isLetter_mem] at e
  exact decide_eq_true (q c (of_decide_eq_true e))
def SenOk (s : Sen) : Prop := inV (.str s.1) wordsV = true ∧ NameOk s.2
def tupS (l : List Str) : PyData := .tuple (l.map PyData.str)
theorem words_all {P : Str → Prop} (a : P "at") (b : P "then") (c : P "back") (d : P "later") (e : P "earlier") (f : P "with") {w : Str} (h : inV (.str w) wordsV = true) : P w := by
  have h := List.any_eq_true.mp h
  obtain ⟨x, m, q⟩ := h
  have q : ∀ y : Str, x = .str y → y = w := fun y e => by
    rw [e] at q
    exact of_decide_eq_true q
  simp only [wordsV, List.mem_cons, List.not_mem_nil, or_false] at m
  rcases m with rfl | rfl | rfl | rfl | rfl | rfl
  · exact q _ rfl ▸ a
  · exact q _ rfl ▸ b
  · exact q _ rfl ▸ c
  · exact q _ rfl ▸ d
  · exact q _ rfl ▸ e
  · exact q _ rfl ▸ f
theorem wordD_word {w : Str} (h : inV (.str w) wordsV = true) : wordD (.str w) = true := words_all (P := fun w => wordD (.str w) = true) (by decide +kernel) (by decide +kernel) (by decide +kernel) (by decide +kernel) (by decide +kernel) (by decide +kernel) h
theorem word_ok {w : Str} (h : inV (.str w) wordsV = true) : PySem.PyData.strOk w = true ∧ w.length ≤ 1000 := words_all (P := fun w => PySem.PyData.strOk w = true ∧ w.length ≤ 1000) (by decide +kernel) (by decide +kernel) (by decide +kernel) (by decide +kernel) (by decide +kernel) (by decide +kernel) h
theorem sen_gd {s : Sen} (h : SenOk s) : Gd (tupS [s.1, s.2]) := by
  have w := word_ok h.1
  have n := name_ok h.2
  have n8 := h.2.2.1
  refine ⟨?_, ?_⟩
  · show ((PySem.PyData.strOk s.1 && (PySem.PyData.strOk s.2 && true)) && decide (_ ≤ 64)) = true
    rw [w.1, n]
    rfl
  · show (decide (2 ≤ 1000) && (decide (s.1.length ≤ 1000) && (decide (s.2.length ≤ 1000) && true))) = true
    rw [decide_eq_true w.2, decide_eq_true (show s.2.length ≤ 1000 by omega)]
    rfl
theorem sen_true {s : Sen} (h : SenOk s) : senD (tupS [s.1, s.2]) = true := by
  show (wordD _ && letD s.2) = true
  rw [wordD_word h.1, letD_iff.mpr h.2]
  rfl
theorem sen_dp {K : PySem.W.Frag} {H : Hp} {x : V} {s : Sen} (h : SenAt K H x s) : Dp K H x (tupS [s.1, s.2]) := by
  obtain ⟨t, rfl, ht⟩ := h
  exact .tup ht (.cons (.str _) (.cons (.str _) .nil))
section
variable {P : Program} {w : World} {K : PySem.W.Frag} {mg : Str → Option Value} {base : Heap} {C : Addr} {aM aF aB aW : Addr}
theorem ok_is_name (T : Txt K mg) (A : Wds K mg aM aF aB aW) (F : Fn K mg "is_name" s_is_name) : Df P w K mg base "is_name" 1 ["thing"] (spName K) := by
  refine F.df (fun _ _ _ _ _ _ us hl => match us, hl with | [_], _ => rfl) fun f fd F => F.ok sc_is_name (fun vs H Q E h => ?_) (fun cdv AA outer s H vs Q E hr h => ?_)
  · obtain ⟨z, d, rfl, _⟩ := h
    rfl
  · obtain ⟨v, d, rfl, hd, sz, q⟩ := h
    refine ⟨_, pss_cons (ps_if (PW.pt (pw_or (pt_not (pt_val (pe_callB call_isi (by rfl) T.m_isinstance (by decide +kernel) (pa_cons (pv 0) (pa_cons (pe_bltn (v := .ty "str") (by rfl) T.m_str boot_str rfl) (pa_nil)))))) (pw_or1 (pt_not (pt_chain op_le op_le (pe_int) (pe_callB call_len_str (by rfl) T.m_len (by decide +kernel) (pa_cons (pv 0) (pa_nil))) (pe_globE (by rfl) A.g_LONGEST_NAME)))))) (pss_one (ps_ret (pe_bl))) (pss_nil))
    (pss_one (ps_ret (pe_callB (show CallR _ _ (rAll K) from cr_all rfl) (by rfl) T.m_all (by decide +kernel) (pa_cons (pe_lc (own := [("letter", 1)]) rfl sc_is_name.nd (pi_str (pv 0)) (blkOk_by (N := ["thing", "letter"]) (sc := defScope s_is_name) (by decide +kernel)) (fun _ _ _ _ _ => pg_name (i := 1) sc_is_name.nd rfl (by first | exact Or.inl rfl | exact Or.inr rfl)) (fun _ _ _ _ _ => pts_nil) (fun _ _ _ _ _ => pe_cmpR op_in_str (pv 1) (pe_globE (by rfl) A.g_LETTERS) (by rfl))) (pa_nil))))), ?_⟩
    refine ⟨_, rfl, v, _, _, _, _, rfl, .ty "str", hd.ty, hd.kTxt, _, rfl, ?_⟩
    cases ht : isTxt d with
    | false =>
      refine iteT ?_
      have e : nameD d = false := by cases hd <;> first | rfl | cases ht
      have q := q H (Same.refl H)
      rw [e] at q
      exact q
    | true =>
      obtain ⟨z, rfl, rfl⟩ := hd.str_of ht
      have zl := sized_str sz
      have hz : z.length ≤ sizeLine := Nat.le_trans zl (by decide)
      refine iteF ⟨_, rfl, z, rfl, hz, (1 : Int), ((z.length : Nat) : Int), rfl, rfl, _, rfl, ?_⟩
      by_cases c1 : 1 ≤ z.length
      · refine ite2 (fun _ => ⟨((z.length : Nat) : Int), (8 : Int), rfl, rfl, _, rfl, ?_⟩) (fun c => absurd (decide_eq_true (p := (1 : Int) ≤ (z.length : Nat)) (by omega)) c)
        by_cases c8 : z.length ≤ 8
        · have e8 : decide (((z.length : Nat) : Int) ≤ 8) = true := decide_eq_true (by omega)
          rw [e8]
          refine iteF ?_
          refine ⟨_, rfl, z, rfl, fun D nD => lc_it (walk_str (z := z)) (fun i H' => Same H H' ∧ H' D = some (.lst ((z.cps.toList.take i).map fun c => V.bl (isLetter c)))) ⟨same_upd nD, upd_same⟩ (fun _ _ _ _ => trivial) ?_ ?_⟩
          · rintro i x H1 H2 hi ⟨s1, hD⟩ ⟨rfl, c, ec, rfl⟩
            have e : z.cps.toList[i]? = some c := by simpa using ec
            have hi : i < z.length := hi
            refine ⟨rfl, yes_run ?_⟩
            refine ⟨_, rfl, ⟨#[c]⟩, letters, rfl, rfl, _, hD, ?_, s1.fresh nD, ?_⟩
            · rw [List.length_map, List.length_take]
              exact small1000 (by omega)
            · rw [upd_same, take_snoc e, List.map_append]
              rfl
          · rintro H1 ⟨s1, hD⟩
            have hD : H1 D = some (.lst ((z.cps.toList.map isLetter).map V.bl)) := by
              rw [hD, List.take_of_length_le (Nat.le_of_eq (show z.cps.toList.length = z.cps.size from Array.length_toList))]
              rw [List.map_map]
              rfl
            refine ⟨D, _, rfl, SqL.of hD, ?_⟩
            have q := q H1 s1
            have e : nameD (.str z) = (z.cps.toList.map isLetter).all id := by
              show letD z = _
              unfold letD
              rw [decide_eq_true c1, decide_eq_true c8, List.all_map]
              rfl
            rw [e] at q
            exact q
        · have e8 : decide (((z.length : Nat) : Int) ≤ 8) = false := decide_eq_false (by omega)
          rw [e8]
          refine iteT ?_
          have q := q H (Same.refl H)
          have e : nameD (.str z) = false := by
            show letD z = _
            unfold letD
            rw [decide_eq_false c8, Bool.and_false, Bool.false_and]
          rw [e] at q
          exact q
      · refine ite2 (fun c => absurd (of_decide_eq_true c) (by omega)) (fun _ => ⟨_, rfl, ?_⟩)
        refine iteT ?_
        have q := q H (Same.refl H)
        have e : nameD (.str z) = false := by
          show letD z = _
          unfold letD
          rw [decide_eq_false c1, Bool.false_and, Bool.false_and]
        rw [e] at q
        exact q
theorem ok_is_pair (T : Txt K mg) (F : Fn K mg "is_pair" s_is_pair) : Df P w K mg base "is_pair" 1 ["thing"] (spPair K) := by
  refine F.df (fun _ _ _ _ _ _ us hl => match us, hl with | [_], _ => rfl) fun f fd F => F.ok sc_is_pair (fun vs H Q E h => ?_) (fun cdv AA outer s H vs Q E hr h => ?_)
  · obtain ⟨z, d, rfl, _⟩ := h
    rfl
  · obtain ⟨v, d, rfl, hd, q⟩ := h
    have q := q H (Same.refl H)
    refine ⟨_, pss_one (ps_ret (pe_and (pe_callB call_isi (by rfl) T.m_isinstance (by decide +kernel) (pa_cons (pv 0) (pa_cons (pe_bltn (v := .ty "tuple") (by rfl) T.m_tuple boot_tuple rfl) (pa_nil)))) (pe_one (pe_cmpR op_eq (pe_callB call_len_seq (by rfl) T.m_len (by decide +kernel) (pa_cons (pv 0) (pa_nil))) (pe_int) (nomark _))))), ?_⟩
    refine ⟨_, rfl, v, _, _, _, _, rfl, .ty "tuple", hd.ty, hd.kTup, _, rfl, ?_⟩
    cases ht : isTup d with
    | false =>
      refine iteF ?_
      have e : pairD d = false := by cases hd <;> first | rfl | cases ht
      rw [e] at q
      exact q
    | true =>
      refine iteT ?_
      obtain ⟨a, xs, ds, rfl, rfl, hs, ha⟩ := hd.tup_of ht
      refine ⟨_, rfl, a, xs, rfl, .inr hs, ?_⟩
      have e : pairD (.tuple ds) = decide (V.int (xs.length : Nat) = V.int 2) := by
        rw [ha.len]
        match ds with
        | [] => rfl
        | [_] => rfl
        | [_, _] => rfl
        | _ :: _ :: _ :: r => exact (decide_eq_false fun z => by have z := V.int.inj z; simp only [List.length_cons] at z; omega).symm
      rw [e] at q
      exact ⟨rfl, q⟩
theorem ok_is_sentenceD (T : Txt K mg) (A : Wds K mg aM aF aB aW) (F : Fn K mg "is_sentence" s_is_sentence) (FN : Fn K mg "is_name" s_is_name) (FP : Fn K mg "is_pair" s_is_pair) : Df P w K mg base "is_sentence" 2 ["thing"] (spSenD K) := by
  have G_is_name : Df P w K mg base "is_name" 1 ["thing"] (spName K) := ok_is_name T A FN
  have G_is_pair : Df P w K mg base "is_pair" 1 ["thing"] (spPair K) := ok_is_pair T FP
  refine F.df (fun _ _ _ _ _ _ us hl => match us, hl with | [_], _ => rfl) fun f fd F => F.ok sc_is_sentence (fun vs H Q E h => ?_) (fun cdv AA outer s H vs Q E hr h => ?_)
  · obtain ⟨z, d, rfl, _⟩ := h
    rfl
  · obtain ⟨v, d, rfl, hd, gd, q⟩ := h
    refine ⟨_, pss_one (ps_ret (pe_and (pe_df G_is_pair (hr.mono (by decide)) (by rfl) (pa_cons (pv 0) (pa_nil))) (pe_and (pe_cmpR (op_inDT (unit65 hr)) (pe_ix ix_tup (pv 0) (pe_int) (fun _ _ => rfl)) (pe_glob (v := .ref aW) (by rfl) A.g_WORDS rfl) (by rfl)) (pe_one (pe_df G_is_name (hr.mono (by decide)) (by rfl) (pa_cons (pe_ix ix_tup (pv 0) (pe_int) (fun _ _ => rfl)) (pa_nil))))))), ?_⟩
    refine ⟨_, rfl, v, d, rfl, hd, fun H1 s1 => ⟨_, rfl, ?_⟩⟩
    cases hp : pairD d with
    | false =>
      refine iteF ?_
      have q := q H1 s1
      have e : senD d = false := by
        match d, hp with
        | .none, _ => rfl
        | .bool _, _ => rfl
        | .int _, _ => rfl
        | .str _, _ => rfl
        | .list _, _ => rfl
        | .dict _, _ => rfl
        | .tuple [], _ => rfl
        | .tuple [_], _ => rfl
        | .tuple (_ :: _ :: _ :: _), _ => rfl
      rw [e] at q
      exact q
    | true =>
      refine iteT ?_
      obtain ⟨a, b, rfl⟩ : ∃ a b, d = .tuple [a, b] := by
        match d, hp with
        | .tuple [a, b], _ => exact ⟨a, b, rfl⟩
      obtain ⟨t, xs, ds, rfl, e, hs, ha⟩ := hd.tup_of rfl
      cases e
      cases ha with
      | cons da hb =>
        cases hb with
        | cons db hn =>
          cases hn
          have ga : Gd a := gd.tup List.mem_cons_self
          have gb : Gd b := gd.tup (List.mem_cons_of_mem _ List.mem_cons_self)
          have hs1 := s1.seqT hs
          refine ⟨_, rfl, t, _, _, _, rfl, rfl, hs1, rfl, ?_⟩
          refine ⟨a, wordsP, da.same s1, .tup (A.words _) wordsP_dp, ga.sh, wordsP_shaped, _, rfl, ite2 (fun c => ?_) (fun c => ?_)⟩
          · refine ⟨_, rfl, t, _, _, _, rfl, rfl, hs1, rfl, _, b, rfl, db.same s1, gb.sz, fun H2 s2 => ?_⟩
            have e : senD (.tuple [a, b]) = nameD b := by
              show (wordD a && nameD b) = _
              rw [show wordD a = true from c, Bool.true_and]
            have q := q H2 (s1.trans s2)
            rw [e] at q
            exact q
          · have c : wordD a = false := eq_false_of_ne_true c
            have e : senD (.tuple [a, b]) = false := by
              show (wordD a && nameD b) = _
              rw [c, Bool.false_and]
            have q := q H1 s1
            rw [e] at q
            exact q
end
end Lw
set_option Elab.async false
set_option linter.all false
set_option maxRecDepth 100000
set_option maxHeartbeats 4000000
namespace Lw
open PySem PySem.Spec PyProof.Rows L2 TKS
def spSen (K : PySem.W.Frag) : Sp := fun vs H Q _ => ∃ x s, vs = [x] ∧ SenAt K H x s ∧ SenOk s ∧ ∀ H', Same H H' → Q (.bl true) H'
section
variable {P : Program} {w : World} {K : PySem.W.Frag} {mg : Str → Option Value} {base : Heap} {C : Addr} {aM aF aB aW : Addr}
theorem ok_is_sentence (T : Txt K mg) (A : Wds K mg aM aF aB aW) (F : Fn K mg "is_sentence" s_is_sentence) (FN : Fn K mg "is_name" s_is_name) (FP : Fn K mg "is_pair" s_is_pair) : Df P w K mg base "is_sentence" 2 ["thing"] (spSen K) :=
  (ok_is_sentenceD T A F FN FP).imp fun vs H Q E h => by
    obtain ⟨x, s, e, hx, ok, q⟩ := h
    refine ⟨x, _, e, sen_dp hx, sen_gd ok, fun H' s' => ?_⟩
    rw [sen_true ok]
    exact q H' s'
/-- no order of the tale has a group after itself -/
def Sound (S : List Sen) : Prop := ∀ G ms, IsGroups (S.map (·.2)) (sameL (linksL "" S)) G → StepsOk G (linksL "" S) ms → looped (closeN ms.length ms) = false
structure TaleOk (S : List Sen) : Prop where
  few : S.length ≤ 60
  first : ∀ s, S[0]? = some s → s.1 = ("at" : Str)
  each : ∀ s ∈ S, SenOk s
  sound : Sound S
def spCheck (K : PySem.W.Frag) : Sp := fun vs H Q _ => ∃ a S, vs = [.ref a] ∧ TaleAt K H a S ∧ TaleOk S ∧ ∀ H', Same H H' → Q .non H'
theorem closeN_len (k : Nat) (ms : List Nat) : (closeN k ms).length = ms.length := closeN_length k ms
theorem ok_check_tale (T : Txt K mg) (A : Wds K mg aM aF aB aW) (B : Kls K mg C) (F : Fn K mg "check_tale" s_check_tale) (FN : Fn K mg "is_name" s_is_name) (FS : Fn K mg "is_sentence" s_is_sentence) (FP : Fn K mg "is_pair" s_is_pair)
    (M_Order : Mke P w K mg base C 3 ["self", "tale"] (spInit K C)) (M_is_consistent : Mt P w K mg base C "is_consistent" 2 ["self"] (spCons C)) : Df P w K mg base "check_tale" 5 ["thing"] (spCheck K) := by
  have G_is_sentence : Df P w K mg base "is_sentence" 2 ["thing"] (spSen K) := ok_is_sentence T A FS FN FP
  refine F.df (fun _ _ _ _ _ _ us hl => match us, hl with | [_], _ => rfl) fun f fd F => F.ok sc_check_tale (fun vs H Q E h => ?_) (fun cdv AA outer s H vs Q E hr h => ?_)
  · obtain ⟨a, S, rfl, _⟩ := h
    rfl
  · obtain ⟨a, S, rfl, hT, ok, q⟩ := h
    refine ⟨_, pss_cons (ps_if (pt_not (pt_val (pe_callB call_isi (by rfl) T.m_isinstance (by decide +kernel) (pa_cons (pv 0) (pa_cons (pe_bltn (v := .ty "tuple") (by rfl) T.m_tuple boot_tuple rfl) (pa_nil)))))) (pss_one (ps_ret (pe_tup (pa_cons (pe_str) (pa_nil))))) (pss_nil))
    (pss_cons (ps_for PassesOwn.never rfl (ZLT.pi_enumT (by rfl) T.m_enumerate (pa_cons (pv 0) (pa_nil))) (pg_tup (by rfl) (pgs_cons (pg_name (i := 1) sc_check_tale.nd rfl (by first | exact Or.inl rfl | exact Or.inr rfl)) (pgs_cons (pg_name (i := 2) sc_check_tale.nd rfl (by first | exact Or.inl rfl | exact Or.inr rfl)) (pgs_nil)))) (pss_one (ps_if (PW.pt (pw_or (pt_not (pt_val (pe_df G_is_sentence (hr.mono (by decide)) (by rfl) (pa_cons (pv 2) (pa_nil))))) (pw_or1 (PW.pt (pw_and (pt_cmpR op_eq (pv 1) (pe_int) (nomark _)) (pw_and1 (pt_cmpR op_ne (pe_ix ix_tup (pv 2) (pe_int) (fun _ _ => rfl)) (pe_str) (nomark _)))))))) (pss_one (ps_ret (pe_tup (pa_cons (pe_str) (pa_cons (pv 1) (pa_nil)))))) (pss_nil))))
    (pss_cons (ps_if (pt_not (pt_val (pe_mt0 B.c M_is_consistent (hr.mono (by decide)) (pe_mke M_Order (hr.mono (by decide)) (by rfl) B.g (pa_cons (pv 0) pa_nil))))) (pss_one (ps_off)) (pss_nil))
    (pss_one (ps_ret (pe_non))))), ?_⟩
    obtain ⟨xs, hq, hx⟩ := id hT
    refine ⟨_, rfl, _, _, _, _, true, rfl, .ty "tuple", tyOfT hq, rfl, ?_⟩
    refine ⟨true, rfl, iteF ?_⟩
    refine ⟨_, rfl, a, xs, rfl, hq, for_it (ZLT.walk_enumT (K := K) (a := a) (xs := xs)) (fun i σ H' => ∃ y1 y2, σ = [some (.ref a), y1, y2] ∧ Same H H') ⟨none, none, rfl, Same.refl H⟩ (fun i σ H' _ ⟨_, _, _, e⟩ => e.seqT hq) ?_ ?_⟩
    · rintro i x σ H1 H2 hi ⟨y1, y2, rfl, s1⟩ ⟨T1, x1, x2, rfl, nT, rfl, e1, e2⟩
      cases e1
      obtain ⟨s, es, hs⟩ := hx.get e2
      have s2 := s1.trans (same_upd nT (o := .tup [.int (i : Nat), x2]))
      refine ⟨T1, _, rfl, .inl (.inl upd_same), rfl, _, _, rfl, _, _, rfl, rfl, ?_⟩
      refine ⟨_, rfl, x2, s, rfl, hs.same s2, ok.each s (List.mem_of_getElem? es), fun H3 s3 => ⟨true, rfl, iteF ?_⟩⟩
      refine ⟨_, rfl, rfl, _, rfl, ite2 (fun c => ?_) (fun c => ?_)⟩
      · have i0 : i = 0 := by
          have c := of_decide_eq_true c
          cases i with
          | zero => rfl
          | succ n => exact absurd (V.int.inj c) (by omega)
        subst i0
        obtain ⟨t, rfl, ht⟩ := (hs.same s2).same s3
        refine ⟨_, rfl, t, _, _, .str s.1, rfl, rfl, ht, rfl, rfl, _, rfl, ?_⟩
        rw [ok.first s es]
        exact iteF ⟨_, _, rfl, s2.trans s3⟩
      · exact iteF ⟨_, _, rfl, s2.trans s3⟩
    · rintro σ H1 ⟨y1, y2, rfl, s1⟩
      refine ⟨_, rfl, fun x dx nx ndx ne => ⟨x, a, dx, S, rfl, upd_same, ?_, ok.few, ok.first, fun H3 sb hO _ => ⟨rfl, ?_⟩⟩⟩
      · exact hT.same ((s1.trans (same_upd ndx)).trans (same_upd (by rw [upd_ne (Ne.symm ne)]; exact nx)))
      · obtain ⟨G, kvs, ms, ord, iG, N, St⟩ := hO.ord
        obtain ⟨dx', g, n, f, h1, h2⟩ := id ord
        have s3 : Same H H3 := fun b o e => by
          have e1 := s1 _ _ e
          have nb : b ≠ x := ne_of_none e1 nx
          have nd : b ≠ dx := ne_of_none e1 ndx
          refine sb b o nb ?_
          rw [upd_ne nb, upd_ne nd]
          exact e1
        refine ⟨x, dx', _, rfl, h1, rfl, x, G, kvs, _, rfl, ord, by rw [closeN_len, St.len], iG.few, fun H4 s4 => ⟨!looped (closeN ms.length ms), rfl, ?_⟩⟩
        rw [ok.sound G ms iG St]
        exact iteF (q H4 (s3.trans s4))
end
end Lw
set_option Elab.async false
set_option linter.all false
set_option maxRecDepth 100000
set_option maxHeartbeats 4000000
namespace Lw
open PySem PySem.Spec PyProof.Rows L2 TKS
def spOrder (K : PySem.W.Frag) (C : Addr) : Sp := fun vs H Q _ => ∃ a S, vs = [.ref a] ∧ TaleAt K H a S ∧ TaleOk S ∧ ∀ x H', Same H H' → H x = none → OrderAt C H' x S → NewG C H H' x → Q (.ref x) H'
section
variable {P : Program} {w : World} {K : PySem.W.Frag} {mg : Str → Option Value} {base : Heap} {C : Addr} {aM aF aB aW : Addr}
theorem ok_require_tale (T : Txt K mg) (F : Fn K mg "require_tale" s_require_tale) (G_check_tale : Df P w K mg base "check_tale" 5 ["thing"] (spCheck K)) : Df P w K mg base "require_tale" 6 ["tale"] (spCheck K) := by
  refine F.df (fun _ _ _ _ _ _ us hl => match us, hl with | [_], _ => rfl) fun f fd F => F.ok sc_require_tale (fun vs H Q E h => ?_) (fun cdv AA outer s H vs Q E hr h => ?_)
  · obtain ⟨a, S, rfl, _⟩ := h
    rfl
  · obtain ⟨a, S, rfl, hT, ok, q⟩ := h
    refine ⟨_, pss_cons (ps_set (i := 1) sc_require_tale.nd rfl (by first | exact Or.inl rfl | exact Or.inr rfl) (pe_df G_check_tale (hr.mono (by decide)) (by rfl) (pa_cons (pv 0) (pa_nil))))
    (pss_one (ps_if (pt_cmpR op_notN (pv 1) (pe_non) (nomark _)) (pss_one (ps_off)) (pss_nil))), ?_⟩
    refine ⟨_, rfl, a, S, rfl, hT, ok, fun H1 s1 => ?_⟩
    exact ⟨_, rfl, rfl, false, by rw [decide_eq_true rfl]; rfl, iteF (q H1 s1)⟩
theorem ok_tale_order (T : Txt K mg) (B : Kls K mg C) (F : Fn K mg "tale_order" s_tale_order) (G_require_tale : Df P w K mg base "require_tale" 6 ["tale"] (spCheck K)) (M_Order : Mke P w K mg base C 3 ["self", "tale"] (spInit K C)) : Df P w K mg base "tale_order" 7 ["tale"] (spOrder K C) := by
  refine F.df (fun _ _ _ _ _ _ us hl => match us, hl with | [_], _ => rfl) fun f fd F => F.ok sc_tale_order (fun vs H Q E h => ?_) (fun cdv AA outer s H vs Q E hr h => ?_)
  · obtain ⟨a, S, rfl, _⟩ := h
    rfl
  · obtain ⟨a, S, rfl, hT, ok, q⟩ := h
    refine ⟨_, pss_cons (ps_expr (pe_df G_require_tale (hr.mono (by decide)) (by rfl) (pa_cons (pv 0) (pa_nil))))
    (pss_one (ps_ret (pe_mke M_Order (hr.mono (by decide)) (by rfl) B.g (pa_cons (pv 0) pa_nil)))), ?_⟩
    refine ⟨_, rfl, a, S, rfl, hT, ok, fun H1 s1 => ?_⟩
    refine ⟨_, rfl, fun x dx nx ndx ne => ⟨x, a, dx, S, rfl, upd_same, ?_, ok.few, ok.first, fun H3 sb hO hg => ⟨rfl, ?_⟩⟩⟩
    · exact hT.same ((s1.trans (same_upd ndx)).trans (same_upd (by rw [upd_ne (Ne.symm ne)]; exact nx)))
    · have s3 : Same H H3 := fun b o e => by
        have e1 := s1 _ _ e
        have nb : b ≠ x := ne_of_none e1 nx
        have nd : b ≠ dx := ne_of_none e1 ndx
        refine sb b o nb ?_
        rw [upd_ne nb, upd_ne nd]
        exact e1
      obtain ⟨dz, gz, nz, fz, z1, z2⟩ := hg
      have zf : H gz = none := by
        cases q : H gz with
        | none => rfl
        | some o =>
          have e1 := s1 _ _ q
          rw [upd_ne (ne_of_none e1 nx), upd_ne (ne_of_none e1 ndx), e1] at z2
          cases z2
      refine q x H3 s3 ?_ hO ⟨dz, gz, nz, fz, z1, zf⟩
      cases h : H x with
      | none => rfl
      | some o => rw [s1 _ _ h] at nx; cases nx
end
end Lw
set_option Elab.async false
set_option linter.all false
set_option maxRecDepth 100000
set_option maxHeartbeats 4000000
namespace Lw
open PySem PySem.Spec PyProof.Rows L2 TKS
def spNumber (C : Addr) : Sp := fun vs H Q _ => ∃ x m G kvs A i, vs = [.ref x, .str m] ∧ Ord C H x G kvs A ∧ valV kvs (Sum.inr m) = some (.int (i : Nat)) ∧ Q (.int (i : Nat)) H
def relOf (A : List Nat) (i j : Nat) : Str := if i = j then "same" else if (A.getD i 0).testBit j = true then "before" else if (A.getD j 0).testBit i = true then "after" else "unknown"
def spRel (K : PySem.W.Frag) : Sp := fun vs H Q _ => ∃ a S m1 m2, vs = [.ref a, .str m1, .str m2] ∧ TaleAt K H a S ∧ TaleOk S ∧ m1 ∈ S.map (·.2) ∧ m2 ∈ S.map (·.2) ∧
  ∀ H' G ms i j, Same H H' → IsGroups (S.map (·.2)) (sameL (linksL "" S)) G → StepsOk G (linksL "" S) ms → InG G i m1 → InG G j m2 → Q (.str (relOf (closeN ms.length ms) i j)) H'
section
variable {P : Program} {w : World} {K : PySem.W.Frag} {mg : Str → Option Value} {base : Heap} {C : Addr} {aM aF aB aW : Addr}
theorem ok_moment_number (T : Txt K mg) (B : Kls K mg C) (F : Fn K mg "moment_number" s_moment_number) : Df P w K mg base "moment_number" 1 ["order", "name"] (spNumber C) := by
  refine F.df (fun _ _ _ _ _ _ us hl => match us, hl with | [_, _], _ => rfl) fun f fd F => F.ok sc_moment_number (fun vs H Q E h => ?_) (fun cdv AA outer s H vs Q E hr h => ?_)
  · obtain ⟨x, m, G, kvs, A, i, rfl, _⟩ := h
    rfl
  · obtain ⟨x, m, G, kvs, A, i, rfl, ⟨dx, g, n, f, h1, h2, h3, h4⟩, hv, q⟩ := h
    have hu := Nat.lt_of_le_of_lt (Nat.add_le_add_left (by decide : 1 ≤ 64) _) hr.units
    refine ⟨_, pss_cons (ps_if (PW.pt (pw_or (pt_not (pt_val (pe_callB call_isi (by rfl) T.m_isinstance (by decide +kernel) (pa_cons (pv 1) (pa_cons (pe_bltn (v := .ty "str") (by rfl) T.m_str boot_str rfl) (pa_nil)))))) (pw_or1 (pt_cmp (pc_dnotin hu (pv 1) (pe_fld (pv 0) rfl)))))) (pss_one (ps_off)) (pss_nil))
    (pss_one (ps_ret (pe_dget hu (pe_fld (pv 0) rfl) (pv 1) (fun _ _ => rfl)))), ?_⟩
    refine ⟨_, rfl, _, _, _, _, true, rfl, .ty "str", .base (.str m), rfl, true, rfl, iteF ?_⟩
    refine ⟨_, rfl, _, rfl, x, C, dx, _, .ref n, rfl, h1, B.c, B.n2, rfl, n, _, rfl, dget_int h3 hv, _, rfl, iteF ?_⟩
    exact ⟨_, rfl, x, C, dx, _, .ref n, rfl, h1, B.c, B.n2, rfl, _, rfl, n, _, rfl, dget_int h3 hv, q⟩
theorem fn_relation (T : Txt K mg) (B : Kls K mg C) (FN : Fn K mg "moment_number" s_moment_number) (G_tale_order : Df P w K mg base "tale_order" 7 ["tale"] (spOrder K C)) (M_precedes : Mt P w K mg base C "precedes" 1 ["self", "one", "other"] (spPrec C)) {f : Addr} {fd : FuncData}
    (F : Fun K "relation" "relation" s_relation f fd) : FnOk P w K mg base CX0 8 f fd ["tale", "a", "b"] (spRel K) := by
  have G_moment_number : Df P w K mg base "moment_number" 1 ["order", "name"] (spNumber C) := ok_moment_number T B FN
  refine F.ok sc_relation (fun vs H Q E h => ?_) (fun cdv AA outer s H vs Q E hr h => ?_)
  · obtain ⟨a, S, m1, m2, rfl, _⟩ := h
    rfl
  · obtain ⟨a, S, m1, m2, rfl, hT, ok, k1, k2, q⟩ := h
    refine ⟨_, pss_cons (ps_set (i := 3) sc_relation.nd rfl (by first | exact Or.inl rfl | exact Or.inr rfl) (pe_df G_tale_order (hr.mono (by decide)) (by rfl) (pa_cons (pv 0) (pa_nil))))
    (pss_cons (ps_set (i := 4) sc_relation.nd rfl (by first | exact Or.inl rfl | exact Or.inr rfl) (pe_df G_moment_number (hr.mono (by decide)) (by rfl) (pa_cons (pv 3) (pa_cons (pv 1) (pa_nil)))))
    (pss_cons (ps_set (i := 5) sc_relation.nd rfl (by first | exact Or.inl rfl | exact Or.inr rfl) (pe_df G_moment_number (hr.mono (by decide)) (by rfl) (pa_cons (pv 3) (pa_cons (pv 2) (pa_nil)))))
    (pss_cons (ps_if (pt_cmpR op_eq (pv 4) (pv 5) (nomark _)) (pss_one (ps_ret (pe_str))) (pss_nil))
    (pss_cons (ps_if (pt_val (pe_mt B.c M_precedes (hr.mono (by decide)) (pv 3) (pa_cons (pv 4) (pa_cons (pv 5) pa_nil)))) (pss_one (ps_ret (pe_str))) (pss_nil))
    (pss_cons (ps_if (pt_val (pe_mt B.c M_precedes (hr.mono (by decide)) (pv 3) (pa_cons (pv 5) (pa_cons (pv 4) pa_nil)))) (pss_one (ps_ret (pe_str))) (pss_nil))
    (pss_one (ps_ret (pe_str)))))))), ?_⟩
    refine ⟨_, rfl, a, S, rfl, hT, ok, fun x H1 s1 nx hO _ => ?_⟩
    obtain ⟨G, kvs, ms, ord, iG, N, St⟩ := hO.ord
    have idx : ∀ m, m ∈ S.map (·.2) → ∃ i, InG G i m := fun m hm => by
      obtain ⟨g, hg, hm⟩ := iG.all m hm
      obtain ⟨i, e⟩ := List.getElem?_of_mem hg
      exact ⟨i, g, e, hm⟩
    obtain ⟨i, hi⟩ := idx m1 k1
    obtain ⟨j, hj⟩ := idx m2 k2
    have lt : ∀ {i m}, InG G i m → i < (closeN ms.length ms).length := fun h => by
      obtain ⟨g, e, _⟩ := h
      rw [closeN_len, St.len]
      exact (List.getElem?_eq_some_iff.mp e).1
    have fin := q H1 G ms i j s1 iG St hi hj
    refine ⟨_, rfl, _, rfl, x, m1, G, kvs, _, i, rfl, ord, N.all i m1 hi, ?_⟩
    refine ⟨_, rfl, _, rfl, x, m2, G, kvs, _, j, rfl, ord, N.all j m2 hj, ?_⟩
    obtain ⟨dx', g', n', f', h1, _⟩ := id ord
    refine ⟨_, rfl, _, rfl, rfl, _, rfl, ite2 (fun c => ?_) (fun c => ?_)⟩
    · have e : i = j := by
        have c := V.int.inj (of_decide_eq_true c)
        omega
      have r : relOf (closeN ms.length ms) i j = "same" := by
        unfold relOf
        rw [if_pos e]
      rw [r] at fin
      exact fin
    · have e : ¬ i = j := fun z => c (decide_eq_true (by rw [z]))
      refine ⟨_, rfl, x, dx', _, rfl, h1, rfl, _, rfl, _, rfl, x, i, j, G, kvs, _, rfl, ord, lt hi, _, rfl, ite2 (fun c1 => ?_) (fun c1 => ?_)⟩
      · have r : relOf (closeN ms.length ms) i j = "before" := by
          unfold relOf
          rw [if_neg e, if_pos c1]
        rw [r] at fin
        exact fin
      · refine ⟨_, rfl, x, dx', _, rfl, h1, rfl, _, rfl, _, rfl, x, j, i, G, kvs, _, rfl, ord, lt hj, _, rfl, ite2 (fun c2 => ?_) (fun c2 => ?_)⟩
        · have r : relOf (closeN ms.length ms) i j = "after" := by
            unfold relOf
            rw [if_neg e, if_neg c1, if_pos c2]
          rw [r] at fin
          exact fin
        · have r : relOf (closeN ms.length ms) i j = "unknown" := by
            unfold relOf
            rw [if_neg e, if_neg c1, if_neg c2]
          rw [r] at fin
          exact fin
theorem ok_relation (T : Txt K mg) (B : Kls K mg C) (F : Fn K mg "relation" s_relation) (FN : Fn K mg "moment_number" s_moment_number) (G_tale_order : Df P w K mg base "tale_order" 7 ["tale"] (spOrder K C)) (M_precedes : Mt P w K mg base C "precedes" 1 ["self", "one", "other"] (spPrec C)) :
    Df P w K mg base "relation" 8 ["tale", "a", "b"] (spRel K) :=
  F.df (fun _ _ _ _ _ _ us hl => match us, hl with | [_, _, _], _ => rfl) fun _ _ F => fn_relation T B FN G_tale_order M_precedes F
end
end Lw
set_option Elab.async false
set_option linter.all false
/-! closing by rounds: behind k rounds, whom chains lead to that pass only numbers below k -/
namespace L2
section
variable (E : Nat → Nat → Prop)
inductive Thru (k : Nat) : Nat → Nat → Prop
  | edge {i j : Nat} (h : E i j) : Thru k i j
  | thru {i m j : Nat} (hm : m < k) (h : Thru k i m) (g : Thru k m j) : Thru k i j
end
variable {E : Nat → Nat → Prop}
theorem Thru.mono {k l i j : Nat} (le : k ≤ l) (h : Thru E k i j) : Thru E l i j := by
  induction h with
  | edge h => exact .edge h
  | thru hm _ _ a b => exact .thru (Nat.lt_of_lt_of_le hm le) a b
theorem Thru.succ {k i j : Nat} : Thru E (k + 1) i j ↔ Thru E k i j ∨ (Thru E k i k ∧ Thru E k k j) := by
  constructor
  · intro h
    induction h with
    | edge h => exact .inl (.edge h)
    | @thru i m j hm _ _ a b =>
      rcases Nat.lt_or_eq_of_le (Nat.le_of_lt_succ hm) with lt | rfl
      · rcases a with a | ⟨a1, a2⟩
        · rcases b with b | ⟨b1, b2⟩
          · exact .inl (.thru lt a b)
          · exact .inr ⟨.thru lt a b1, b2⟩
        · rcases b with b | ⟨_, b2⟩
          · exact .inr ⟨a1, .thru lt a2 b⟩
          · exact .inr ⟨a1, b2⟩
      · exact .inr ⟨a.elim id fun z => z.1, b.elim id fun z => z.2⟩
  · rintro (h | ⟨h, g⟩)
    · exact h.mono (Nat.le_succ k)
    · exact .thru (Nat.lt_succ_self k) (h.mono (Nat.le_succ k)) (g.mono (Nat.le_succ k))
def StepOf (ms : List Nat) (i j : Nat) : Prop := (ms.getD i 0).testBit j = true
theorem closeN_thru (ms : List Nat) : ∀ (k i j : Nat), k ≤ ms.length → i < ms.length → (((closeN k ms).getD i 0).testBit j = true ↔ Thru (StepOf ms) k i j)
  | 0, i, j, _, hi => by
    constructor
    · exact fun h => .edge h
    · intro h
      cases h with
      | edge h => exact h
      | thru hm _ _ => exact absurd hm (Nat.not_lt_zero _)
  | k + 1, i, j, hk, hi => by
    have ih := closeN_thru ms k
    rw [Thru.succ, ← ih i j (by omega) hi, ← ih i k (by omega) hi, ← ih k j (by omega) (by omega)]
    have hi' : i < (closeN k ms).length := by rw [closeN_length]; exact hi
    have e : (closeN (k + 1) ms).getD i 0 = if ((closeN k ms).getD i 0).testBit k = true then (closeN k ms).getD i 0 ||| (closeN k ms).getD k 0 else (closeN k ms).getD i 0 := by
      have ei : (closeN k ms).getD i 0 = (closeN k ms)[i] := by
        rw [List.getD_eq_getElem?_getD, List.getElem?_eq_getElem hi']
        rfl
      have q : ∀ F : Nat → Nat, ((closeN k ms).map F).getD i 0 = F (closeN k ms)[i] := fun F => by
        rw [List.getD_eq_getElem?_getD, List.getElem?_map, List.getElem?_eq_getElem hi']
        rfl
      rw [ei]
      exact q _
    rw [e]
    by_cases c : ((closeN k ms).getD i 0).testBit k = true
    · rw [if_pos c, Nat.testBit_or, Bool.or_eq_true]
      constructor
      · rintro (h | h)
        · exact .inl h
        · exact .inr ⟨c, h⟩
      · rintro (h | ⟨_, h⟩)
        · exact .inl h
        · exact .inr h
    · rw [if_neg c]
      exact ⟨.inl, fun h => h.elim id fun z => absurd z.1 c⟩
/-- a chain of steps -/
inductive Way (E : Nat → Nat → Prop) : Nat → Nat → Prop
  | one {i j : Nat} (h : E i j) : Way E i j
  | two {i m j : Nat} (h : Way E i m) (g : Way E m j) : Way E i j
theorem way_thru {n i j : Nat} (hE : ∀ i j, E i j → j < n) : Way E i j ↔ Thru E n i j := by
  have fin : ∀ {i j}, Way E i j → j < n := fun h => by
    induction h with
    | one h => exact hE _ _ h
    | two _ _ _ b => exact b
  constructor
  · intro h
    induction h with
    | one h => exact .edge h
    | two h _ a b => exact .thru (fin h) a b
  · intro h
    induction h with
    | edge h => exact .one h
    | thru _ _ _ a b => exact .two a b
theorem closed_way {ms : List Nat} (hb : ∀ i j, StepOf ms i j → j < ms.length) {i j : Nat} (hi : i < ms.length) : ((closeN ms.length ms).getD i 0).testBit j = true ↔ Way (StepOf ms) i j := by
  rw [closeN_thru ms ms.length i j (Nat.le_refl _) hi, way_thru hb]
end L2
set_option Elab.async false
set_option linter.all false
/-! what the order says of two moments, told by the links alone -/
namespace Lw
open PySem PySem.Spec PyProof.Rows L2
/-- chains of links, one of them strict at least -/
inductive Bef (L : List Lnk) : Str → Str → Prop
  | link {a b x y : Str} (h : (a, b, true) ∈ L) (h1 : Conn (sameL L) x a) (h2 : Conn (sameL L) b y) : Bef L x y
  | both {x y z : Str} (h : Bef L x y) (g : Bef L y z) : Bef L x z
section
variable {ts : List Str} {L : List Lnk} {G : List (List Str)} {ms : List Nat}
theorem inG_conn (iG : IsGroups ts (sameL L) G) {i : Nat} {x y : Str} (hx : InG G i x) : InG G i y ↔ Conn (sameL L) x y := by
  obtain ⟨g, e, mx⟩ := hx
  obtain ⟨z, M, _, _, c, p, _⟩ := iG.own g (List.mem_of_getElem? e)
  have zx : Conn (sameL L) z x := (c x).mp (p.mem_iff.mp mx)
  constructor
  · rintro ⟨g', e', my⟩
    rw [e] at e'
    cases e'
    exact zx.symm.trans ((c y).mp (p.mem_iff.mp my))
  · intro h
    exact ⟨g, e, p.mem_iff.mpr ((c y).mpr (zx.trans h))⟩
theorem inG_of (iG : IsGroups ts (sameL L) G) {x : Str} (h : x ∈ ts) : ∃ i, InG G i x := by
  obtain ⟨g, hg, hx⟩ := iG.all x h
  obtain ⟨i, e⟩ := List.getElem?_of_mem hg
  exact ⟨i, g, e, hx⟩
theorem inG_lt {i : Nat} {x : Str} (h : InG G i x) : i < G.length := by
  obtain ⟨g, e, _⟩ := h
  exact (List.getElem?_eq_some_iff.mp e).1
theorem step_lt (St : StepsOk G L ms) : ∀ i j, StepOf ms i j → j < ms.length := fun i j h => by
  obtain ⟨a, b, _, _, hb⟩ := (St.bit i j).mp h
  rw [St.len]
  exact inG_lt hb
theorem way_bef (iG : IsGroups ts (sameL L) G) (St : StepsOk G L ms) {i j : Nat} (h : Way (StepOf ms) i j) : ∀ x y, InG G i x → InG G j y → Bef L x y := by
  induction h with
  | one h =>
    intro x y hx hy
    obtain ⟨a, b, hl, ha, hb⟩ := (St.bit _ _).mp h
    exact .link hl ((inG_conn iG hx).mp ha) ((inG_conn iG hb).mp hy)
  | @two i m j h g ih1 ih2 =>
    intro x y hx hy
    have hm : ∃ z, InG G m z := by
      have last : ∀ {i m}, Way (StepOf ms) i m → ∃ z, InG G m z := fun h => by
        induction h with
        | one h =>
          obtain ⟨a, b, _, _, hb⟩ := (St.bit _ _).mp h
          exact ⟨b, hb⟩
        | two _ _ _ b => exact b
      exact last h
    obtain ⟨z, hz⟩ := hm
    exact .both (ih1 x z hx hz) (ih2 z y hz hy)
theorem bef_way (iG : IsGroups ts (sameL L) G) (St : StepsOk G L ms) (hL : ∀ l ∈ L, l.1 ∈ ts ∧ l.2.1 ∈ ts) {x y : Str} (h : Bef L x y) : ∀ i, InG G i x → ∃ j, InG G j y ∧ Way (StepOf ms) i j := by
  induction h with
  | link h h1 h2 =>
    intro i hx
    obtain ⟨j, hb⟩ := inG_of iG (hL _ h).2
    exact ⟨j, (inG_conn iG hb).mpr h2, .one ((St.bit _ _).mpr ⟨_, _, h, (inG_conn iG hx).mpr h1, hb⟩)⟩
  | both _ _ ih1 ih2 =>
    intro i hx
    obtain ⟨m, hm, w1⟩ := ih1 i hx
    obtain ⟨j, hj, w2⟩ := ih2 m hm
    exact ⟨j, hj, .two w1 w2⟩
theorem rel_same (iG : IsGroups ts (sameL L) G) {i j : Nat} {x y : Str} (hx : InG G i x) (hy : InG G j y) : i = j ↔ Conn (sameL L) x y := by
  constructor
  · rintro rfl
    exact (inG_conn iG hx).mp hy
  · exact fun h => groups_one iG ((inG_conn iG hx).mpr h) hy
theorem rel_bef (iG : IsGroups ts (sameL L) G) (St : StepsOk G L ms) (hL : ∀ l ∈ L, l.1 ∈ ts ∧ l.2.1 ∈ ts) {i j : Nat} {x y : Str} (hx : InG G i x) (hy : InG G j y) : ((closeN ms.length ms).getD i 0).testBit j = true ↔ Bef L x y := by
  rw [closed_way (step_lt St) (by rw [St.len]; exact inG_lt hx)]
  constructor
  · exact fun h => way_bef iG St h x y hx hy
  · intro h
    obtain ⟨j', hj, w⟩ := bef_way iG St hL h i hx
    rw [groups_one iG hj hy] at w
    exact w
/-- a tale is sound where no moment is before itself -/
theorem sound_of {S : List Sen} (hat : ∀ s, S[0]? = some s → s.1 = ("at" : Str)) (h : ∀ x ∈ S.map (·.2), ¬ Bef (linksL "" S) x x) : Sound S := by
  intro G ms iG St
  cases e : looped (closeN ms.length ms) with
  | false => rfl
  | true =>
    obtain ⟨k, hk, hb⟩ := List.any_eq_true.mp e
    rw [List.mem_range, closeN_len, St.len] at hk
    have eg : G[k]? = some G[k] := List.getElem?_eq_getElem hk
    obtain ⟨z, M, hz, _, c, p, _⟩ := iG.own G[k] (List.mem_of_getElem? eg)
    have hx : InG G k z := ⟨_, eg, p.mem_iff.mpr ((c z).mpr (.refl z))⟩
    exact absurd ((rel_bef iG St (fun l hl => links_in hat hl) hx hx).mp hb) (h z hz)
theorem not_sound {S : List Sen} (hat : ∀ s, S[0]? = some s → s.1 = ("at" : Str)) {G : List (List Str)} {ms : List Nat} (iG : IsGroups (S.map (·.2)) (sameL (linksL "" S)) G) (St : StepsOk G (linksL "" S) ms) {x : Str} (hx : x ∈ S.map (·.2)) (h : Bef (linksL "" S) x x) :
    looped (closeN ms.length ms) = true := by
  obtain ⟨i, hi⟩ := inG_of iG hx
  exact List.any_eq_true.mpr ⟨i, List.mem_range.mpr (by rw [closeN_len, St.len]; exact inG_lt hi), (rel_bef iG St (fun l hl => links_in hat hl) hi hi).mpr h⟩
end
end Lw
set_option Elab.async false
set_option linter.all false
/-! the least of all that chains lead to, found by rounds over the pairs -/
namespace L2
open PySem PySem.Spec PyProof.Rows TKS
def sle (x y : Str) : Prop := slt y x = false
theorem sle_refl (x : Str) : sle x x := slt_irr x
theorem sle_trans {x y z : Str} (h : sle x y) (g : sle y z) : sle x z := by
  unfold sle at *
  cases e : slt z x with
  | false => rfl
  | true =>
    by_cases c : x = y
    · rw [c, g] at e
      cases e
    · have h2 : slt x y = true := by
        cases q : slt x y with
        | true => rfl
        | false => exact absurd (slt_tri q h) c
      rw [slt_tr e h2] at g
      cases g
theorem sle_anti {x y : Str} (h : sle x y) (g : sle y x) : x = y := slt_tri g h
/-- the lesser of two -/
def smin (x y : Str) : Str := if slt y x = true then y else x
theorem smin_l (x y : Str) : sle (smin x y) x := by
  unfold smin
  split
  · rename_i c
    exact slt_as c
  · exact sle_refl x
theorem smin_r (x y : Str) : sle (smin x y) y := by
  unfold smin
  split
  · exact sle_refl y
  · rename_i c
    show slt y x = false
    cases h : slt y x with
    | false => rfl
    | true => exact absurd h c
theorem smin_or (x y : Str) : smin x y = x ∨ smin x y = y := by
  unfold smin
  split
  · exact .inr rfl
  · exact .inl rfl
abbrev Hd := Str → Str
def setH (h : Hd) (a v : Str) : Hd := fun x => if x = a then v else h x
def headOne (h : Hd) (e : Str × Str) : Hd := setH (setH h e.1 (smin (h e.1) (h e.2))) e.2 (smin (h e.1) (h e.2))
def headRound (E : List (Str × Str)) (h : Hd) : Hd := E.foldl headOne h
def headN (E : List (Str × Str)) : Nat → Hd
  | 0 => fun x => x
  | k + 1 => headRound E (headN E k)
theorem one_at (h : Hd) (e : Str × Str) (x : Str) : headOne h e x = if x = e.1 ∨ x = e.2 then smin (h e.1) (h e.2) else h x := by
  unfold headOne setH
  by_cases c : x = e.2
  · rw [if_pos c, if_pos (.inr c)]
  · rw [if_neg c]
    by_cases d : x = e.1
    · rw [if_pos d, if_pos (.inl d)]
    · rw [if_neg d, if_neg fun z => z.elim d c]
theorem one_le (h : Hd) (e : Str × Str) (x : Str) : sle (headOne h e x) (h x) := by
  rw [one_at]
  split
  · rename_i c
    rcases c with rfl | rfl
    · exact smin_l _ _
    · exact smin_r _ _
  · exact sle_refl _
theorem round_le : ∀ (E : List (Str × Str)) (h : Hd) (x : Str), sle (headRound E h x) (h x)
  | [], h, x => sle_refl _
  | e :: r, h, x => sle_trans (round_le r (headOne h e) x) (one_le h e x)
theorem round_link : ∀ (E : List (Str × Str)) (h : Hd) (e : Str × Str), e ∈ E → sle (headRound E h e.1) (h e.2) ∧ sle (headRound E h e.2) (h e.1)
  | d :: r, h, e, he => by
    rcases List.mem_cons.mp he with rfl | he
    · have a1 : headOne h e e.1 = smin (h e.1) (h e.2) := by rw [one_at, if_pos (.inl rfl)]
      have a2 : headOne h e e.2 = smin (h e.1) (h e.2) := by rw [one_at, if_pos (.inr rfl)]
      have b1 := round_le r (headOne h e) e.1
      have b2 := round_le r (headOne h e) e.2
      rw [a1] at b1
      rw [a2] at b2
      exact ⟨sle_trans b1 (smin_r _ _), sle_trans b2 (smin_l _ _)⟩
    · obtain ⟨a1, a2⟩ := round_link r (headOne h d) e he
      exact ⟨sle_trans a1 (one_le h d e.2), sle_trans a2 (one_le h d e.1)⟩
theorem one_conn {E : List (Str × Str)} {h : Hd} {e : Str × Str} (he : e ∈ E) (g : ∀ x, Conn E x (h x)) : ∀ x, Conn E x (headOne h e x) := fun x => by
  rw [one_at]
  have ed : Conn E e.1 e.2 := .edge he
  split
  · rename_i c
    rcases smin_or (h e.1) (h e.2) with q | q <;> rw [q] <;> rcases c with rfl | rfl
    · exact g _
    · exact ed.symm.trans (g _)
    · exact ed.trans (g _)
    · exact g _
  · exact g x
theorem fold_conn {E : List (Str × Str)} : ∀ (D : List (Str × Str)) (h : Hd), (∀ e ∈ D, e ∈ E) → (∀ x, Conn E x (h x)) → ∀ x, Conn E x (D.foldl headOne h x)
  | [], h, _, g => g
  | e :: r, h, s, g => fold_conn r (headOne h e) (fun d hd => s d (List.mem_cons_of_mem _ hd)) (one_conn (s e List.mem_cons_self) g)
theorem headN_conn (E : List (Str × Str)) : ∀ (k : Nat) (x : Str), Conn E x (headN E k x)
  | 0, x => .refl x
  | k + 1, x => fold_conn E (headN E k) (fun _ h => h) (headN_conn E k) x
def Edg (E : List (Str × Str)) (x y : Str) : Prop := (x, y) ∈ E ∨ (y, x) ∈ E
theorem headN_within (E : List (Str × Str)) : ∀ (k : Nat) (x y : Str), Within (Edg E) k x y → sle (headN E k y) x
  | 0, x, _, h => by
    cases (show x = _ from h)
    exact sle_refl _
  | k + 1, x, y, h => by
    rcases h with h | ⟨z, h, g⟩
    · exact sle_trans (round_le E (headN E k) y) (headN_within E k x y h)
    · have a := headN_within E k x z h
      rcases g with g | g
      · exact sle_trans (round_link E (headN E k) _ g).2 a
      · exact sle_trans (round_link E (headN E k) _ g).1 a
theorem star_trans {α : Type} {E : α → α → Prop} {x y z : α} (h : Star E x y) (g : Star E y z) : Star E x z := by
  induction g with
  | refl => exact h
  | tail _ e ih => exact .tail ih e
theorem conn_star {E : List (Str × Str)} {x y : Str} (h : Conn E x y) : Star (Edg E) x y := by
  have both : Star (Edg E) x y ∧ Star (Edg E) y x := by
    induction h with
    | refl x => exact ⟨.refl, .refl⟩
    | edge h => exact ⟨.tail .refl (.inl h), .tail .refl (.inr h)⟩
    | symm _ ih => exact ⟨ih.2, ih.1⟩
    | trans _ _ a b => exact ⟨star_trans a.1 b.1, star_trans b.2 a.2⟩
  exact both.1
/-- behind as many rounds as there are things, the head tells the class -/
theorem head_same {V : List Str} {E : List (Str × Str)} (hE : ∀ e ∈ E, e.1 ∈ V ∧ e.2 ∈ V) {x y : Str} (hx : x ∈ V) (hy : y ∈ V) : headN E V.length x = headN E V.length y ↔ Conn E x y := by
  have hV : ∀ a b, Edg E a b → b ∈ V := fun a b h => h.elim (fun h => (hE _ h).2) fun h => (hE _ h).1
  have inV : ∀ {a b}, a ∈ V → Star (Edg E) a b → b ∈ V := fun ha h => by
    induction h with
    | refl => exact ha
    | tail _ g _ => exact hV _ _ g
  have low : ∀ {a b}, a ∈ V → Conn E a b → sle (headN E V.length b) a := fun ha h => headN_within E _ _ _ (star_within hV ha (conn_star h))
  constructor
  · intro h
    exact (headN_conn E V.length x).trans (h ▸ (headN_conn E V.length y).symm)
  · intro h
    have cx := headN_conn E V.length x
    have cy := headN_conn E V.length y
    exact sle_anti (low (inV hy (conn_star cy)) (cy.symm.trans h.symm)) (low (inV hx (conn_star cx)) (cx.symm.trans h))
theorem head_in {V : List Str} {E : List (Str × Str)} (hE : ∀ e ∈ E, e.1 ∈ V ∧ e.2 ∈ V) {x : Str} (hx : x ∈ V) (k : Nat) : headN E k x ∈ V := by
  have hV : ∀ a b, Edg E a b → b ∈ V := fun a b h => h.elim (fun h => (hE _ h).2) fun h => (hE _ h).1
  have inV : ∀ {a b}, a ∈ V → Star (Edg E) a b → b ∈ V := fun ha h => by
    induction h with
    | refl => exact ha
    | tail _ g _ => exact hV _ _ g
  exact inV hx (conn_star (headN_conn E k x))
end L2
set_option Elab.async false
set_option linter.all false
/-! the law's closing: by keys, one after the other -/
namespace Lw
open PySem PySem.Spec PyProof.Rows L2
section
variable {α : Type}
inductive Via (E : α → α → Prop) (ks : List α) : α → α → Prop
  | edge {i j : α} (h : E i j) : Via E ks i j
  | thru {i m j : α} (hm : m ∈ ks) (h : Via E ks i m) (g : Via E ks m j) : Via E ks i j
variable {E : α → α → Prop}
theorem Via.mono {ks ls : List α} (s : ∀ x ∈ ks, x ∈ ls) {i j : α} (h : Via E ks i j) : Via E ls i j := by
  induction h with
  | edge h => exact .edge h
  | thru hm _ _ a b => exact .thru (s _ hm) a b
theorem Via.snoc {ks : List α} {k i j : α} : Via E (ks ++ [k]) i j ↔ Via E ks i j ∨ (Via E ks i k ∧ Via E ks k j) := by
  have up : ∀ {i j}, Via E ks i j → Via E (ks ++ [k]) i j := fun h => h.mono fun x hx => List.mem_append_left _ hx
  constructor
  · intro h
    induction h with
    | edge h => exact .inl (.edge h)
    | @thru i m j hm _ _ a b =>
      rcases List.mem_append.mp hm with hm | hm
      · rcases a with a | ⟨a1, a2⟩
        · rcases b with b | ⟨b1, b2⟩
          · exact .inl (.thru hm a b)
          · exact .inr ⟨.thru hm a b1, b2⟩
        · rcases b with b | ⟨_, b2⟩
          · exact .inr ⟨a1, .thru hm a2 b⟩
          · exact .inr ⟨a1, b2⟩
      · cases List.mem_singleton.mp hm
        exact .inr ⟨a.elim id fun z => z.1, b.elim id fun z => z.2⟩
  · rintro (h | ⟨h, g⟩)
    · exact up h
    · exact .thru (List.mem_append_right _ (List.mem_singleton.mpr rfl)) (up h) (up g)
abbrev Rel (α : Type) := α → α → Bool
def closeBy (R : Rel α) (m : α) : Rel α := fun x y => R x y || (R x m && R m y)
theorem close_via : ∀ (ks pre : List α) (R : Rel α), (∀ x y, R x y = true ↔ Via E pre x y) → ∀ x y, ks.foldl closeBy R x y = true ↔ Via E (pre ++ ks) x y
  | [], pre, R, h, x, y => by
    rw [List.append_nil]
    exact h x y
  | k :: r, pre, R, h, x, y => by
    have step : ∀ x y, closeBy R k x y = true ↔ Via E (pre ++ [k]) x y := fun x y => by
      unfold closeBy
      rw [Bool.or_eq_true, Bool.and_eq_true, h, h, h, Via.snoc]
    have g := close_via r (pre ++ [k]) (closeBy R k) step x y
    rw [List.append_assoc] at g
    exact g
inductive Chain (E : α → α → Prop) : α → α → Prop
  | one {i j : α} (h : E i j) : Chain E i j
  | two {i m j : α} (h : Chain E i m) (g : Chain E m j) : Chain E i j
theorem chain_via {ks : List α} (hE : ∀ i j, E i j → j ∈ ks) {i j : α} : Chain E i j ↔ Via E ks i j := by
  have fin : ∀ {i j}, Chain E i j → j ∈ ks := fun h => by
    induction h with
    | one h => exact hE _ _ h
    | two _ _ _ b => exact b
  constructor
  · intro h
    induction h with
    | one h => exact .edge h
    | two h _ a b => exact .thru (fin h) a b
  · intro h
    induction h with
    | edge h => exact .one h
    | thru _ _ _ a b => exact .two a b
theorem close_chain {ks : List α} {R : Rel α} (hR : ∀ i j, R i j = true → j ∈ ks) (x y : α) : ks.foldl closeBy R x y = true ↔ Chain (fun i j => R i j = true) x y := by
  rw [chain_via hR]
  refine close_via ks [] R (fun x y => ⟨fun h => .edge h, fun h => ?_⟩) x y
  cases h with
  | edge h => exact h
  | thru hm _ _ => cases hm
end
/-- heads by strict links -/
def HeadStep (hd : Hd) (L : List Lnk) (u v : Str) : Prop := ∃ a b, (a, b, true) ∈ L ∧ hd a = u ∧ hd b = v
theorem chain_bef {V : List Str} {hd : Hd} {L : List Lnk} (hL : ∀ l ∈ L, l.1 ∈ V ∧ l.2.1 ∈ V) (same : ∀ x ∈ V, ∀ y ∈ V, hd x = hd y ↔ Conn (sameL L) x y) {x y : Str} (hx : x ∈ V) (hy : y ∈ V) :
    Chain (HeadStep hd L) (hd x) (hd y) ↔ Bef L x y := by
  constructor
  · intro h
    generalize hu : hd x = u at h
    generalize hv : hd y = v at h
    induction h generalizing x y with
    | one h =>
      obtain ⟨a, b, hl, rfl, rfl⟩ := h
      obtain ⟨ma, mb⟩ := hL _ hl
      exact .link hl ((same x hx a ma).mp hu) ((same b mb y hy).mp hv.symm)
    | @two u m v h g ih1 ih2 =>
      have last : ∀ {u m}, Chain (HeadStep hd L) u m → ∃ z ∈ V, hd z = m := fun h => by
        induction h with
        | one h =>
          obtain ⟨a, b, hl, _, e⟩ := h
          exact ⟨b, (hL _ hl).2, e⟩
        | two _ _ _ b => exact b
      obtain ⟨z, hz, e⟩ := last h
      exact .both (ih1 hx hz hu e) (ih2 hz hy e hv)
  · intro h
    have memB : ∀ {x y}, Bef L x y → ∃ b ∈ V, Conn (sameL L) b y := fun h => by
      induction h with
      | link h _ h2 => exact ⟨_, (hL _ h).2, h2⟩
      | both _ _ _ b => exact b
    have inS : ∀ {b y : Str}, Conn (sameL L) b y → (b ∈ V ↔ y ∈ V) := fun h => by
      induction h with
      | refl => exact Iff.rfl
      | edge h =>
        obtain ⟨l, hl, e⟩ := List.mem_map.mp h
        cases e
        have m := hL l (List.mem_filter.mp hl).1
        exact ⟨fun _ => m.2, fun _ => m.1⟩
      | symm _ ih => exact ih.symm
      | trans _ _ a b => exact a.trans b
    induction h with
    | link hl h1 h2 =>
      obtain ⟨ma, mb⟩ := hL _ hl
      exact .one ⟨_, _, hl, ((same _ hx _ ma).mpr h1).symm, (same _ mb _ hy).mpr h2⟩
    | both h g ih1 ih2 =>
      obtain ⟨b, hb, c⟩ := memB h
      have hz := (inS c).mp hb
      exact .two (ih1 hx hz) (ih2 hz hy)
end Lw
set_option Elab.async false
set_option linter.all false
set_option maxRecDepth 100000
/-! a dict of dicts by texts: who comes after whom -/
namespace Lw
open PySem PySem.Spec PyProof.Rows L2
structure DictsAt (H : Hp) (hs : List Str) (f : Str → Addr) (R : Rel Str) : Prop where
  row : ∀ x ∈ hs, ∃ kv, H (f x) = some (.dK kv) ∧ (kv.map (·.1)).Nodup ∧ ∀ k, k ∈ kv.map (·.1) ↔ ∃ y ∈ hs, k = Sum.inr y ∧ R x y = true
structure OuterOk (kvs : List (Key × V)) (hs : List Str) (f : Str → Addr) : Prop where
  keys : kvs.map (·.1) = hs.map Sum.inr
  val : ∀ x ∈ hs, valV kvs (Sum.inr x) = some (.ref (f x))
  inj : ∀ x ∈ hs, ∀ y ∈ hs, f x = f y → x = y
theorem keys_le {hs : List Str} {R : Str → Bool} {kv : List (Key × V)} (nd : (kv.map (·.1)).Nodup) (h : ∀ k, k ∈ kv.map (·.1) ↔ ∃ y ∈ hs, k = Sum.inr y ∧ R y = true) : kv.length ≤ hs.length := by
  have e := nd.length_le_of_subset (l₂ := hs.map (Sum.inr : Str → Key)) fun k hk => by
    obtain ⟨x, hx, rfl, _⟩ := (h k).mp hk
    exact List.mem_map_of_mem hx
  rw [List.length_map, List.length_map] at e
  exact e
section
variable {H : Hp} {hs : List Str} {f : Str → Addr} {R R' : Rel Str}
theorem DictsAt.congr (D : DictsAt H hs f R) (h : ∀ x ∈ hs, ∀ y ∈ hs, R x y = R' x y) : DictsAt H hs f R' := ⟨fun x hx => by
  obtain ⟨kv, a, nd, ks⟩ := D.row x hx
  refine ⟨kv, a, nd, fun k => (ks k).trans ⟨?_, ?_⟩⟩
  · rintro ⟨y, hy, e, r⟩
    exact ⟨y, hy, e, by rw [← h x hx y hy]; exact r⟩
  · rintro ⟨y, hy, e, r⟩
    exact ⟨y, hy, e, by rw [h x hx y hy]; exact r⟩⟩
theorem DictsAt.move {H' : Hp} (D : DictsAt H hs f R) (h : ∀ x ∈ hs, ∀ o, H (f x) = some o → H' (f x) = some o) : DictsAt H' hs f R := ⟨fun x hx => by
  obtain ⟨kv, a, nd, ks⟩ := D.row x hx
  exact ⟨kv, h x hx _ a, nd, ks⟩⟩
theorem DictsAt.get (D : DictsAt H hs f R) {x m : Str} (hx : x ∈ hs) (hm : m ∈ hs) : ∃ o, DGet H (f x) (.str m) o ∧ o.isSome = R x m := by
  obtain ⟨kv, a, nd, ks⟩ := D.row x hx
  refine ⟨_, DGet.k (k := Sum.inr m) a, ?_⟩
  have e : (valV kv (Sum.inr m)).isSome = true ↔ R x m = true := by
    rw [Option.isSome_iff_exists, key_val, ks]
    constructor
    · rintro ⟨y, _, e, r⟩
      cases e
      exact r
    · exact fun r => ⟨m, hm, rfl, r⟩
  exact Bool.eq_iff_iff.mpr e
theorem DictsAt.put (D : DictsAt H hs f R) (inj : ∀ x ∈ hs, ∀ y ∈ hs, f x = f y → x = y) (few : hs.length ≤ 60) {x y : Str} (hx : x ∈ hs) (hy : y ∈ hs) (v : V) :
    ∃ H', DPut H (f x) (.str y) v H' ∧ DictsAt H' hs f (fun a b => R a b || (decide (a = x) && decide (b = y))) ∧ ∃ o, H' = upd H (f x) o := by
  obtain ⟨kv, a, nd, ks⟩ := D.row x hx
  have sz := keys_le nd ks
  refine ⟨_, DPut.k (k := Sum.inr y) a (small1000 (by omega)), ⟨fun z hz => ?_⟩, _, rfl⟩
  by_cases e : z = x
  · subst e
    refine ⟨_, upd_same, ?_, fun k => ?_⟩
    · rw [putK_keys]
      split
      · exact nd
      · rename_i c
        refine List.nodup_append.mpr ⟨nd, List.nodup_cons.mpr ⟨List.not_mem_nil, List.nodup_nil⟩, fun a ha b hb z => ?_⟩
        cases List.mem_singleton.mp hb
        exact c (z ▸ ha)
    · have step : k ∈ (putK kv (Sum.inr y) v).map (·.1) ↔ k ∈ kv.map (·.1) ∨ k = Sum.inr y := by
        rw [putK_keys]
        split
        · rename_i c
          exact ⟨.inl, fun h => h.elim id fun e => e ▸ c⟩
        · rw [List.mem_append, List.mem_singleton]
      rw [step, ks]
      constructor
      · rintro (⟨u, hu, e, r⟩ | e)
        · exact ⟨u, hu, e, by show (_ || _) = true; rw [r]; rfl⟩
        · exact ⟨y, hy, e, by show (R z y || (decide (z = z) && decide (y = y))) = true; rw [decide_eq_true rfl, decide_eq_true rfl, Bool.and_true, Bool.or_true]⟩
      · rintro ⟨u, hu, e, r⟩
        rcases (Bool.or_eq_true _ _).mp r with r | r
        · exact .inl ⟨u, hu, e, r⟩
        · have r2 := of_decide_eq_true ((Bool.and_eq_true _ _).mp r).2
          exact .inr (r2 ▸ e)
  · obtain ⟨kz, az, ndz, kz'⟩ := D.row z hz
    refine ⟨kz, by rw [upd_ne fun q => e (inj _ hz _ hx q)]; exact az, ndz, fun k => ?_⟩
    have e' : decide (z = x) = false := decide_eq_false e
    simp only [e', Bool.false_and, Bool.or_false]
    exact kz' k
theorem DictsAt.merge (D : DictsAt H hs f R) (inj : ∀ x ∈ hs, ∀ y ∈ hs, f x = f y → x = y) (few : hs.length ≤ 60) {x m : Str} (hx : x ∈ hs) (hm : m ∈ hs) :
    ∃ ks ls, H (f x) = some (.dK ks) ∧ H (f m) = some (.dK ls) ∧ ks.length + ls.length ≤ sizeLine ∧ DictsAt (upd H (f x) (.dK (mergeK ks ls))) hs f (fun a b => R a b || (decide (a = x) && R m b)) := by
  obtain ⟨kx, ax, nx, sx⟩ := D.row x hx
  obtain ⟨km, am, nm, sm⟩ := D.row m hm
  have z1 := keys_le nx sx
  have z2 := keys_le nm sm
  have h200 : (200 : Nat) ≤ sizeLine := by decide
  refine ⟨kx, km, ax, am, by omega, ⟨fun z hz => ?_⟩⟩
  by_cases e : z = x
  · subst e
    refine ⟨_, upd_same, merge_keys_nodup _ _ nx, fun k => ?_⟩
    rw [merge_keys_mem, sx, sm]
    have e' : decide (z = z) = true := decide_eq_true rfl
    simp only [e', Bool.true_and, Bool.or_eq_true]
    constructor
    · rintro (⟨u, hu, e, r⟩ | ⟨u, hu, e, r⟩)
      · exact ⟨u, hu, e, .inl r⟩
      · exact ⟨u, hu, e, .inr r⟩
    · rintro ⟨u, hu, e, r | r⟩
      · exact .inl ⟨u, hu, e, r⟩
      · exact .inr ⟨u, hu, e, r⟩
  · obtain ⟨kz, az, ndz, kz'⟩ := D.row z hz
    refine ⟨kz, by rw [upd_ne fun q => e (inj _ hz _ hx q)]; exact az, ndz, fun k => ?_⟩
    have e' : decide (z = x) = false := decide_eq_false e
    simp only [e', Bool.false_and, Bool.or_false]
    exact kz' k
end
theorem snd_inj {α β : Type} : ∀ {es : List (α × β)}, (es.map (·.2)).Nodup → ∀ {x y : α} {a : β}, (x, a) ∈ es → (y, a) ∈ es → x = y
  | [], _, _, _, _, h, _ => by cases h
  | e :: r, nd, x, y, a, h, g => by
    rw [List.map_cons, List.nodup_cons] at nd
    rcases List.mem_cons.mp h with h | h
    · rcases List.mem_cons.mp g with g | g
      · rw [← h] at g
        exact (congrArg Prod.fst g).symm
      · exact absurd (by rw [← h]; exact List.mem_map.mpr ⟨_, g, rfl⟩) nd.1
    · rcases List.mem_cons.mp g with g | g
      · exact absurd (by rw [← g]; exact List.mem_map.mpr ⟨_, h, rfl⟩) nd.1
      · exact snd_inj nd.2 h g
theorem inr_list {α β : Type} : ∀ {l : List (α ⊕ β)}, (∀ k ∈ l, ∃ x, k = Sum.inr x) → ∃ hs : List β, l = hs.map Sum.inr
  | [], _ => ⟨[], rfl⟩
  | k :: r, h => by
    obtain ⟨x, rfl⟩ := h k List.mem_cons_self
    obtain ⟨hs, e⟩ := inr_list fun j hj => h j (List.mem_cons_of_mem _ hj)
    exact ⟨x :: hs, by rw [e]; rfl⟩
def rowsV (es : List (Str × Addr)) : List (Key × V) := es.map fun e => ((Sum.inr e.1 : Key), V.ref e.2)
theorem outer_of {es : List (Str × Addr)} (nd : (es.map (·.2)).Nodup) : ∃ hs f, hs.Nodup ∧ (∀ x, x ∈ hs ↔ x ∈ es.map (·.1)) ∧ OuterOk (mergeK [] (rowsV es)) hs f ∧ ∀ x ∈ hs, (x, f x) ∈ es := by
  classical
  have ke : (rowsV es).map (·.1) = (es.map (·.1)).map Sum.inr := by
    unfold rowsV
    rw [List.map_map, List.map_map]
    rfl
  have mem : ∀ k, k ∈ (mergeK [] (rowsV es)).map (·.1) ↔ ∃ x, x ∈ es.map (·.1) ∧ Sum.inr x = k := fun k => by
    rw [merge_keys_mem, ke]
    constructor
    · rintro (h | h)
      · cases h
      · exact List.mem_map.mp h
    · exact fun h => .inr (List.mem_map.mpr h)
  obtain ⟨hs, eh⟩ := inr_list fun k hk => by
    obtain ⟨x, _, e⟩ := (mem k).mp hk
    exact ⟨x, e.symm⟩
  have ndh : hs.Nodup := by
    have n := merge_keys_nodup (rowsV es) [] List.nodup_nil
    rw [eh] at n
    exact (List.pairwise_map.mp n).imp fun h z => h (congrArg Sum.inr z)
  have mh : ∀ x, x ∈ hs ↔ x ∈ es.map (·.1) := fun x => by
    have e := mem (Sum.inr x)
    rw [eh] at e
    constructor
    · intro h
      obtain ⟨y, hy, q⟩ := e.mp (List.mem_map_of_mem h)
      cases q
      exact hy
    · intro h
      obtain ⟨y, hy, q⟩ := List.mem_map.mp (e.mpr ⟨x, h, rfl⟩)
      cases q
      exact hy
  have ex : ∀ x, x ∈ hs → ∃ a, (x, a) ∈ es ∧ valV (mergeK [] (rowsV es)) (Sum.inr x) = some (.ref a) := fun x hx => by
    obtain ⟨v, hv, q⟩ := merge_in (rowsV es) [] (k := Sum.inr x) (by rw [ke]; exact List.mem_map_of_mem ((mh x).mp hx))
    obtain ⟨e, he, q2⟩ := List.mem_map.mp hv
    cases q2
    exact ⟨e.2, he, q⟩
  let f : Str → Addr := fun x => if h : x ∈ hs then (ex x h).choose else 0
  have hf : ∀ x, x ∈ hs → (x, f x) ∈ es ∧ valV (mergeK [] (rowsV es)) (Sum.inr x) = some (.ref (f x)) := fun x hx => by
    have e : f x = (ex x hx).choose := dif_pos hx
    rw [e]
    exact (ex x hx).choose_spec
  exact ⟨hs, f, ndh, mh, ⟨eh, fun x hx => (hf x hx).2, fun x hx y hy q => snd_inj nd (hf x hx).1 (q ▸ (hf y hy).1)⟩, fun x hx => (hf x hx).1⟩
/-- behind j turns of the inner walk for m -/
def closeIn (R : Rel Str) (m : Str) (done : List Str) : Rel Str := fun a b => R a b || (decide (a ∈ done) && (R a m && R m b))
theorem closeIn_nil (R : Rel Str) (m a b : Str) : closeIn R m [] a b = R a b := by
  unfold closeIn
  rw [decide_eq_false List.not_mem_nil, Bool.false_and, Bool.or_false]
theorem closeIn_all (R : Rel Str) (m : Str) {hs : List Str} {a : Str} (h : a ∈ hs) (b : Str) : closeIn R m hs a b = closeBy R m a b := by
  unfold closeIn closeBy
  rw [decide_eq_true h, Bool.true_and]
theorem closeIn_col {R : Rel Str} {m : Str} {done : List Str} {x : Str} (h : x ∉ done) (b : Str) : closeIn R m done x b = R x b := by
  unfold closeIn
  rw [decide_eq_false h, Bool.false_and, Bool.or_false]
theorem closeIn_row (R : Rel Str) (m : Str) (done : List Str) (b : Str) : closeIn R m done m b = R m b := by
  unfold closeIn
  cases R m b <;> simp
theorem closeIn_yes {R : Rel Str} {m : Str} {done : List Str} {x : Str} (h : x ∉ done) (hx : R x m = true) (a b : Str) :
    (closeIn R m done a b || (decide (a = x) && closeIn R m done m b)) = closeIn R m (done ++ [x]) a b := by
  rw [closeIn_row]
  unfold closeIn
  by_cases e : a = x
  · subst e
    rw [decide_eq_true rfl, decide_eq_true (List.mem_append_right _ (List.mem_singleton.mpr rfl)), decide_eq_false h, hx]
    simp
  · have q : decide (a ∈ done ++ [x]) = decide (a ∈ done) := by
      rw [decide_eq_decide, List.mem_append, List.mem_singleton]
      exact ⟨fun z => z.resolve_right e, .inl⟩
    rw [decide_eq_false e, q]
    simp
theorem closeIn_no {R : Rel Str} {m : Str} {done : List Str} {x : Str} (hx : R x m = false) (a b : Str) :
    closeIn R m done a b = closeIn R m (done ++ [x]) a b := by
  unfold closeIn
  by_cases e : a = x
  · subst e
    rw [hx]
    simp
  · have q : decide (a ∈ done ++ [x]) = decide (a ∈ done) := by
      rw [decide_eq_decide, List.mem_append, List.mem_singleton]
      exact ⟨fun z => z.resolve_right e, .inl⟩
    rw [q]
end Lw
set_option Elab.async false
set_option linter.all false
set_option maxRecDepth 100000
set_option maxHeartbeats 4000000
namespace Lw
open PySem PySem.Spec PyProof.Rows L2
theorem take_next0 {α : Type} {l : List α} {i : Nat} {x : α} (h : l[i]? = some x) : l.take (i + 1) = l.take i ++ [x] := by
  rw [List.take_add_one, h]
  rfl
def spLawLinks (K : PySem.W.Frag) : Sp := fun vs H Q _ => ∃ a S, vs = [.ref a] ∧ TaleQ K H a S ∧ S.length ≤ 60 ∧ ∀ p H', Same H H' → H p = none → LinksO H' p (lawLinks "" S) → Q (.ref p) H'
section
variable {P : Program} {w : World} {K : PySem.W.Frag} {mg : Str → Option Value} {base : Heap}
theorem ok__law_links (T : Txt K mg) (F : Fn K mg "_law_links" s__law_links) : Df P w K mg base "_law_links" 1 ["sentences"] (spLawLinks K) := by
  refine F.df (fun _ _ _ _ _ _ us hl => match us, hl with | [_], _ => rfl) fun f fd F => F.ok sc__law_links (fun vs H Q E h => ?_) (fun cdv AA outer s H vs Q E hr h => ?_)
  · obtain ⟨a, S, rfl, _⟩ := h
    rfl
  · obtain ⟨a, S, rfl, ⟨xs, hq, hx⟩, hl, q⟩ := h
    refine ⟨_, pss_cons (ps_set (i := 1) sc__law_links.nd rfl (by first | exact Or.inl rfl | exact Or.inr rfl) (pe_lst (pa_nil)))
    (pss_cons (ps_set (i := 2) sc__law_links.nd rfl (by first | exact Or.inl rfl | exact Or.inr rfl) (pe_str))
    (pss_cons (ps_for PassesOwn.never rfl (pi_seq (pv 0)) (pg_tup (by rfl) (pgs_cons (pg_name (i := 3) sc__law_links.nd rfl (by first | exact Or.inl rfl | exact Or.inr rfl)) (pgs_cons (pg_name (i := 4) sc__law_links.nd rfl (by first | exact Or.inl rfl | exact Or.inr rfl)) (pgs_nil)))) (pss_cons (ps_if (pt_cmpR op_in_seq (pv 3) (pe_tup (pa_cons (pe_str) (pa_cons (pe_str) (pa_nil)))) (by rfl)) (pss_one (ps_expr (pe_bm PySem.F.plainAttrs_list PySem.F.slot_list_append PySem.F.type_list_append mt_append (pv 1) (pa_cons (pe_tup (pa_cons (pv 2) (pa_cons (pv 4) (pa_cons (pe_bl) (pa_nil))))) (pa_nil))))) (pss_one (ps_if (pt_cmpR op_in_seq (pv 3) (pe_tup (pa_cons (pe_str) (pa_cons (pe_str) (pa_nil)))) (by rfl)) (pss_one (ps_expr (pe_bm PySem.F.plainAttrs_list PySem.F.slot_list_append PySem.F.type_list_append mt_append (pv 1) (pa_cons (pe_tup (pa_cons (pv 4) (pa_cons (pv 2) (pa_cons (pe_bl) (pa_nil))))) (pa_nil))))) (pss_one (ps_if (pt_cmpR op_eq (pv 3) (pe_str) (nomark _)) (pss_one (ps_expr (pe_bm PySem.F.plainAttrs_list PySem.F.slot_list_append PySem.F.type_list_append mt_append (pv 1) (pa_cons (pe_tup (pa_cons (pv 2) (pa_cons (pv 4) (pa_cons (pe_bl) (pa_nil))))) (pa_nil))))) (pss_one (ps_expr (pe_bm PySem.F.plainAttrs_list PySem.F.slot_list_append PySem.F.type_list_append mt_append (pv 1) (pa_cons (pe_non) (pa_nil))))))))))
    (pss_one (ps_if (pt_cmpR op_in_seq (pv 3) (pe_tup (pa_cons (pe_str) (pa_cons (pe_str) (pa_cons (pe_str) (pa_nil))))) (by rfl)) (pss_one (ps_set (i := 2) sc__law_links.nd rfl (by first | exact Or.inl rfl | exact Or.inr rfl) (pv 4))) (pss_nil)))))
    (pss_one (ps_ret (pv 1))))), ?_⟩
    obtain ⟨J, G, wk, ws⟩ := seq_walk hq
    refine ⟨by show 0 ≤ sizeLine; decide, fun p np => ?_⟩
    have s0 := same_upd np (o := .lst [])
    refine ⟨_, rfl, a, J, rfl, (ws _ s0).2, for_it wk (fun i σ H' => ∃ y3 y4 pl, σ = [some (.ref a), some (.ref p), some (.str pl), y3, y4] ∧ Same H H' ∧ (("" : Str) :: standsL "" S)[i]? = some pl ∧ LinksO H' p ((lawLinks "" S).take i)) ⟨none, none, _, rfl, s0, rfl, [], upd_same, .nil⟩ (fun i σ H' _ ⟨_, _, _, _, e, _⟩ => (ws _ e).1) ?_ ?_⟩
    · rintro i x σ H0 H1 hi ⟨y3, y4, pl, rfl, s1, hpl, ls, hls, hL⟩ ⟨rfl, ex⟩
      obtain ⟨s, es, t, rfl, ht⟩ := hx.get ex
      obtain ⟨q0, f1, f2⟩ := standsL_at S "" i s es
      rw [f1] at hpl
      cases hpl
      have lt : i < S.length := (List.getElem?_eq_some_iff.mp es).1
      have ll : ls.length < sizeLine := by
        rw [hL.length, List.length_take, lawLinks_length]
        exact small1000 (by omega)
      have st := take_next0 (lawLinks_at S "" pl i s es f1)
      refine ⟨t, _, rfl, s1.seqT ht, rfl, _, _, rfl, _, _, rfl, rfl, ?_⟩
      have sec : ∀ (D : Ends) (H' : Hp), (∀ σ H', (∃ y3 y4 pl, σ = [some (V.ref a), some (V.ref p), some (V.str pl), y3, y4] ∧ Same H H' ∧ (("" : Str) :: standsL "" S)[i + 1]? = some pl ∧ LinksO H' p ((lawLinks "" S).take (i + 1))) → D.nx σ H') → Same H H' → LinksO H' p ((lawLinks "" S).take (i + 1)) →
          tIfS (tTest (tOp (rIn K false) (tVar 3) (tTup (tCons (tC (V.str "at")) (tCons (tC (V.str "then")) (tCons (tC (V.str "back")) tNil)))))) (tAsg (tVar 4) (gName 2)) tNext D [some (V.ref a), some (V.ref p), some (V.str pl), some (V.str s.1), some (V.str s.2)] H' := by
        intro D H' fin s' L'
        refine ⟨_, rfl, by show 3 ≤ sizeLine; decide, fun u nu => ⟨u, mvW, rfl, .inr (SqT.of upd_same), rfl, rfl, _, rfl, ite2 (fun c => ?_) (fun c => ?_)⟩⟩
        · have c : moving s.1 = true := c
          rw [if_pos c] at f2
          exact ⟨_, rfl, fin _ _ ⟨_, _, s.2, rfl, s'.trans (same_upd nu), f2, L'.same (same_upd nu)⟩⟩
        · have c : ¬ moving s.1 = true := c
          rw [if_neg c] at f2
          exact fin _ _ ⟨_, _, pl, rfl, s'.trans (same_upd nu), f2, L'.same (same_upd nu)⟩
      -- one more
      have add : ∀ (H2 : Hp) (y : V) (o : Option Lnk), Same H H2 → H2 p = some (.lst ls) → All2 (LnkO H2) ls ((lawLinks "" S).take i) → optOf pl s = o → LnkO H2 y o → Same H (upd H2 p (.lst (ls ++ [y]))) ∧ LinksO (upd H2 p (.lst (ls ++ [y]))) p ((lawLinks "" S).take (i + 1)) := by
        intro H2 y o s2 h2 hL2 ho hy
        have up : ∀ z k, LnkO H2 z k → LnkO (upd H2 p (.lst (ls ++ [y]))) z k := by
          rintro z (_ | l) hz
          · exact hz
          · obtain ⟨v, rfl, hv⟩ := hz
            refine ⟨v, rfl, ?_⟩
            rw [upd_ne fun q => by rw [q, h2] at hv; cases hv]
            exact hv
        refine ⟨s2.fresh np, _, upd_same, ?_⟩
        rw [st, ho]
        exact (hL2.imp up).append (.cons (up _ _ hy) .nil)
      have tupk : ∀ (H2 : Hp) (x1 x2 : V) (l : Lnk), Same H1 H2 → optOf pl s = some l → x1 = .str l.1 → x2 = .str l.2.1 → ∀ t3, H2 t3 = none →
          (upd H2 t3 (.tup [x1, x2, .bl l.2.2])) p = some (.lst ls) ∧ Same H (upd (upd H2 t3 (.tup [x1, x2, .bl l.2.2])) p (.lst (ls ++ [.ref t3]))) ∧ LinksO (upd (upd H2 t3 (.tup [x1, x2, .bl l.2.2])) p (.lst (ls ++ [.ref t3]))) p ((lawLinks "" S).take (i + 1)) := by
        rintro H2 x1 x2 l s2 ho rfl rfl t3 n3
        have s3 := s2.trans (same_upd n3 (o := .tup [.str l.1, .str l.2.1, .bl l.2.2]))
        obtain ⟨a1, a2⟩ := add _ (.ref t3) (some l) (s1.trans s3) (s3 _ _ hls) (hL.imp fun _ _ => LnkO.same s3) ho ⟨t3, rfl, upd_same⟩
        exact ⟨s3 _ _ hls, a1, a2⟩
      have len3 : 3 ≤ sizeLine := by decide
      have len2 : 2 ≤ sizeLine := by decide
      refine ⟨_, rfl, len2, fun u nu => ⟨u, fwW, rfl, .inr (SqT.of upd_same), rfl, rfl, _, rfl, ite2 (fun c => ?_) (fun c => ?_)⟩⟩
      · have c : inV (.str s.1) fwW = true := c
        have hk : optOf pl s = some (pl, s.2, true) := by
          unfold optOf linkOf
          rw [if_neg fun z => by rw [z] at c; exact absurd c (by decide), if_pos c]
          rfl
        have s2 := same_upd nu (o := .tup [.str "then", .str "later"])
        refine ⟨_, rfl, .inl ⟨rfl, _, SqL.of (s2 _ _ hls)⟩, _, rfl, _, rfl, len3, fun t3 n3 => ?_⟩
        obtain ⟨a1, a2, a3⟩ := tupk _ _ _ _ s2 hk rfl rfl t3 n3
        exact ⟨p, ls, _, rfl, rfl, a1, ll, sec _ _ (fun _ _ h => h) a2 a3⟩
      · have c : ¬ inV (.str s.1) fwW = true := c
        have s2 := same_upd nu (o := .tup [.str "then", .str "later"])
        refine ⟨_, rfl, len2, fun u2 nu2 => ⟨u2, bkW, rfl, .inr (SqT.of upd_same), rfl, rfl, _, rfl, ite2 (fun d => ?_) (fun d => ?_)⟩⟩
        · have d : inV (.str s.1) bkW = true := d
          have hk : optOf pl s = some (s.2, pl, true) := by
            unfold optOf linkOf
            rw [if_neg fun z => by rw [z] at d; exact absurd d (by decide), if_neg c, if_pos d]
            rfl
          have s3 := s2.trans (same_upd nu2 (o := .tup [.str "back", .str "earlier"]))
          refine ⟨_, rfl, .inl ⟨rfl, _, SqL.of (s3 _ _ hls)⟩, _, rfl, _, rfl, len3, fun t3 n3 => ?_⟩
          obtain ⟨a1, a2, a3⟩ := tupk _ _ _ _ s3 hk rfl rfl t3 n3
          exact ⟨p, ls, _, rfl, rfl, a1, ll, sec _ _ (fun _ _ h => h) a2 a3⟩
        · have d : ¬ inV (.str s.1) bkW = true := d
          have s3 := s2.trans (same_upd nu2 (o := .tup [.str "back", .str "earlier"]))
          refine ⟨_, rfl, rfl, _, rfl, ite2 (fun g => ?_) (fun g => ?_)⟩
          · have g : s.1 = ("with" : Str) := V.str.inj (of_decide_eq_true g)
            have hk : optOf pl s = some (pl, s.2, false) := by
              unfold optOf linkOf
              rw [if_pos g]
              rfl
            refine ⟨_, rfl, .inl ⟨rfl, _, SqL.of (s3 _ _ hls)⟩, _, rfl, _, rfl, len3, fun t3 n3 => ?_⟩
            obtain ⟨a1, a2, a3⟩ := tupk _ _ _ _ s3 hk rfl rfl t3 n3
            exact ⟨p, ls, _, rfl, rfl, a1, ll, sec _ _ (fun _ _ h => h) a2 a3⟩
          · have g : ¬ s.1 = ("with" : Str) := fun z => g (decide_eq_true (congrArg V.str z))
            have hk : optOf pl s = none := by
              unfold optOf linkOf
              rw [if_neg g, if_neg c, if_neg d]
              rfl
            obtain ⟨a2, a3⟩ := add _ .non none (s1.trans s3) (s3 _ _ hls) (hL.imp fun _ _ => LnkO.same s3) hk rfl
            exact ⟨_, rfl, .inl ⟨rfl, _, SqL.of (s3 _ _ hls)⟩, p, ls, _, rfl, rfl, s3 _ _ hls, ll, sec _ _ (fun _ _ h => h) a2 a3⟩
    · rintro σ H1 ⟨y3, y4, pl, rfl, s1, _, hL⟩
      rw [List.take_of_length_le (by rw [hx.length, lawLinks_length]; exact Nat.le_refl _)] at hL
      exact ⟨_, rfl, q p H1 s1 np hL⟩
end
end Lw
set_option Elab.async false
set_option linter.all false
set_option maxRecDepth 100000
set_option maxHeartbeats 4000000
namespace Lw
open PySem PySem.Spec PyProof.Rows L2 TKS
/-- the moments, each once, in order -/
structure NamesOf (S : List Sen) (ns : List Str) : Prop where
  srt : sortedS ns = true
  nd : ns.Nodup
  mem : ∀ m, m ∈ ns ↔ m ∈ S.map (·.2)
def spNames (K : PySem.W.Frag) : Sp := fun vs H Q _ => ∃ a S, vs = [.ref a] ∧ TaleQ K H a S ∧ S.length ≤ 60 ∧ ∀ p H' ns, Same H H' → H p = none → NamesOf S ns → H' p = some (.lst (ns.map V.str)) → Q (.ref p) H'
section
variable {P : Program} {w : World} {K : PySem.W.Frag} {mg : Str → Option Value} {base : Heap}
theorem ok__law_names (T : Txt K mg) (F : Fn K mg "_law_names" s__law_names) : Df P w K mg base "_law_names" 1 ["sentences"] (spNames K) := by
  refine F.df (fun _ _ _ _ _ _ us hl => match us, hl with | [_], _ => rfl) fun f fd F => F.ok sc__law_names (fun vs H Q E h => ?_) (fun cdv AA outer s H vs Q E hr h => ?_)
  · obtain ⟨a, S, rfl, _⟩ := h
    rfl
  · obtain ⟨a, S, rfl, ⟨xs, hq, hx⟩, hl, q⟩ := h
    refine ⟨_, pss_one (ps_ret (pe_callB (cr_sortTx rfl) (by rfl) T.m_sorted (by decide +kernel) (pa_cons (pe_callTy (cr_setTx rfl) (by rfl) T.m_set (by decide +kernel) (pa_cons (pe_lc (own := [("word", 1), ("moment", 2)]) rfl sc__law_names.nd (pi_seq (pv 0)) (blkOk_by (N := ["sentences", "word", "moment"]) (sc := defScope s__law_names) (by decide +kernel)) (fun _ _ _ _ _ => (show PG _ _ (gTup K 2 _) from pg_tup (by rfl) (pgs_cons (pg_name (i := 1) sc__law_names.nd rfl (by first | exact Or.inl rfl | exact Or.inr rfl)) (pgs_cons (pg_name (i := 2) sc__law_names.nd rfl (by first | exact Or.inl rfl | exact Or.inr rfl)) (pgs_nil))) (by rfl))) (fun _ _ _ _ _ => pts_nil) (fun _ _ _ _ _ => pv 2)) (pa_nil))) (pa_nil)))), ?_⟩
    obtain ⟨J, G, wk, ws⟩ := seq_walk hq
    refine ⟨_, rfl, a, J, rfl, (ws _ (Same.refl H)).2, fun D nD => lc_it wk (fun i H' => Same H H' ∧ H' D = some (.lst (((S.take i).map (·.2)).map V.str))) ⟨same_upd nD, upd_same⟩ (fun i H' _ h => (ws _ h.1).1) ?_ ?_⟩
    · rintro i x0 H3 H4 hi ⟨s3, hD2⟩ ⟨rfl, ex⟩
      obtain ⟨e, ee, t, rfl, ht⟩ := hx.get ex
      have hi : i < S.length := (List.getElem?_eq_some_iff.mp ee).1
      refine ⟨t, _, rfl, s3.seqT ht, rfl, _, _, rfl, _, _, rfl, rfl, rfl, yes_run ?_⟩
      refine ⟨_, rfl, _, hD2, ?_, s3.fresh nD, ?_⟩
      · rw [List.length_map, List.length_map, List.length_take]
        exact small1000 (by omega)
      · rw [upd_same, take_next0 ee, List.map_append, List.map_append]
        rfl
    · rintro H3 ⟨s3, hD2⟩
      rw [List.take_of_length_le (by rw [hx.length]; exact Nat.le_refl _)] at hD2
      have lm : (S.map (·.2)).length = S.length := List.length_map ..
      refine ⟨D, S.map (·.2), rfl, SqL.of hD2, by omega, fun E p nd mem len np => ?_⟩
      refine ⟨p, E, rfl, upd_same, by omega, fun ys r perm srt nr => ?_⟩
      have s4 := (s3.trans (same_upd np (o := TxtSet P w p E))).trans (same_upd nr (o := .lst (ys.map V.str)))
      refine q r _ ys s4 ?_ ⟨srt, perm.nodup_iff.mpr nd, fun m => by rw [perm.mem_iff, mem]⟩ upd_same
      cases h : H r with
      | none => rfl
      | some o =>
        have nr' : (upd H3 p (TxtSet P w p E)) r = none := nr
        rw [(s3.trans (same_upd np (o := TxtSet P w p E))) _ _ h] at nr'
        cases nr'
end
end Lw
set_option Elab.async false
set_option linter.all false
set_option maxRecDepth 100000
set_option maxHeartbeats 4000000
namespace Lw
open PySem PySem.Spec PyProof.Rows L2 TKS
/-- a dict of texts by texts -/
def HeadAt (H : Hp) (d : Addr) (N : List Str) (h : Hd) : Prop := ∃ kvs, H d = some (.dK kvs) ∧ (kvs.map (·.1)).Nodup ∧ (∀ k, k ∈ kvs.map (·.1) ↔ ∃ x ∈ N, k = Sum.inr x) ∧ ∀ x ∈ N, valV kvs (Sum.inr x) = some (.str (h x))
theorem dget_of {H : Hp} {d : Addr} {kvs : List (Key × V)} {k : Str} {v : V} (hd : H d = some (.dK kvs)) (e : valV kvs (Sum.inr k) = some v) : DGet H d (.str k) (some v) := by
  rw [← e]
  exact DGet.k (k := Sum.inr k) hd
theorem HeadAt.get {H : Hp} {d : Addr} {N : List Str} {h : Hd} {x : Str} (A : HeadAt H d N h) (hx : x ∈ N) : DGet H d (.str x) (some (.str (h x))) := by
  obtain ⟨kvs, hd, _, _, v⟩ := A
  exact dget_of hd (v x hx)
theorem HeadAt.same {H H' : Hp} {d : Addr} {N : List Str} {h : Hd} (s : Same H H') (A : HeadAt H d N h) : HeadAt H' d N h := by
  obtain ⟨kvs, hd, r⟩ := A
  exact ⟨kvs, s _ _ hd, r⟩
theorem HeadAt.size {N : List Str} {kvs : List (Key × V)} (nd : (kvs.map (·.1)).Nodup) (h : ∀ k, k ∈ kvs.map (·.1) ↔ ∃ x ∈ N, k = Sum.inr x) : kvs.length ≤ N.length := by
  have e := nd.length_le_of_subset (l₂ := N.map (Sum.inr : Str → Key)) fun k hk => by
    obtain ⟨x, hx, rfl⟩ := (h k).mp hk
    exact List.mem_map_of_mem hx
  rw [List.length_map, List.length_map] at e
  exact e
theorem HeadAt.put {H : Hp} {d : Addr} {N : List Str} {h : Hd} {a v : Str} (A : HeadAt H d N h) (ha : a ∈ N) (few : N.length ≤ 60) : ∃ H', DPut H d (.str a) (.str v) H' ∧ HeadAt H' d N (setH h a v) ∧ ∃ o, H' = upd H d o := by
  obtain ⟨kvs, hd, nd, ks, vs⟩ := A
  have sz := HeadAt.size nd ks
  refine ⟨_, DPut.k (k := Sum.inr a) hd (small1000 (by omega)), ⟨_, upd_same, ?_, fun k => ?_, fun x hx => ?_⟩, _, rfl⟩
  · rw [putK_keys, if_pos ((ks _).mpr ⟨a, ha, rfl⟩)]
    exact nd
  · rw [putK_keys, if_pos ((ks _).mpr ⟨a, ha, rfl⟩)]
    exact ks k
  · rw [valV_put]
    unfold setH
    by_cases e : x = a
    · rw [if_pos (congrArg Sum.inr e), if_pos e]
    · rw [if_neg (fun z => e (Sum.inr.inj z)), if_neg e]
      exact vs x hx
theorem all2_paired {α β γ : Type} {R : α → γ → Prop} {R' : α → β → Prop} {f : γ → β} (h : ∀ p x, R p x → R' p (f x)) : ∀ {ps : List α} {xs : List γ}, All2 R ps xs → Paired R' ps (xs.map f)
  | _, _, .nil => .nil
  | _, _, .cons a t => .cons (h _ _ a) (all2_paired h t)
/-- a list of pairs of one text each -/
theorem head_start {N : List Str} (H : Hp) (p : Addr) : HeadAt (upd H p (.dK (mergeK [] (N.map fun x => ((Sum.inr x : Key), V.str x))))) p N (fun x => x) := by
  have ke : (N.map fun x => ((Sum.inr x : Key), V.str x)).map (·.1) = N.map Sum.inr := by
    rw [List.map_map]
    rfl
  refine ⟨_, upd_same, merge_keys_nodup _ _ List.nodup_nil, fun k => ?_, fun x hx => ?_⟩
  · rw [merge_keys_mem, ke]
    constructor
    · rintro (h | h)
      · cases h
      · obtain ⟨x, hx, e⟩ := List.mem_map.mp h
        exact ⟨x, hx, e.symm⟩
    · rintro ⟨x, hx, rfl⟩
      exact .inr (List.mem_map_of_mem hx)
  · refine merge_fun (fun e he ek => ?_) (by rw [ke]; exact List.mem_map_of_mem hx)
    obtain ⟨y, _, rfl⟩ := List.mem_map.mp he
    exact congrArg V.str (Sum.inr.inj ek)
/-- the links told, those at the same time -/
def sameO (L : List (Option Lnk)) : List Lnk := (L.filterMap id).filter fun l => !l.2.2
def pairsO (L : List (Option Lnk)) : List (Str × Str) := (sameO L).map fun l : Lnk => (l.1, l.2.1)
def pickO : Option Lnk → List Lnk
  | none => []
  | some l => if l.2.2 = true then [] else [l]
theorem sameO_at {L : List (Option Lnk)} {i : Nat} {o : Option Lnk} (h : L[i]? = some o) : sameO (L.take (i + 1)) = sameO (L.take i) ++ pickO o := by
  unfold sameO
  rw [List.take_add_one, h, Option.toList_some, List.filterMap_append, List.filter_append]
  congr 1
  cases o with
  | none => rfl
  | some l =>
    show (List.filter _ [l]) = if l.2.2 = true then [] else [l]
    cases hb : l.2.2 <;> simp [List.filter, hb]
/-- the links told, the strict ones -/
def strictO (L : List (Option Lnk)) : List Lnk := (L.filterMap id).filter fun l => l.2.2
def pickS : Option Lnk → List Lnk
  | none => []
  | some l => if l.2.2 = true then [l] else []
theorem strictO_at {L : List (Option Lnk)} {i : Nat} {o : Option Lnk} (h : L[i]? = some o) : strictO (L.take (i + 1)) = strictO (L.take i) ++ pickS o := by
  unfold strictO
  rw [List.take_add_one, h, Option.toList_some, List.filterMap_append, List.filter_append]
  congr 1
  cases o with
  | none => rfl
  | some l =>
    show (List.filter _ [l]) = if l.2.2 = true then [l] else []
    cases hb : l.2.2 <;> simp [List.filter, hb]
def addS (hd : Hd) (R : Rel Str) (l : Lnk) : Rel Str := fun a b => R a b || (decide (a = hd l.1) && decide (b = hd l.2.1))
def relS (hd : Hd) (L : List Lnk) : Rel Str := L.foldl (addS hd) fun _ _ => false
theorem foldS {hd : Hd} {x y : Str} : ∀ (L : List Lnk) (R : Rel Str), L.foldl (addS hd) R x y = true ↔ R x y = true ∨ ∃ l ∈ L, x = hd l.1 ∧ y = hd l.2.1
  | [], R => ⟨.inl, fun h => h.elim id fun ⟨_, h, _⟩ => nomatch h⟩
  | l :: r, R => by
    rw [List.foldl_cons, foldS r]
    unfold addS
    rw [Bool.or_eq_true, Bool.and_eq_true, decide_eq_true_eq, decide_eq_true_eq, or_assoc]
    refine or_congr Iff.rfl ⟨?_, ?_⟩
    · rintro (h | ⟨k, hk, h⟩)
      · exact ⟨l, List.mem_cons_self, h⟩
      · exact ⟨k, List.mem_cons_of_mem _ hk, h⟩
    · rintro ⟨k, hk, h⟩
      rcases List.mem_cons.mp hk with rfl | hk
      · exact .inl h
      · exact .inr ⟨k, hk, h⟩
theorem relS_step {hd : Hd} {L : List (Option Lnk)} {x y : Str} : relS hd (strictO L) x y = true ↔ HeadStep hd (L.filterMap id) x y := by
  unfold relS
  rw [foldS]
  constructor
  · rintro (h | ⟨l, hl, rfl, rfl⟩)
    · cases h
    · obtain ⟨h1, h2⟩ := List.mem_filter.mp hl
      refine ⟨l.1, l.2.1, ?_, rfl, rfl⟩
      have e : l = (l.1, l.2.1, true) := by
        have h2 : l.2.2 = true := h2
        rw [← h2]
      rw [← e]
      exact h1
  · rintro ⟨a, b, h, rfl, rfl⟩
    exact .inr ⟨(a, b, true), List.mem_filter.mpr ⟨h, rfl⟩, rfl, rfl⟩
theorem HeadAt.move {H H' : Hp} {d : Addr} {N : List Str} {h : Hd} (A : HeadAt H d N h) (s : ∀ o, H d = some o → H' d = some o) : HeadAt H' d N h := by
  obtain ⟨kvs, hd, r⟩ := A
  exact ⟨kvs, s _ hd, r⟩
/-- who comes after whom, by heads -/
def AfterAt (H : Hp) (d : Addr) (hs : List Str) (R : Rel Str) : Prop := ∃ kvs f, H d = some (.dK kvs) ∧ OuterOk kvs hs f ∧ DictsAt H hs f R ∧ ∀ x ∈ hs, f x ≠ d
/-- the law's model of links over names -/
structure ModelAt (H : Hp) (p : Addr) (N : List Str) (L : List Lnk) : Prop where
  ex : ∃ (d1 d2 : Addr) (hd : Hd) (hs : List Str) (R : Rel Str), H p = some (.tup [.ref d1, .ref d2]) ∧ HeadAt H d1 N hd ∧ AfterAt H d2 hs R ∧ hs.length ≤ 60 ∧ (∀ x, x ∈ hs ↔ ∃ y ∈ N, hd y = x) ∧
    (∀ x ∈ N, ∀ y ∈ N, hd x = hd y ↔ Conn (sameL L) x y) ∧ (∀ x ∈ N, ∀ y ∈ N, R (hd x) (hd y) = true ↔ Bef L x y) ∧ (∀ x ∈ N, hd x ∈ N) ∧ d1 ≠ d2 ∧ hs.Nodup
/-- all but the heads' own dicts is kept -/
def SameF (hs : List Str) (f : Str → Addr) (H H' : Hp) : Prop := ∀ b o, (∀ x ∈ hs, b ≠ f x) → H b = some o → H' b = some o
theorem SameF.refl {hs : List Str} {f : Str → Addr} {H : Hp} : SameF hs f H H := fun _ _ _ h => h
theorem SameF.upd {hs : List Str} {f : Str → Addr} {H H' : Hp} (s : SameF hs f H H') {x : Str} (hx : x ∈ hs) {o : HO} : SameF hs f H (upd H' (f x) o) := fun b o n h => by
  rw [upd_ne (n x hx)]
  exact s b o n h
section
variable {P : Program} {w : World} {K : PySem.W.Frag} {mg : Str → Option Value} {base : Heap}
def spOrd1 : Sp := fun vs H Q _ => ∃ (a b : Addr) (N : List Str) (Lo : List (Option Lnk)), vs = [.ref a, .ref b] ∧ H a = some (.lst (N.map V.str)) ∧ N.length ≤ 60 ∧ LinksO H b Lo ∧ Lo.length ≤ 60 ∧ (∀ l ∈ Lo.filterMap id, l.1 ∈ N ∧ l.2.1 ∈ N) ∧
  ∀ p H', Same H H' → H p = none → ModelAt H' p N (Lo.filterMap id) → Q (.ref p) H'
theorem ok__law_order (T : Txt K mg) (F : Fn K mg "_law_order" s__law_order) : Df P w K mg base "_law_order" 1 ["names", "links"] spOrd1 := by
  refine F.df (fun _ _ _ _ _ _ us hl => match us, hl with | [_, _], _ => rfl) fun f fd F => F.ok sc__law_order (fun vs H Q E h => ?_) (fun cdv AA outer s H vs Q E hr h => ?_)
  · obtain ⟨a, b, N, Lo, rfl, _⟩ := h
    rfl
  · obtain ⟨a, b, N, Lo, rfl, ha, few, hb, fewL, hin, q⟩ := h
    have hu := Nat.lt_of_le_of_lt (Nat.add_le_add_left (by decide : 1 ≤ 64) _) hr.units
    refine ⟨_, pss_cons (ps_set (i := 2) sc__law_order.nd rfl (by first | exact Or.inl rfl | exact Or.inr rfl) (pe_callTy (call_dictP rfl) (by rfl) T.m_dict (by decide +kernel) (pa_cons (pe_lc (own := [("name", 3)]) rfl sc__law_order.nd (pi_list (pv 0)) (blkOk_by (N := ["names", "links", "head", "name", "turn", "one", "other", "strict", "link", "least", "after", "middle"]) (sc := defScope s__law_order) (by decide +kernel)) (fun _ _ _ _ _ => pg_name (i := 3) sc__law_order.nd rfl (by first | exact Or.inl rfl | exact Or.inr rfl)) (fun _ _ _ _ _ => pts_nil) (fun _ _ _ _ _ => pe_tup (pa_cons (pv 3) (pa_cons (pv 3) (pa_nil))))) (pa_nil))))
    (pss_cons (ps_for PassesOwn.never rfl (pi_list (pv 0)) (pg_name (i := 4) sc__law_order.nd rfl (by first | exact Or.inl rfl | exact Or.inr rfl)) (pss_one (ps_for PassesOwn.never rfl (pi_list (pe_lc (own := [("link", 8)]) rfl sc__law_order.nd (pi_list (pv 1)) (blkOk_by (N := ["names", "links", "head", "name", "turn", "one", "other", "strict", "link", "least", "after", "middle"]) (sc := defScope s__law_order) (by decide +kernel)) (fun _ _ _ _ _ => pg_name (i := 8) sc__law_order.nd rfl (by first | exact Or.inl rfl | exact Or.inr rfl)) (fun _ _ _ _ _ => pts_one (PW.pt (pw_and (pt_cmpR op_notN (pv 8) (pe_non) (nomark _)) (pw_and1 (pt_not (pt_val (pe_ix (show IxR _ (rIxT K) from ix_tup) (pv 8) (pe_int) (fun _ _ => rfl)))))))) (fun _ _ _ _ _ => pv 8))) (pg_tup (by rfl) (pgs_cons (pg_name (i := 5) sc__law_order.nd rfl (by first | exact Or.inl rfl | exact Or.inr rfl)) (pgs_cons (pg_name (i := 6) sc__law_order.nd rfl (by first | exact Or.inl rfl | exact Or.inr rfl)) (pgs_cons (pg_name (i := 7) sc__law_order.nd rfl (by first | exact Or.inl rfl | exact Or.inr rfl)) (pgs_nil))))) (pss_cons (ps_set (i := 9) sc__law_order.nd rfl (by first | exact Or.inl rfl | exact Or.inr rfl) (pe_callB (cr_minTx rfl) (by rfl) T.m_min (by decide +kernel) (pa_cons (pe_dget hu (pv 2) (pv 5) (fun _ _ => rfl)) (pa_cons (pe_dget hu (pv 2) (pv 6) (fun _ _ => rfl)) (pa_nil)))))
    (pss_one (ps_asg (pe_tup (pa_cons (pv 9) (pa_cons (pv 9) (pa_nil)))) (pg_tup (by rfl) (pgs_cons (pg_sub (pv 2) (pv 5) (set_dict hu)) (pgs_cons (pg_sub (pv 2) (pv 6) (set_dict hu)) (pgs_nil))))))))))
    (pss_cons (ps_set (i := 10) sc__law_order.nd rfl (by first | exact Or.inl rfl | exact Or.inr rfl) (pe_callTy (call_dictP rfl) (by rfl) T.m_dict (by decide +kernel) (pa_cons (pe_lc (own := [("name", 3)]) rfl sc__law_order.nd (pi_list (pv 0)) (blkOk_by (N := ["names", "links", "head", "name", "turn", "one", "other", "strict", "link", "least", "after", "middle"]) (sc := defScope s__law_order) (by decide +kernel)) (fun _ _ _ _ _ => pg_name (i := 3) sc__law_order.nd rfl (by first | exact Or.inl rfl | exact Or.inr rfl)) (fun _ _ _ _ _ => pts_nil) (fun _ _ _ _ _ => pe_tup (pa_cons (pe_dget hu (pv 2) (pv 3) (fun _ _ => rfl)) (pa_cons (pe_dnewK) (pa_nil))))) (pa_nil))))
    (pss_cons (ps_for PassesOwn.never rfl (pi_list (pe_lc (own := [("link", 8)]) rfl sc__law_order.nd (pi_list (pv 1)) (blkOk_by (N := ["names", "links", "head", "name", "turn", "one", "other", "strict", "link", "least", "after", "middle"]) (sc := defScope s__law_order) (by decide +kernel)) (fun _ _ _ _ _ => pg_name (i := 8) sc__law_order.nd rfl (by first | exact Or.inl rfl | exact Or.inr rfl)) (fun _ _ _ _ _ => pts_one (PW.pt (pw_and (pt_cmpR op_notN (pv 8) (pe_non) (nomark _)) (pw_and1 (pt_val (pe_ix (show IxR _ (rIxT K) from ix_tup) (pv 8) (pe_int) (fun _ _ => rfl))))))) (fun _ _ _ _ _ => pv 8))) (pg_tup (by rfl) (pgs_cons (pg_name (i := 5) sc__law_order.nd rfl (by first | exact Or.inl rfl | exact Or.inr rfl)) (pgs_cons (pg_name (i := 6) sc__law_order.nd rfl (by first | exact Or.inl rfl | exact Or.inr rfl)) (pgs_cons (pg_name (i := 7) sc__law_order.nd rfl (by first | exact Or.inl rfl | exact Or.inr rfl)) (pgs_nil))))) (pss_one (ps_dput hu (pe_dget hu (pv 10) (pe_dget hu (pv 2) (pv 5) (fun _ _ => rfl)) (fun _ _ => rfl)) (pe_dget hu (pv 2) (pv 6) (fun _ _ => rfl)) (pe_bl) rfl)))
    (pss_cons (ps_lock (ps_for PassesOwn.never rfl (pi_keys (pv 10)) (pg_name (i := 11) sc__law_order.nd rfl (by first | exact Or.inl rfl | exact Or.inr rfl)) (pss_one (ps_for PassesOwn.never rfl (pi_keys (pv 10)) (pg_name (i := 5) sc__law_order.nd rfl (by first | exact Or.inl rfl | exact Or.inr rfl)) (pss_one (ps_if (pt_cmp (pc_din hu (pv 11) (pe_dget hu (pv 10) (pv 5) (fun _ _ => rfl)))) (pss_one (ps_expr (pe_bm PySem.F.plainAttrs_dict PySem.F.slot_dict_update PySem.F.type_dict_update mt_updateS (pe_dget hu (pv 10) (pv 5) (fun _ _ => rfl)) (pa_cons (pe_dget hu (pv 10) (pv 11) (fun _ _ => rfl)) (pa_nil))))) (pss_nil)))))))
    (pss_one (ps_ret (pe_tup (pa_cons (pv 2) (pa_cons (pv 10) (pa_nil)))))))))), ?_⟩
    refine ⟨.ref a, rfl, a, rfl, ⟨_, SqL.of ha⟩, fun D nD => lc_it (walk_list (K := K) (a := a) (xs := N.map V.str)) (fun i H' => Same H H' ∧ ∃ ps : List Addr, H' D = some (.lst (ps.map V.ref)) ∧ All2 (fun p x => H' p = some (.tup [.str x, .str x])) ps (N.take i)) ⟨same_upd nD, [], upd_same, .nil⟩ (fun i H' _ h => SqL.of (h.1 _ _ ha)) ?_ ?_⟩
    · rintro i x H0 H1 hi ⟨s1, ps, hD, hps⟩ ⟨rfl, ex⟩
      obtain ⟨t, ht, rfl⟩ : ∃ t, N[i]? = some t ∧ V.str t = x := by
        rw [List.getElem?_map] at ex
        cases e : N[i]? with
        | none => rw [e] at ex; cases ex
        | some t => rw [e] at ex; exact ⟨t, rfl, Option.some.inj ex⟩
      refine ⟨rfl, yes_run ?_⟩
      refine ⟨_, rfl, _, rfl, by show 2 ≤ sizeLine; decide, fun u nu => ⟨ps.map V.ref, (same_upd nu) _ _ hD, ?_, (s1.trans (same_upd nu)).fresh nD, ps ++ [u], ?_, ?_⟩⟩
      · rw [List.length_map, hps.length, List.length_take]
        exact small1000 (by omega)
      · rw [upd_same, List.map_append]
        rfl
      · rw [take_next0 ht]
        have uD : u ≠ D := fun z => by rw [z, hD] at nu; cases nu
        refine (hps.imp fun p x hp => ?_).append (.cons (by rw [upd_ne uD, upd_same]) .nil)
        have pD : p ≠ D := fun z => by rw [z, hD] at hp; cases hp
        rw [upd_ne pD]
        exact (same_upd nu) _ _ hp
    · rintro H1 ⟨s1, ps, hD, hps⟩
      rw [List.take_of_length_le (by rw [List.length_map]; exact Nat.le_refl _)] at hps
      refine ⟨D, ps, N.map (fun x => (Sum.inr x, V.str x)), rfl, SqL.of hD, all2_paired (R' := fun p (kv : Key × V) => SqT K H1 p [kV kv.1, kv.2]) (f := fun x => (Sum.inr x, V.str x)) (fun p x h => SqT.of h) hps, fun p np => ?_⟩
      have s2 := s1.trans (same_upd np (o := .dK (mergeK [] (N.map fun x => ((Sum.inr x : Key), V.str x)))))
      have hd0 := head_start (N := N) H1 p
      have np' : H p = none := by
        cases h : H p with
        | none => rfl
        | some o => rw [s1 _ _ h] at np; cases np
      generalize upd H1 p (.dK (mergeK [] (N.map fun x => ((Sum.inr x : Key), V.str x)))) = H2 at s2 hd0
      obtain ⟨ls, hls, hL⟩ := hb
      refine ⟨.ref a, rfl, a, rfl, ⟨_, SqL.of (s2 _ _ ha)⟩, for_it (walk_list (K := K) (a := a) (xs := N.map V.str))
        (fun i σ H' => ∃ y3 y4 y5 y6 y7 y8 y9, σ = [some (.ref a), some (.ref b), some (.ref p), y3, y4, y5, y6, y7, y8, y9, none, none] ∧ Same H H' ∧ HeadAt H' p N (headN (pairsO Lo) i))
        ⟨none, none, none, none, none, none, none, rfl, s2, hd0⟩ (fun i σ H' _ ⟨_, _, _, _, _, _, _, _, e, _⟩ => SqL.of (e _ _ ha)) ?_ ?_⟩
      · rintro i x σ H0 H3 hi ⟨y3, y4, y5, y6, y7, y8, y9, rfl, s3, hd⟩ ⟨rfl, ex⟩
        refine ⟨_, rfl, b, rfl, ⟨_, SqL.of (s3 _ _ hls)⟩, fun D2 nD2 => lc_it (walk_list (K := K) (a := b) (xs := ls)) (fun k H' => Same H3 H' ∧ ∃ zs, H' D2 = some (.lst zs) ∧ All2 (LnkAt H') zs (sameO (Lo.take k)) ∧ zs.length ≤ k) ⟨same_upd nD2, [], upd_same, .nil, Nat.zero_le _⟩ (fun k H' _ h => SqL.of (h.1 _ _ (s3 _ _ hls))) ?_ ?_⟩
        · rintro k z H4 H5 hk ⟨s4, zs, hzs, hZ, lz⟩ ⟨rfl, ez⟩
          obtain ⟨o, eo, ho⟩ := hL.get ez
          have st := sameO_at eo
          have kl : k < Lo.length := (List.getElem?_eq_some_iff.mp eo).1
          refine ⟨rfl, ?_⟩
          cases o with
          | none =>
            cases (show z = .non from ho)
            refine ⟨_, rfl, rfl, false, by rw [decide_eq_true rfl]; rfl, iteF (iteF ⟨s4, zs, hzs, ?_, by omega⟩)⟩
            rw [st]
            show All2 _ zs (_ ++ [])
            rw [List.append_nil]
            exact hZ
          | some l =>
            obtain ⟨t, rfl, ht⟩ := ho
            have ht5 := s4 _ _ (s3 _ _ ht)
            refine ⟨_, rfl, rfl, true, by rw [decide_eq_false nofun]; rfl, iteT ?_⟩
            refine ⟨_, rfl, t, _, _, .bl l.2.2, rfl, rfl, SqT.of ht5, rfl, l.2.2, rfl, ?_⟩
            refine ite2 (fun c => ?_) (fun c => ?_)
            · have c : l.2.2 = false := by
                cases h : l.2.2 with
                | false => rfl
                | true => rw [h] at c; exact absurd c (by decide)
              refine ⟨_, rfl, zs, hzs, small1000 (by omega), s4.fresh nD2, _, upd_same, ?_, by rw [List.length_append]; show zs.length + 1 ≤ _; omega⟩
              have up : ∀ y e, LnkAt H5 y e → LnkAt (upd H5 D2 (.lst (zs ++ [.ref t]))) y e := by
                rintro y e ⟨v, rfl, hv⟩
                exact ⟨v, rfl, by rw [upd_ne fun q => by rw [q, hzs] at hv; cases hv]; exact hv⟩
              rw [st]
              show All2 _ _ (_ ++ if l.2.2 = true then [] else [l])
              rw [c]
              exact (hZ.imp up).append (.cons (up _ _ ⟨t, rfl, ht5⟩) .nil)
            · have c : l.2.2 = true := by
                cases h : l.2.2 with
                | true => rfl
                | false => rw [h] at c; exact absurd rfl c
              refine ⟨s4, zs, hzs, ?_, by omega⟩
              rw [st]
              show All2 _ zs (_ ++ if l.2.2 = true then [] else [l])
              rw [if_pos c, List.append_nil]
              exact hZ
        · rintro H4 ⟨s4, zs, hzs, hZ, lz⟩
          rw [List.take_of_length_le (by rw [hL.length]; exact Nat.le_refl _)] at hZ
          have pD2 : D2 ≠ p := fun z => by
            obtain ⟨kvs, hk, _⟩ := hd
            rw [z, hk] at nD2
            cases nD2
          have sH4 := s3.trans s4
          have inS : ∀ l ∈ sameO Lo, l.1 ∈ N ∧ l.2.1 ∈ N := fun l hl => hin l (List.mem_filter.mp hl).1
          refine ⟨D2, rfl, ⟨_, SqL.of hzs⟩, for_it (walk_list (K := K) (a := D2) (xs := zs))
            (fun j σ H' => ∃ y3 y4 y5 y6 y7 y8 y9, σ = [some (V.ref a), some (V.ref b), some (V.ref p), y3, y4, y5, y6, y7, y8, y9, none, none] ∧ SameB p H4 H' ∧ HeadAt H' p N (((pairsO Lo).take j).foldl headOne (headN (pairsO Lo) i)))
            ⟨_, _, _, _, _, _, _, rfl, SameB.refl, hd.same s4⟩ (fun j σ H' _ ⟨_, _, _, _, _, _, _, _, e, _⟩ => SqL.of (e _ _ pD2 hzs)) ?_ ?_⟩
          · rintro j z σ H5 H6 hj ⟨y3, y4, y5, y6, y7, y8, y9, rfl, sb, A⟩ ⟨rfl, ez⟩
            obtain ⟨l, el, t, rfl, ht⟩ := hZ.get ez
            obtain ⟨m1, m2⟩ := inS l (List.mem_of_getElem? el)
            have tp : t ≠ p := fun z => by
              obtain ⟨kvs, hk, _⟩ := hd.same s4
              rw [z, hk] at ht
              cases ht
            refine ⟨t, _, rfl, SqT.of (sb _ _ tp ht), rfl, _, _, rfl, _, _, rfl, _, _, rfl, rfl, ?_⟩
            refine ⟨_, rfl, _, rfl, p, _, rfl, A.get m1, _, rfl, _, rfl, p, _, rfl, A.get m2, _, _, rfl, ?_⟩
            refine ⟨_, rfl, _, rfl, by show 2 ≤ sizeLine; decide, fun u nu => ⟨u, _, rfl, .inl (.inl upd_same), rfl, _, _, rfl, _, rfl, _, rfl, ?_⟩⟩
            have ep : (pairsO Lo)[j]? = some (l.1, l.2.1) := by
              unfold pairsO
              rw [List.getElem?_map, el]
              rfl
            have A1 := A.same (same_upd nu (o := .tup [.str (smin (((pairsO Lo).take j).foldl headOne (headN (pairsO Lo) i) l.1) (((pairsO Lo).take j).foldl headOne (headN (pairsO Lo) i) l.2.1)), .str (smin (((pairsO Lo).take j).foldl headOne (headN (pairsO Lo) i) l.1) (((pairsO Lo).take j).foldl headOne (headN (pairsO Lo) i) l.2.1))]))
            obtain ⟨H7, put1, A2, o1, e7⟩ := A1.put (v := smin (((pairsO Lo).take j).foldl headOne (headN (pairsO Lo) i) l.1) (((pairsO Lo).take j).foldl headOne (headN (pairsO Lo) i) l.2.1)) m1 few
            obtain ⟨H8, put2, A3, o2, e8⟩ := A2.put (v := smin (((pairsO Lo).take j).foldl headOne (headN (pairsO Lo) i) l.1) (((pairsO Lo).take j).foldl headOne (headN (pairsO Lo) i) l.2.1)) m2 few
            refine ⟨p, H7, rfl, put1, _, _, rfl, _, rfl, _, rfl, p, H8, rfl, put2, rfl, ?_⟩
            refine ⟨_, _, _, _, _, _, _, rfl, ((sb.trans (same_upd nu).but).trans (e7 ▸ SameB.upd)).trans (e8 ▸ SameB.upd), ?_⟩
            rw [List.take_add_one, ep, Option.toList_some, List.foldl_append]
            exact A3
          · rintro σ H5 ⟨y3, y4, y5, y6, y7, y8, y9, rfl, sb, A⟩
            rw [List.take_of_length_le (by rw [hZ.length]; exact Nat.le_of_eq (List.length_map ..))] at A
            refine ⟨_, _, _, _, _, _, _, rfl, fun b' o e => ?_, A⟩
            exact sb b' o (ne_of_none e np') (sH4 _ _ e)
      · rintro σ H3 ⟨y3, y4, y5, y6, y7, y8, y9, rfl, s3, hd⟩
        rw [List.length_map] at hd
        have hE : ∀ e ∈ pairsO Lo, e.1 ∈ N ∧ e.2 ∈ N := fun e he => by
          obtain ⟨l, hl, rfl⟩ := List.mem_map.mp he
          exact hin l (List.mem_filter.mp hl).1
        have hsame : ∀ x ∈ N, ∀ y ∈ N, headN (pairsO Lo) N.length x = headN (pairsO Lo) N.length y ↔ Conn (sameL (Lo.filterMap id)) x y := fun x hx y hy => head_same hE hx hy
        have hinN : ∀ x ∈ N, headN (pairsO Lo) N.length x ∈ N := fun x hx => head_in hE hx _
        generalize headN (pairsO Lo) N.length = hN at hd hsame hinN
        refine ⟨.ref a, rfl, a, rfl, ⟨_, SqL.of (s3 _ _ ha)⟩, fun D3 nD3 => lc_it (walk_list (K := K) (a := a) (xs := N.map V.str)) (fun i H' => Same H3 H' ∧ ∃ (ps : List Addr) (es : List (Str × Addr)), H' D3 = some (.lst (ps.map V.ref)) ∧
          All2 (fun p e => H' p = some (.tup [.str e.1, .ref e.2])) ps es ∧ es.map (·.1) = (N.take i).map hN ∧ (es.map (·.2)).Nodup ∧ ∀ e ∈ es, H' e.2 = some (.dK []) ∧ H3 e.2 = none ∧ e.2 ≠ D3) ⟨same_upd nD3, [], [], upd_same, .nil, rfl, List.nodup_nil, nofun⟩ (fun i H' _ h => SqL.of (h.1 _ _ (s3 _ _ ha))) ?_ ?_⟩
        · rintro i x H4 H5 hi ⟨s4, ps, es, hD, hps, he, ndu, hes⟩ ⟨rfl, ex⟩
          obtain ⟨t, ht, rfl⟩ : ∃ t, N[i]? = some t ∧ V.str t = x := by
            rw [List.getElem?_map] at ex
            cases e : N[i]? with
            | none => rw [e] at ex; cases ex
            | some t => rw [e] at ex; exact ⟨t, rfl, Option.some.inj ex⟩
          have mt : t ∈ N := List.mem_of_getElem? ht
          refine ⟨rfl, yes_run ?_⟩
          refine ⟨_, rfl, _, rfl, p, _, rfl, (hd.same s4).get mt, fun u nu => ⟨by show 2 ≤ sizeLine; decide, fun v nv => ⟨ps.map V.ref, (same_upd nv) _ _ ((same_upd nu) _ _ hD), ?_, ((s4.trans (same_upd nu)).trans (same_upd nv)).fresh nD3, ps ++ [v], es ++ [(hN t, u)], ?_, ?_, ?_, ?_, ?_⟩⟩⟩
          · rw [List.length_map, hps.length, ← List.length_map (f := fun e : Str × Addr => e.1), he, List.length_map, List.length_take]
            exact small1000 (by omega)
          · rw [upd_same, List.map_append]
            rfl
          · have vD : v ≠ D3 := fun z => by rw [z, (same_upd nu) _ _ hD] at nv; cases nv
            refine (hps.imp fun p x hp => ?_).append (.cons (by rw [upd_ne vD, upd_same]) .nil)
            have pD : p ≠ D3 := fun z => by rw [z, hD] at hp; cases hp
            rw [upd_ne pD]
            exact (same_upd nv) _ _ ((same_upd nu) _ _ hp)
          · rw [take_next0 ht, List.map_append, List.map_append, he]
            rfl
          · rw [List.map_append]
            refine List.nodup_append.mpr ⟨ndu, List.nodup_cons.mpr ⟨List.not_mem_nil, List.nodup_nil⟩, fun a ha b hb z => ?_⟩
            obtain rfl : b = u := List.mem_singleton.mp hb
            subst z
            obtain ⟨e, he, rfl⟩ := List.mem_map.mp ha
            rw [(hes e he).1] at nu
            cases nu
          · intro e me
            rcases List.mem_append.mp me with me | me
            · obtain ⟨e1, e2, e3⟩ := hes e me
              refine ⟨?_, e2, e3⟩
              rw [upd_ne e3]
              exact (same_upd nv) _ _ ((same_upd nu) _ _ e1)
            · cases List.mem_singleton.mp me
              have uD : u ≠ D3 := fun z => by rw [z, hD] at nu; cases nu
              refine ⟨?_, ?_, uD⟩
              · show (upd _ D3 _) u = _
                rw [upd_ne uD]
                exact (same_upd nv) _ _ upd_same
              · show H3 u = none
                cases h : H3 u with
                | none => rfl
                | some o => rw [s4 _ _ h] at nu; cases nu
        · rintro H4 ⟨s4, ps, es, hD, hps, he, ndu, hes⟩
          rw [List.take_of_length_le (by rw [List.length_map]; exact Nat.le_refl _)] at he
          obtain ⟨hs, f, ndh, mh, ok, hf⟩ := outer_of ndu
          refine ⟨D3, ps, rowsV es, rfl, SqL.of hD, all2_paired (R' := fun p (kv : Key × V) => SqT K H4 p [kV kv.1, kv.2]) (f := fun e : Str × Addr => ((Sum.inr e.1 : Key), V.ref e.2)) (fun p e h => SqT.of h) hps, fun d nd => ?_⟩
          have s5 := s4.trans (same_upd nd (o := .dK (mergeK [] (rowsV es))))
          have hd5 : (upd H4 d (.dK (mergeK [] (rowsV es)))) d = some (.dK (mergeK [] (rowsV es))) := upd_same
          have fd : ∀ x ∈ hs, f x ≠ d := fun x hx z => by
            have e := (hes _ (hf x hx)).1
            rw [show (x, f x).2 = d from z, nd] at e
            cases e
          have f3 : ∀ x ∈ hs, H3 (f x) = none := fun x hx => (hes _ (hf x hx)).2.1
          have d3 : H3 d = none := by
            cases h : H3 d with
            | none => rfl
            | some o => rw [s4 _ _ h] at nd; cases nd
          have D0 : DictsAt (upd H4 d (.dK (mergeK [] (rowsV es)))) hs f (relS hN []) := ⟨fun x hx => ⟨[], (same_upd nd) _ _ (hes _ (hf x hx)).1, List.nodup_nil, fun k => ⟨fun h => (nomatch h), fun ⟨_, _, _, h⟩ => (nomatch h)⟩⟩⟩
          generalize upd H4 d (.dK (mergeK [] (rowsV es))) = H5 at s5 hd5 D0
          generalize mergeK [] (rowsV es) = kvs at hd5 ok
          have mN : ∀ x, x ∈ hs ↔ ∃ y ∈ N, hN y = x := fun x => by
            rw [mh, he, List.mem_map]
          have inH : ∀ x ∈ N, hN x ∈ hs := fun x hx => (mN _).mpr ⟨x, hx, rfl⟩
          have fewH : hs.length ≤ 60 := by
            have e := ndh.length_le_of_subset (l₂ := N.map hN) fun x hx => by
              obtain ⟨y, hy, e⟩ := (mN x).mp hx
              exact List.mem_map.mpr ⟨y, hy, e⟩
            rw [List.length_map] at e
            omega
          have hpd : p ≠ d := fun z => by
            obtain ⟨kv', e, _⟩ := hd
            rw [z, d3] at e
            cases e
          refine ⟨_, rfl, b, rfl, ⟨_, SqL.of (s5 _ _ (s3 _ _ hls))⟩, fun D4 nD4 => lc_it (walk_list (K := K) (a := b) (xs := ls)) (fun k H' => Same H5 H' ∧ ∃ zs, H' D4 = some (.lst zs) ∧ All2 (LnkAt H') zs (strictO (Lo.take k)) ∧ zs.length ≤ k) ⟨same_upd nD4, [], upd_same, .nil, Nat.zero_le _⟩ (fun k H' _ h => SqL.of (h.1 _ _ (s5 _ _ (s3 _ _ hls)))) ?_ ?_⟩
          · rintro k z H6 H7 hk ⟨s6, zs, hzs, hZ, lz⟩ ⟨rfl, ez⟩
            obtain ⟨o, eo, ho⟩ := hL.get ez
            have st := strictO_at eo
            have kl : k < Lo.length := (List.getElem?_eq_some_iff.mp eo).1
            refine ⟨rfl, ?_⟩
            cases o with
            | none =>
              cases (show z = .non from ho)
              refine ⟨_, rfl, rfl, false, by rw [decide_eq_true rfl]; rfl, iteF (iteF ⟨s6, zs, hzs, ?_, by omega⟩)⟩
              rw [st]
              show All2 _ zs (_ ++ [])
              rw [List.append_nil]
              exact hZ
            | some l =>
              obtain ⟨t, rfl, ht⟩ := ho
              have ht5 := s6 _ _ (s5 _ _ (s3 _ _ ht))
              refine ⟨_, rfl, rfl, true, by rw [decide_eq_false nofun]; rfl, iteT ?_⟩
              refine ⟨_, rfl, t, _, _, .bl l.2.2, rfl, rfl, SqT.of ht5, rfl, l.2.2, rfl, ?_⟩
              refine ite2 (fun c => ?_) (fun c => ?_)
              · have c : l.2.2 = true := c
                refine ⟨_, rfl, zs, hzs, small1000 (by omega), s6.fresh nD4, _, upd_same, ?_, by rw [List.length_append]; show zs.length + 1 ≤ _; omega⟩
                have up : ∀ y e, LnkAt H7 y e → LnkAt (upd H7 D4 (.lst (zs ++ [.ref t]))) y e := by
                  rintro y e ⟨v, rfl, hv⟩
                  exact ⟨v, rfl, by rw [upd_ne fun q => by rw [q, hzs] at hv; cases hv]; exact hv⟩
                rw [st]
                show All2 _ _ (_ ++ if l.2.2 = true then [l] else [])
                rw [if_pos c]
                exact (hZ.imp up).append (.cons (up _ _ ⟨t, rfl, ht5⟩) .nil)
              · have c : ¬ l.2.2 = true := c
                refine ⟨s6, zs, hzs, ?_, by omega⟩
                rw [st]
                show All2 _ zs (_ ++ if l.2.2 = true then [l] else [])
                rw [if_neg c, List.append_nil]
                exact hZ
          · rintro H6 ⟨s6, zs, hzs, hZ, lz⟩
            rw [List.take_of_length_le (by rw [hL.length]; exact Nat.le_refl _)] at hZ
            have s36 := s5.trans s6
            have hd6 := s6 _ _ hd5
            have D6 : DictsAt H6 hs f (relS hN []) := D0.move fun x hx o e => s6 _ _ e
            have nf : ∀ {b : Addr} {o : HO}, H3 b = some o → ∀ x ∈ hs, b ≠ f x := fun e x hx => ne_of_none e (f3 x hx)
            have nt : ∀ {b : Addr} {ws : List V}, H6 b = some (.tup ws) → ∀ x ∈ hs, b ≠ f x := fun e x hx z => by
              obtain ⟨kv, h, _⟩ := D6.row x hx
              rw [z, h] at e
              cases e
            have nl : ∀ {b : Addr} {ws : List V}, H6 b = some (.lst ws) → ∀ x ∈ hs, b ≠ f x := fun e x hx z => by
              obtain ⟨kv, h, _⟩ := D6.row x hx
              rw [z, h] at e
              cases e
            have inS : ∀ l ∈ strictO Lo, l.1 ∈ N ∧ l.2.1 ∈ N := fun l hl => hin l (List.mem_filter.mp hl).1
            refine ⟨D4, rfl, ⟨_, SqL.of hzs⟩, for_it (walk_list (K := K) (a := D4) (xs := zs))
              (fun j σ H' => ∃ y3 y4 y5 y6 y7 y8 y9, σ = [some (V.ref a), some (V.ref b), some (V.ref p), y3, y4, y5, y6, y7, y8, y9, some (V.ref d), none] ∧ SameF hs f H6 H' ∧ DictsAt H' hs f (relS hN ((strictO Lo).take j)))
              ⟨_, _, _, _, _, _, _, rfl, .refl, D6⟩ (fun j σ H' _ ⟨_, _, _, _, _, _, _, _, e, _⟩ => SqL.of (e _ _ (nl hzs) hzs)) ?_ ?_⟩
            · rintro j z σ H7 H8 hj ⟨y3, y4, y5, y6, y7, y8, y9, rfl, sf, DD⟩ ⟨rfl, ez⟩
              obtain ⟨l, el, t, rfl, ht⟩ := hZ.get ez
              obtain ⟨m1, m2⟩ := inS l (List.mem_of_getElem? el)
              have hd8 : HeadAt H8 p N hN := hd.move fun o e => sf _ _ (nf e) (s36 _ _ e)
              have ho8 : H8 d = some (.dK kvs) := sf _ _ (fun x hx z => fd x hx z.symm) hd6
              obtain ⟨H9, put, D9, o, e9⟩ := DD.put ok.inj fewH (inH _ m1) (inH _ m2) (.bl true)
              refine ⟨t, _, rfl, SqT.of (sf _ _ (nt ht) ht), rfl, _, _, rfl, _, _, rfl, _, _, rfl, rfl, ?_⟩
              refine ⟨_, rfl, _, rfl, _, rfl, p, _, rfl, hd8.get m1, d, _, rfl, dget_of ho8 (ok.val _ (inH _ m1)), _, rfl, _, rfl, p, _, rfl, hd8.get m2, _, H9, rfl, put, ?_⟩
              refine ⟨_, _, _, _, _, _, _, rfl, by rw [e9]; exact sf.upd (inH _ m1), ?_⟩
              rw [show (strictO Lo).take (j + 1) = (strictO Lo).take j ++ [l] from take_next0 el]
              unfold relS
              rw [List.foldl_append]
              exact D9
            · rintro σ H7 ⟨y3, y4, y5, y6, y7, y8, y9, rfl, sf, DD⟩
              rw [List.take_of_length_le (by rw [hZ.length]; exact Nat.le_refl _)] at DD
              have hd7 : H7 d = some (.dK kvs) := sf _ _ (fun x hx z => fd x hx z.symm) hd6
              have sH7 : ∀ b o, H3 b = some o → H7 b = some o := fun b o e => sf _ _ (nf e) (s36 _ _ e)
              have D7 : ∀ od, DictsAt (upd H7 d (.frz od (.dK kvs))) hs f (relS hN (strictO Lo)) := fun od => DD.move fun x hx o e => by
                rw [upd_ne (fd x hx)]
                exact e
              have keyAt : ∀ {i : Nat} {k : Key} {v : V}, kvs[i]? = some (k, v) → ∃ m, hs[i]? = some m ∧ k = Sum.inr m := fun {i k v} e => by
                have e1 : (kvs.map (·.1))[i]? = some k := by rw [List.getElem?_map, e]; rfl
                rw [ok.keys, List.getElem?_map] at e1
                cases h : hs[i]? with
                | none => rw [h] at e1; cases e1
                | some m => rw [h] at e1; exact ⟨m, rfl, (Option.some.inj e1).symm⟩
              have lenK : kvs.length = hs.length := by
                have e := congrArg List.length ok.keys
                rw [List.length_map, List.length_map] at e
                exact e
              refine ⟨d, .dK kvs, hd7, True.intro, fun od => ⟨_, rfl, d, od, rfl, .inl ⟨kvs, upd_same, for_it (walk_keys (d := d) (o := od) (kvs := kvs))
                (fun i σ H' => ∃ y3 y4 y5 y6 y7 y8 y9 y11, σ = [some (V.ref a), some (V.ref b), some (V.ref p), y3, y4, y5, y6, y7, y8, y9, some (V.ref d), y11] ∧ SameF hs f (upd H7 d (.frz od (.dK kvs))) H' ∧ DictsAt H' hs f ((hs.take i).foldl closeBy (relS hN (strictO Lo))))
                ⟨_, _, _, _, _, _, _, _, rfl, .refl, D7 od⟩ (fun i σ H' _ ⟨_, _, _, _, _, _, _, _, _, e, _⟩ => e _ _ (fun x hx z => fd x hx z.symm) upd_same) ?_ ?_⟩⟩⟩
              · rintro i x σ H8 H9 hi ⟨y3, y4, y5, y6, y7, y8, y9, y11, rfl, s8, D8⟩ ⟨rfl, k, v, ek, rfl⟩
                obtain ⟨m, em, rfl⟩ := keyAt ek
                have mm : m ∈ hs := List.mem_of_getElem? em
                have fz9 : H9 d = some (.frz od (.dK kvs)) := s8 _ _ (fun x hx z => fd x hx z.symm) upd_same
                refine ⟨_, rfl, d, od, rfl, .inl ⟨kvs, fz9, for_it (walk_keys (d := d) (o := od) (kvs := kvs))
                  (fun j σ H' => ∃ y3 y4 y5 y6 y7 y8 y9, σ = [some (V.ref a), some (V.ref b), some (V.ref p), y3, y4, y5, y6, y7, y8, y9, some (V.ref d), some (V.str m)] ∧ SameF hs f H9 H' ∧ DictsAt H' hs f (closeIn ((hs.take i).foldl closeBy (relS hN (strictO Lo))) m (hs.take j)))
                  ⟨_, _, _, _, _, _, _, rfl, .refl, D8.congr fun x _ y _ => (closeIn_nil _ m x y).symm⟩ (fun j σ H' _ ⟨_, _, _, _, _, _, _, _, e, _⟩ => e _ _ (fun x hx z => fd x hx z.symm) fz9) ?_ ?_⟩⟩
                · rintro j x σ HA HB hj ⟨y3, y4, y5, y6, y7, y8, y9, rfl, sA, DA⟩ ⟨rfl, k, v, ek2, rfl⟩
                  obtain ⟨x, ex, rfl⟩ := keyAt ek2
                  have mx : x ∈ hs := List.mem_of_getElem? ex
                  have fzB : HB d = some (.frz od (.dK kvs)) := sA _ _ (fun x hx z => fd x hx z.symm) fz9
                  have getB : ∀ z ∈ hs, DGet HB d (.str z) (some (.ref (f z))) := fun z hz => .inl ⟨kvs, Sum.inr z, .inr ⟨od, fzB⟩, rfl, (ok.val z hz).symm⟩
                  have xn : x ∉ hs.take j := fun z => by
                    have e2 : hs = hs.take j ++ (x :: hs.drop (j + 1)) := by
                      have e3 := (List.take_append_drop j hs).symm
                      rw [List.drop_eq_getElem_cons (List.getElem?_eq_some_iff.mp ex).1, (List.getElem?_eq_some_iff.mp ex).2] at e3
                      exact e3
                    rw [e2, List.nodup_append] at ndh
                    exact ndh.2.2 x z x List.mem_cons_self rfl
                  have tk : hs.take (j + 1) = hs.take j ++ [x] := take_next0 ex
                  obtain ⟨o, g, eo⟩ := DA.get mx mm
                  rw [closeIn_col xn] at eo
                  refine ⟨_, rfl, _, rfl, _, rfl, d, _, rfl, getB x mx, f x, o, rfl, g, _, rfl, ?_⟩
                  refine ite2 (fun c => ?_) (fun c => ?_)
                  · have c : o.isSome = true := c
                    rw [c] at eo
                    obtain ⟨ks, ls', hks, hls', sz, DM⟩ := DA.merge ok.inj fewH mx mm
                    have DN := DM.congr (R' := closeIn ((hs.take i).foldl closeBy (relS hN (strictO Lo))) m (hs.take (j + 1))) fun a _ b _ => by
                      rw [tk]
                      exact closeIn_yes xn eo.symm a b
                    refine ⟨_, rfl, _, rfl, d, _, rfl, getB x mx, .inr (.inr (.inl ⟨rfl, .inl ⟨_, hks⟩⟩)), _, rfl, _, rfl, d, _, rfl, getB m mm, f x, f m, ks, ls', rfl, rfl, hks, .inl hls', sz, fun e => ?_, fun e => ?_⟩
                    · have exm : x = m := ok.inj _ mx _ mm e
                      refine ⟨_, _, _, _, _, _, _, rfl, sA, DA.congr fun a _ b _ => ?_⟩
                      rw [tk, ← closeIn_yes xn eo.symm a b, closeIn_row]
                      by_cases q : a = x
                      · subst q
                        rw [decide_eq_true rfl, Bool.true_and, exm, closeIn_row, Bool.or_self]
                      · rw [decide_eq_false q, Bool.false_and, Bool.or_false]
                    · exact ⟨_, _, _, _, _, _, _, rfl, sA.upd mx, DN⟩
                  · have c : o.isSome = false := by
                      cases h : o.isSome with
                      | false => rfl
                      | true => exact absurd h c
                    rw [c] at eo
                    refine ⟨_, _, _, _, _, _, _, rfl, sA, DA.congr fun a _ b _ => ?_⟩
                    rw [tk]
                    exact closeIn_no eo.symm a b
                · rintro σ HA ⟨y3, y4, y5, y6, y7, y8, y9, rfl, sA, DA⟩
                  rw [show hs.take kvs.length = hs from List.take_of_length_le (by rw [lenK]; exact Nat.le_refl _)] at DA
                  refine ⟨_, _, _, _, _, _, _, _, rfl, fun b o n e => sA b o n (s8 b o n e), ?_⟩
                  rw [take_next0 em, List.foldl_append]
                  exact DA.congr fun a ma b _ => closeIn_all _ m ma b
              · rintro σ H8 ⟨y3, y4, y5, y6, y7, y8, y9, y11, rfl, s8, D8⟩
                rw [show hs.take kvs.length = hs from List.take_of_length_le (by rw [lenK]; exact Nat.le_refl _)] at D8
                have fz8 : H8 d = some (.frz od (.dK kvs)) := s8 _ _ (fun x hx z => fd x hx z.symm) upd_same
                refine ⟨fz8, ?_⟩
                have k3 : ∀ b o, H3 b = some o → (upd H8 d (.dK kvs)) b = some o := fun b o e => by
                  have nb : b ≠ d := ne_of_none e d3
                  rw [upd_ne nb]
                  exact s8 b o (nf e) (by rw [upd_ne nb]; exact sH7 b o e)
                have D9 : DictsAt (upd H8 d (.dK kvs)) hs f (hs.foldl closeBy (relS hN (strictO Lo))) := D8.move fun x hx o e => by
                  rw [upd_ne (fd x hx)]
                  exact e
                have hd9 : (upd H8 d (.dK kvs)) d = some (.dK kvs) := upd_same
                generalize upd H8 d (.dK kvs) = H9 at k3 D9 hd9
                refine ⟨_, rfl, _, rfl, by show 2 ≤ sizeLine; decide, fun r nr => q r _ (fun b o e => (same_upd nr) _ _ (k3 _ _ (s3 _ _ e))) ?_ ⟨p, d, hN, hs, _, upd_same, hd.move fun o e => (same_upd nr) _ _ (k3 _ _ e), ⟨kvs, f, (same_upd nr) _ _ hd9, ok, D9.move fun x hx o e => (same_upd nr) _ _ e, fd⟩, fewH, mN, hsame, fun x hx y hy => ?_, hinN, hpd, ndh⟩⟩
                · cases h : H r with
                  | none => rfl
                  | some o => rw [k3 _ _ (s3 _ _ h)] at nr; cases nr
                · have hR : ∀ i j, relS hN (strictO Lo) i j = true → j ∈ hs := fun i j h => by
                    obtain ⟨a, b, hl, _, rfl⟩ := relS_step.mp h
                    exact inH _ (hin _ hl).2
                  rw [close_chain hR, ← chain_bef hin hsame hx hy]
                  have e : (fun i j => relS hN (strictO Lo) i j = true) = HeadStep hN (Lo.filterMap id) := by
                    funext i j
                    exact propext relS_step
                  rw [e]
end
end Lw
set_option Elab.async false
set_option linter.all false
set_option maxRecDepth 100000
set_option maxHeartbeats 4000000
namespace Lw
open PySem PySem.Spec PyProof.Rows L2 TKS
def Firsts (S : List Sen) : Prop := ∀ s, S[0]? = some s → s.1 = ("at" : Str)
def Free (S : List Sen) : Prop := ∀ x ∈ S.map (·.2), ¬ Bef (linksL "" S) x x
structure IsRel (L : List Lnk) (x y r : Str) : Prop where
  same : Conn (sameL L) x y → r = "same"
  bef : ¬ Conn (sameL L) x y → Bef L x y → r = "before"
  aft : ¬ Conn (sameL L) x y → ¬ Bef L x y → Bef L y x → r = "after"
  unk : ¬ Conn (sameL L) x y → ¬ Bef L x y → ¬ Bef L y x → r = "unknown"
def spModel (K : PySem.W.Frag) : Sp := fun vs H Q _ => ∃ a S, vs = [.ref a] ∧ TaleQ K H a S ∧ S.length ≤ 60 ∧ Firsts S ∧ ∀ p H' ns, Same H H' → H p = none → NamesOf S ns → ModelAt H' p ns (linksL "" S) → Q (.ref p) H'
def spFits (K : PySem.W.Frag) : Sp := fun vs H Q _ => ∃ a S, vs = [.ref a] ∧ TaleQ K H a S ∧ S.length ≤ 60 ∧ Firsts S ∧ (∀ s ∈ S, PySem.PyData.strOk s.2 = true) ∧ ∀ b H', Same H H' → (b = true ↔ Free S) → Q (.bl b) H'
def spRelated (K : PySem.W.Frag) : Sp := fun vs H Q _ => ∃ p N L m1 m2, vs = [.ref p, .str m1, .str m2] ∧ ModelAt H p N L ∧ m1 ∈ N ∧ m2 ∈ N ∧ ∀ r H', Same H H' → IsRel L m1 m2 r → Q (.str r) H'
theorem dpAll_str {K : PySem.W.Frag} {H : Hp} : ∀ ys : List Str, DpAll K H (ys.map V.str) (ys.map PyData.str)
  | [] => .nil
  | y :: r => .cons (.str y) (dpAll_str r)
theorem strs_depth : ∀ ys : List Str, PyData.depthAll (ys.map PyData.str) = 0
  | [] => rfl
  | y :: r => by
    show max 0 (PyData.depthAll _) = 0
    rw [strs_depth r]
    rfl
theorem strs_lay : ∀ ys : List Str, (∀ y ∈ ys, PySem.PyData.strOk y = true) → PyData.canLayAll0 (ys.map PyData.str) = true
  | [], _ => rfl
  | y :: r, h => by
    show (PySem.PyData.strOk y && PyData.canLayAll0 _) = true
    rw [h y List.mem_cons_self, strs_lay r fun z hz => h z (List.mem_cons_of_mem _ hz)]
    rfl
theorem strs_shaped (ys : List Str) (h : ∀ y ∈ ys, PySem.PyData.strOk y = true) : SeqAt.shaped (.list (ys.map PyData.str)) = true := by
  unfold SeqAt.shaped
  rw [show PyData.canLay0 (.list (ys.map PyData.str)) = true from strs_lay ys h]
  show decide (PyData.depthAll _ + 1 ≤ 64) = true
  rw [strs_depth]
  rfl
theorem strs_nil (ys : List Str) : PyData.eqv (.list (ys.map PyData.str)) (.list []) = ys.isEmpty := by
  cases ys <;> rfl
section
variable {P : Program} {w : World} {K : PySem.W.Frag} {mg : Str → Option Value} {base : Heap}
theorem ok__law_model (T : Txt K mg) (F : Fn K mg "_law_model" s__law_model) (FO : Fn K mg "_law_order" s__law_order) (FN : Fn K mg "_law_names" s__law_names) (FL : Fn K mg "_law_links" s__law_links) : Df P w K mg base "_law_model" 2 ["sentences"] (spModel K) := by
  have G__law_order : Df P w K mg base "_law_order" 1 ["names", "links"] spOrd1 := ok__law_order T FO
  have G__law_names : Df P w K mg base "_law_names" 1 ["sentences"] (spNames K) := ok__law_names T FN
  have G__law_links : Df P w K mg base "_law_links" 1 ["sentences"] (spLawLinks K) := ok__law_links T FL
  refine F.df (fun _ _ _ _ _ _ us hl => match us, hl with | [_], _ => rfl) fun f fd F => F.ok sc__law_model (fun vs H Q E h => ?_) (fun cdv AA outer s H vs Q E hr h => ?_)
  · obtain ⟨a, S, rfl, _⟩ := h
    rfl
  · obtain ⟨a, S, rfl, hT, hl, hat, q⟩ := h
    refine ⟨_, pss_one (ps_ret (pe_df G__law_order (hr.mono (by decide)) (by rfl) (pa_cons (pe_df G__law_names (hr.mono (by decide)) (by rfl) (pa_cons (pv 0) (pa_nil))) (pa_cons (pe_df G__law_links (hr.mono (by decide)) (by rfl) (pa_cons (pv 0) (pa_nil))) (pa_nil))))), ?_⟩
    refine ⟨_, rfl, a, S, rfl, hT, hl, fun p1 H1 ns s1 n1 hN h1 => ⟨_, rfl, a, S, rfl, hT.same s1, hl, fun p2 H2 s2 n2 hL => ⟨p1, p2, ns, lawLinks "" S, rfl, s2 _ _ h1, ?_, hL, by rw [lawLinks_length]; exact hl, ?_, fun p H3 s3 n3 hM => ?_⟩⟩⟩
    · have e := hN.nd.length_le_of_subset (l₂ := S.map (·.2)) fun m hm => (hN.mem m).mp hm
      rw [List.length_map] at e
      omega
    · rw [lawLinks_some]
      intro l hl
      obtain ⟨m1, m2⟩ := links_in hat hl
      exact ⟨(hN.mem _).mpr m1, (hN.mem _).mpr m2⟩
    · rw [lawLinks_some] at hM
      refine q p H3 ns ((s1.trans s2).trans s3) ?_ hN hM
      cases h : H p with
      | none => rfl
      | some o => rw [s2 _ _ (s1 _ _ h)] at n3; cases n3
theorem ok__law_fits (T : Txt K mg) (F : Fn K mg "_law_fits" s__law_fits) (G__law_model : Df P w K mg base "_law_model" 2 ["sentences"] (spModel K)) : Df P w K mg base "_law_fits" 3 ["sentences"] (spFits K) := by
  refine F.df (fun _ _ _ _ _ _ us hl => match us, hl with | [_], _ => rfl) fun f fd F => F.ok sc__law_fits (fun vs H Q E h => ?_) (fun cdv AA outer s H vs Q E hr h => ?_)
  · obtain ⟨a, S, rfl, _⟩ := h
    rfl
  · obtain ⟨a, S, rfl, hT, hl, hat, hz, q⟩ := h
    have hu := Nat.lt_of_le_of_lt (Nat.add_le_add_left (by decide : 1 ≤ 64) _) hr.units
    refine ⟨_, pss_cons (ps_asg (pe_df G__law_model (hr.mono (by decide)) (by rfl) (pa_cons (pv 0) (pa_nil))) (pg_tup (by rfl) (pgs_cons (pg_name (i := 1) sc__law_fits.nd rfl (by first | exact Or.inl rfl | exact Or.inr rfl)) (pgs_cons (pg_name (i := 2) sc__law_fits.nd rfl (by first | exact Or.inl rfl | exact Or.inr rfl)) (pgs_nil)))))
    (pss_one (ps_ret (pe_cmpR (op_eqD hr.units) (pe_lock (pe_lc (own := [("one", 3)]) rfl sc__law_fits.nd (pi_keys (pv 2)) (blkOk_by (N := ["sentences", "head", "after", "one"]) (sc := defScope s__law_fits) (by decide +kernel)) (fun _ _ _ _ _ => pg_name (i := 3) sc__law_fits.nd rfl (by first | exact Or.inl rfl | exact Or.inr rfl)) (fun _ _ _ _ _ => pts_one (pt_cmp (pc_din hu (pv 3) (pe_dget hu (pv 2) (pv 3) (fun _ _ => rfl))))) (fun _ _ _ _ _ => pv 3))) (pe_lst (pa_nil)) (nomark _)))), ?_⟩
    refine ⟨_, rfl, a, S, rfl, hT, hl, hat, fun p H1 ns s1 np hN hM => ?_⟩
    obtain ⟨d1, d2, hd, hs, R, hp, hH, ⟨kvs, g, hk, ok, DD, gd⟩, few, mN, same, bef, inN, hdn, ndh⟩ := hM.ex
    refine ⟨p, _, rfl, SqT.of hp, rfl, _, _, rfl, _, _, rfl, rfl, ?_⟩
    have hl60 : hs.length ≤ 60 := few
    have keyAt : ∀ {i : Nat} {k : Key} {v : V}, kvs[i]? = some (k, v) → ∃ m, hs[i]? = some m ∧ k = Sum.inr m := fun {i k v} e => by
      have e1 : (kvs.map (·.1))[i]? = some k := by rw [List.getElem?_map, e]; rfl
      rw [ok.keys, List.getElem?_map] at e1
      cases h : hs[i]? with
      | none => rw [h] at e1; cases e1
      | some m => rw [h] at e1; exact ⟨m, rfl, (Option.some.inj e1).symm⟩
    have lenK : kvs.length = hs.length := by
      have e := congrArg List.length ok.keys
      rw [List.length_map, List.length_map] at e
      exact e
    refine ⟨d2, .dK kvs, hk, True.intro, fun od => ⟨_, rfl, d2, od, rfl, .inl ⟨kvs, upd_same, fun D nD => lc_it (walk_keys (d := d2) (o := od) (kvs := kvs))
      (fun i H' => Same (upd H1 d2 (.frz od (.dK kvs))) H' ∧ H' D = some (.lst (((hs.take i).filter fun x => R x x).map V.str))) ⟨same_upd nD, upd_same⟩ (fun i H' _ h => h.1 _ _ upd_same) ?_ ?_⟩⟩⟩
    · rintro i x H3 H4 hi ⟨s3, hD⟩ ⟨rfl, k, v, ek, rfl⟩
      obtain ⟨m, em, rfl⟩ := keyAt ek
      have mm : m ∈ hs := List.mem_of_getElem? em
      have DF : DictsAt H4 hs g R := DD.move fun x hx o e => s3 _ _ (by rw [upd_ne (gd x hx)]; exact e)
      obtain ⟨o, gg, eo⟩ := DF.get mm mm
      have step : (hs.take (i + 1)).filter (fun x => R x x) = (hs.take i).filter (fun x => R x x) ++ if R m m = true then [m] else [] := by
        rw [take_next0 em, List.filter_append]
        congr 1
        cases h : R m m <;> simp [List.filter, h]
      refine ⟨rfl, _, rfl, _, rfl, _, rfl, d2, _, rfl, .inl ⟨kvs, Sum.inr m, .inr ⟨od, s3 _ _ upd_same⟩, rfl, (ok.val m mm).symm⟩, g m, o, rfl, gg, _, rfl, ?_⟩
      refine ite2 (fun c => ?_) (fun c => ?_)
      · have c : o.isSome = true := c
        rw [eo] at c
        rw [if_pos c] at step
        refine ⟨_, rfl, _, hD, ?_, s3.fresh nD, ?_⟩
        · rw [List.length_map]
          have l1 := List.length_filter_le (fun x => R x x) (hs.take i)
          rw [List.length_take] at l1
          exact small1000 (by omega)
        · rw [upd_same, step, List.map_append]
          rfl
      · have c : ¬ o.isSome = true := c
        rw [eo] at c
        rw [if_neg c, List.append_nil] at step
        exact ⟨s3, by rw [step]; exact hD⟩
    · rintro H3 ⟨s3, hD⟩
      rw [show hs.take kvs.length = hs from List.take_of_length_le (by rw [lenK]; exact Nat.le_refl _)] at hD
      have fz : H3 d2 = some (.frz od (.dK kvs)) := s3 _ _ upd_same
      have nDd : D ≠ d2 := fun z => by rw [z, fz] at hD; cases hD
      refine ⟨fz, ?_⟩
      have sf : Same H (upd H3 d2 (.dK kvs)) := fun b o e => by
        by_cases nb : b = d2
        · rw [nb, upd_same, ← hk, ← nb]
          exact (s1 _ _ e).symm ▸ rfl
        · rw [upd_ne nb]
          exact s3 _ _ (by rw [upd_ne nb]; exact s1 _ _ e)
      have hD2 : (upd H3 d2 (.dK kvs)) D = some (.lst ((hs.filter fun x => R x x).map V.str)) := by
        rw [upd_ne nDd]
        exact hD
      generalize upd H3 d2 (.dK kvs) = H4 at sf hD2
      refine ⟨by show 0 ≤ sizeLine; decide, fun u nu => ?_⟩
      have s5 := same_upd nu (o := .lst [])
      refine ⟨_, _, .lst (SqL.of (s5 _ _ hD2)) (dpAll_str _), .lst (SqL.of upd_same) .nil, strs_shaped _ fun y hy => ?_, rfl, ?_⟩
      · obtain ⟨z, hz1, rfl⟩ := (mN y).mp (List.mem_filter.mp hy).1
        obtain ⟨s, ms, e⟩ := List.mem_map.mp ((hN.mem _).mp (inN z hz1))
        rw [← e]
        exact hz s ms
      · rw [strs_nil]
        refine q _ _ (sf.trans s5) ?_
        rw [List.isEmpty_iff, List.filter_eq_nil_iff]
        constructor
        · intro h x hx b
          have mx := (hN.mem x).mpr hx
          exact h _ ((mN _).mpr ⟨x, mx, rfl⟩) ((bef x mx x mx).mpr b)
        · intro h y hy b
          obtain ⟨x, mx, rfl⟩ := (mN y).mp hy
          exact h x ((hN.mem x).mp mx) ((bef x mx x mx).mp b)
theorem ok__law_related (T : Txt K mg) (F : Fn K mg "_law_related" s__law_related) : Df P w K mg base "_law_related" 1 ["model", "one", "two"] (spRelated K) := by
  refine F.df (fun _ _ _ _ _ _ us hl => match us, hl with | [_, _, _], _ => rfl) fun f fd F => F.ok sc__law_related (fun vs H Q E h => ?_) (fun cdv AA outer s H vs Q E hr h => ?_)
  · obtain ⟨p, N, L, m1, m2, rfl, _⟩ := h
    rfl
  · obtain ⟨p, N, L, m1, m2, rfl, hM, k1, k2, q⟩ := h
    have hu := Nat.lt_of_le_of_lt (Nat.add_le_add_left (by decide : 1 ≤ 64) _) hr.units
    refine ⟨_, pss_cons (ps_asg (pv 0) (pg_tup (by rfl) (pgs_cons (pg_name (i := 3) sc__law_related.nd rfl (by first | exact Or.inl rfl | exact Or.inr rfl)) (pgs_cons (pg_name (i := 4) sc__law_related.nd rfl (by first | exact Or.inl rfl | exact Or.inr rfl)) (pgs_nil)))))
    (pss_cons (ps_if (pt_cmpR op_eq (pe_dget hu (pv 3) (pv 1) (fun _ _ => rfl)) (pe_dget hu (pv 3) (pv 2) (fun _ _ => rfl)) (nomark _)) (pss_one (ps_ret (pe_str))) (pss_nil))
    (pss_cons (ps_if (pt_cmp (pc_din hu (pe_dget hu (pv 3) (pv 2) (fun _ _ => rfl)) (pe_dget hu (pv 4) (pe_dget hu (pv 3) (pv 1) (fun _ _ => rfl)) (fun _ _ => rfl)))) (pss_one (ps_ret (pe_str))) (pss_nil))
    (pss_one (ps_ret (pe_ix ix_list (pe_lst (pa_cons (pe_str) (pa_cons (pe_str) (pa_nil)))) (pe_callTy call_int1 (by rfl) T.m_int (by decide +kernel) (pa_cons (pe_cmp (pc_din hu (pe_dget hu (pv 3) (pv 1) (fun _ _ => rfl)) (pe_dget hu (pv 4) (pe_dget hu (pv 3) (pv 2) (fun _ _ => rfl)) (fun _ _ => rfl)))) (pa_nil))) (fun _ _ => rfl)))))), ?_⟩
    obtain ⟨d1, d2, hd, hs, R, hp, hH, ⟨kvs, g, hk, ok, DD, gd⟩, few, mN, same, bef, inN, hdn, ndh⟩ := hM.ex
    have i1 : hd m1 ∈ hs := (mN _).mpr ⟨m1, k1, rfl⟩
    have i2 : hd m2 ∈ hs := (mN _).mpr ⟨m2, k2, rfl⟩
    refine ⟨_, rfl, p, _, rfl, SqT.of hp, rfl, _, _, rfl, _, _, rfl, rfl, ?_⟩
    refine ⟨_, rfl, _, rfl, d1, _, rfl, hH.get k1, _, rfl, _, rfl, d1, _, rfl, hH.get k2, rfl, _, rfl, ite2 (fun c => ?_) (fun c => ?_)⟩
    · have c : hd m1 = hd m2 := V.str.inj (of_decide_eq_true c)
      have c := (same _ k1 _ k2).mp c
      exact q _ H (Same.refl H) ⟨fun _ => rfl, fun n => (n c).elim, fun n => (n c).elim, fun n => (n c).elim⟩
    · have c : ¬ hd m1 = hd m2 := fun z => c (decide_eq_true (congrArg V.str z))
      have c : ¬ Conn (sameL L) m1 m2 := fun z => c ((same _ k1 _ k2).mpr z)
      obtain ⟨o1, g1, e1⟩ := DD.get i1 i2
      refine ⟨_, rfl, _, rfl, d1, _, rfl, hH.get k2, _, rfl, _, rfl, _, rfl, d1, _, rfl, hH.get k1, d2, _, rfl, dget_of hk (ok.val _ i1), g (hd m1), o1, rfl, g1, _, rfl, ite2 (fun b => ?_) (fun b => ?_)⟩
      · have b : o1.isSome = true := b
        rw [e1] at b
        have b := (bef _ k1 _ k2).mp b
        exact q _ H (Same.refl H) ⟨fun z => (c z).elim, fun _ _ => rfl, fun _ n => (n b).elim, fun _ n => (n b).elim⟩
      · have b : ¬ o1.isSome = true := b
        rw [e1] at b
        have b : ¬ Bef L m1 m2 := fun z => b ((bef _ k1 _ k2).mpr z)
        refine ⟨by show 2 ≤ sizeLine; decide, fun u nu => ?_⟩
        have s1 := same_upd nu (o := .lst [.str "unknown", .str "after"])
        have DS : DictsAt _ hs g R := DD.move fun x hx o e => s1 _ _ e
        obtain ⟨o2, g2, e2⟩ := DS.get i2 i1
        refine ⟨_, rfl, _, rfl, d1, _, rfl, (hH.same s1).get k1, _, rfl, _, rfl, _, rfl, d1, _, rfl, (hH.same s1).get k2, d2, _, rfl, dget_of (s1 _ _ hk) (ok.val _ i2), g (hd m2), o2, rfl, g2, ?_⟩
        cases h2 : o2.isSome with
        | true =>
          rw [h2] at e2
          have b2 := (bef _ k2 _ k1).mp e2.symm
          exact .inr ⟨true, rfl, u, _, _, .str "after", rfl, rfl, SqL.of upd_same, rfl, q _ _ s1 ⟨fun z => (c z).elim, fun _ n => (b n).elim, fun _ _ _ => rfl, fun _ _ n => (n b2).elim⟩⟩
        | false =>
          rw [h2] at e2
          have b2 : ¬ Bef L m2 m1 := fun z => by
            rw [(bef _ k2 _ k1).mpr z] at e2
            cases e2
          exact .inr ⟨false, rfl, u, _, _, .str "unknown", rfl, rfl, SqL.of upd_same, rfl, q _ _ s1 ⟨fun z => (c z).elim, fun _ n => (b n).elim, fun _ _ n => (b2 n).elim, fun _ _ _ => rfl⟩⟩
end
end Lw
set_option Elab.async false
set_option linter.all false
set_option maxRecDepth 100000
set_option maxHeartbeats 4000000
namespace Lw
open PySem PySem.Spec PyProof.Rows L2 TKS
def nm10 : List Str := ["m", "b", "ab", "c", "z", "d", "momentum", "e", "by", "k"]
def wd7 : List Str := ["then", "then", "back", "later", "earlier", "with", "at"]
def NmOk (z : Str) : Prop := NameOk z ∧ PySem.PyData.strOk z = true
theorem nm10_ok : ∀ z ∈ nm10, NmOk z := by
  unfold NmOk NameOk
  decide +kernel
theorem wd7_ok : ∀ w ∈ wd7, inV (.str w) wordsV = true := by decide +kernel
theorem cut_names : ∀ m : Nat, m ≤ 10 → cutV (nm10.map V.str) none (some (m : Int)) = (nm10.take m).map V.str := by
  intro m h
  have h : m < 11 := by omega
  revert m
  decide +kernel
theorem at_word : inV (.str "at") wordsV = true := by decide +kernel
theorem at_link {q z : Str} : linkOf q (("at" : Str), z) = [] := by
  have h1 : ¬ ("at" : Str) = "with" := by decide
  have h2 : ¬ inV (.str "at") fwW = true := by decide
  have h3 : ¬ inV (.str "at") bkW = true := by decide
  unfold linkOf
  rw [if_neg h1, if_neg h2, if_neg h3]
theorem bef_nil {x y : Str} (h : Bef [] x y) : False := by
  induction h with
  | link h _ _ => cases h
  | both _ _ a _ => exact a
theorem atI_str {zs : List Str} {d : Int} (h0 : 0 ≤ d) (h1 : d < zs.length) : ∃ z ∈ zs, atI (zs.map V.str) d = some (.str z) := by
  obtain ⟨j, rfl⟩ := Int.eq_ofNat_of_zero_le h0
  have hj : j < zs.length := by omega
  refine ⟨zs[j], List.getElem_mem hj, atI_nat (j := j) ?_⟩
  rw [List.getElem?_map, List.getElem?_eq_getElem hj]
  rfl
structure Good (S : List Sen) : Prop where
  ne : S ≠ []
  first : Firsts S
  each : ∀ s ∈ S, inV (.str s.1) wordsV = true ∧ s.2 ∈ nm10
  free : Free S
/-- a list of sentences -/
def TaleL (H : Hp) (a : Addr) (S : List Sen) : Prop := ∃ ts : List Addr, H a = some (.lst (ts.map V.ref)) ∧ All2 (fun t s => H t = some (.tup [.str s.1, .str s.2])) ts S
theorem TaleL.same {H H' : Hp} {a : Addr} {S : List Sen} (e : Same H H') (h : TaleL H a S) : TaleL H' a S := by
  obtain ⟨ts, q, r⟩ := h
  exact ⟨ts, e _ _ q, r.imp fun _ _ => e _ _⟩
theorem TaleL.updP {H : Hp} {a p : Addr} {S : List Sen} {xs : List V} {o : HO} (hp : H p = some (.lst xs)) (ne : a ≠ p) (h : TaleL H a S) : TaleL (upd H p o) a S := by
  obtain ⟨ts, q, r⟩ := h
  refine ⟨ts, by rw [upd_ne ne]; exact q, r.imp fun t s ht => ?_⟩
  rw [upd_ne fun z => by rw [z, hp] at ht; cases ht]
  exact ht
theorem all2_refs {K : PySem.W.Frag} {H : Hp} : ∀ {ts : List Addr} {S : List Sen}, All2 (fun t s => H t = some (.tup [.str s.1, .str s.2])) ts S → All2 (SenAt K H) (ts.map V.ref) S
  | _, _, .nil => .nil
  | _, _, .cons h t => .cons ⟨_, rfl, SqT.of h⟩ (all2_refs t)
theorem TaleL.taleQ {K : PySem.W.Frag} {H : Hp} {a : Addr} {S : List Sen} (h : TaleL H a S) : TaleQ K H a S := by
  obtain ⟨ts, q, r⟩ := h
  exact ⟨_, .inl (SqL.of q), all2_refs r⟩
theorem Good.ok {S : List Sen} (g : Good S) (few : S.length ≤ 60) : TaleOk S := ⟨few, g.first, fun s hs => ⟨(g.each s hs).1, (nm10_ok _ (g.each s hs).2).1⟩, sound_of g.first g.free⟩
def spTale (K : PySem.W.Frag) : Sp := fun vs H Q _ => ∃ (p : Addr) (p0 p1 p2 : Int) (n : Nat) (m : Nat), vs = [.ref p, .int 20, .int (m : Nat)] ∧ H p = some (.lst [.int p0, .int p1, .int p2]) ∧ PurseOk p0 p1 p2 n ∧ n < 2 ^ 38 ∧ 1 ≤ m ∧ m ≤ 10 ∧
  ∀ a S H' q0 q1 q2, SameB p H H' → H' p = some (.lst [.int q0, .int q1, .int q2]) → PurseOk q0 q1 q2 (n + 50) → H a = none → TaleAt K H' a S → S.length ≤ 20 → Good S → Q (.ref a) H'
section
variable {P : Program} {w : World} {K : PySem.W.Frag} {mg : Str → Option Value} {base : Heap}
theorem ok__law_tale (T : Txt K mg) (F : Fn K mg "_law_tale" s__law_tale) (G__law_draw : Df P w K mg base "_law_draw" 2 ["purse", "out_of"] spDraw) (G__law_fits : Df P w K mg base "_law_fits" 3 ["sentences"] (spFits K)) : Df P w K mg base "_law_tale" 4 ["purse", "most", "many"] (spTale K) := by
  refine F.df (fun _ _ _ _ _ _ us hl => match us, hl with | [_, _, _], _ => rfl) fun f fd F => F.ok sc__law_tale (fun vs H Q E h => ?_) (fun cdv AA outer s H vs Q E hr h => ?_)
  · obtain ⟨p, p0, p1, p2, n, m, rfl, _⟩ := h
    rfl
  · obtain ⟨p, p0, p1, p2, n, m, rfl, hp, B, hn, m1, m10, q⟩ := h
    refine ⟨_, pss_cons (ps_set (i := 3) sc__law_tale.nd rfl (by first | exact Or.inl rfl | exact Or.inr rfl) (pe_slice sl_list (pe_lst (pa_cons (pe_str) (pa_cons (pe_str) (pa_cons (pe_str) (pa_cons (pe_str) (pa_cons (pe_str) (pa_cons (pe_str) (pa_cons (pe_str) (pa_cons (pe_str) (pa_cons (pe_str) (pa_cons (pe_str) (pa_nil)))))))))))) (po_none) (po_some (pv 2))))
    (pss_cons (ps_set (i := 4) sc__law_tale.nd rfl (by first | exact Or.inl rfl | exact Or.inr rfl) (pe_lst (pa_cons (pe_str) (pa_cons (pe_str) (pa_cons (pe_str) (pa_cons (pe_str) (pa_cons (pe_str) (pa_cons (pe_str) (pa_cons (pe_str) (pa_nil))))))))))
    (pss_cons (ps_set (i := 5) sc__law_tale.nd rfl (by first | exact Or.inl rfl | exact Or.inr rfl) (pe_lst (pa_cons (pe_tup (pa_cons (pe_str) (pa_cons (pe_ix ix_list (pv 3) (pe_df G__law_draw (hr.mono (by decide)) (by rfl) (pa_cons (pv 0) (pa_cons (pv 2) (pa_nil)))) (fun _ _ => rfl)) (pa_nil)))) (pa_nil))))
    (pss_cons (ps_for PassesOwn.never rfl (pi_range1 (by rfl) T.m_range (pa_cons (pe_df G__law_draw (hr.mono (by decide)) (by rfl) (pa_cons (pv 0) (pa_cons (pv 1) (pa_nil)))) (pa_nil))) (pg_name (i := 6) sc__law_tale.nd rfl (by first | exact Or.inl rfl | exact Or.inr rfl)) (pss_cons (ps_set (i := 7) sc__law_tale.nd rfl (by first | exact Or.inl rfl | exact Or.inr rfl) (pe_op op_cat (pv 5) (pe_lst (pa_cons (pe_tup (pa_cons (pe_ix ix_list (pv 4) (pe_df G__law_draw (hr.mono (by decide)) (by rfl) (pa_cons (pv 0) (pa_cons (pe_int) (pa_nil)))) (fun _ _ => rfl)) (pa_cons (pe_ix ix_list (pv 3) (pe_df G__law_draw (hr.mono (by decide)) (by rfl) (pa_cons (pv 0) (pa_cons (pv 2) (pa_nil)))) (fun _ _ => rfl)) (pa_nil)))) (pa_nil)))))
    (pss_one (ps_if (pt_val (pe_df G__law_fits (hr.mono (by decide)) (by rfl) (pa_cons (pv 7) (pa_nil)))) (pss_one (ps_set (i := 5) sc__law_tale.nd rfl (by first | exact Or.inl rfl | exact Or.inr rfl) (pv 7))) (pss_nil)))))
    (pss_one (ps_ret (pe_callTy (show CallR _ _ (rTupL K) from cl_tupL) (by rfl) T.m_tuple (by decide +kernel) (pa_cons (pv 5) (pa_nil)))))))), ?_⟩
    refine ⟨by show 10 ≤ sizeLine; decide, fun l0 n0 => ?_⟩
    refine ⟨_, rfl, _, rfl, l0, nm10.map V.str, rfl, SqL.of upd_same, fun l1 n1 => ?_⟩
    rw [cut_names m m10]
    have l1p : l1 ≠ p := (ne_of_none ((same_upd n0) _ _ hp) n1).symm
    have s1 : Same H (upd (upd H l0 (.lst [V.str "m", V.str "b", V.str "ab", V.str "c", V.str "z", V.str "d", V.str "momentum", V.str "e", V.str "by", V.str "k"])) l1 (.lst ((nm10.take m).map V.str))) := (same_upd n0).trans (same_upd n1)
    have h1 : (upd (upd H l0 (.lst [V.str "m", V.str "b", V.str "ab", V.str "c", V.str "z", V.str "d", V.str "momentum", V.str "e", V.str "by", V.str "k"])) l1 (.lst ((nm10.take m).map V.str))) l1 = some (.lst ((nm10.take m).map V.str)) := upd_same
    generalize upd (upd H l0 (.lst [V.str "m", V.str "b", V.str "ab", V.str "c", V.str "z", V.str "d", V.str "momentum", V.str "e", V.str "by", V.str "k"])) l1 (.lst ((nm10.take m).map V.str)) = H1 at s1 h1 ⊢
    refine ⟨by show 7 ≤ sizeLine; decide, fun l2 n2 => ?_⟩
    have l2p : l2 ≠ p := (ne_of_none (s1 _ _ hp) n2).symm
    have s2 : Same H (upd H1 l2 (.lst [V.str "then", V.str "then", V.str "back", V.str "later", V.str "earlier", V.str "with", V.str "at"])) := s1.trans (same_upd n2)
    have h12 : (upd H1 l2 (.lst [V.str "then", V.str "then", V.str "back", V.str "later", V.str "earlier", V.str "with", V.str "at"])) l1 = some (.lst ((nm10.take m).map V.str)) := (same_upd n2) _ _ h1
    have h2 : (upd H1 l2 (.lst [V.str "then", V.str "then", V.str "back", V.str "later", V.str "earlier", V.str "with", V.str "at"])) l2 = some (.lst (wd7.map V.str)) := upd_same
    generalize upd H1 l2 (.lst [V.str "then", V.str "then", V.str "back", V.str "later", V.str "earlier", V.str "with", V.str "at"]) = H2 at s2 h12 h2 ⊢
    have hlen : (nm10.take m).length = m := by
      rw [List.length_take]
      exact Nat.min_eq_left m10
    have hp2 := s2 _ _ hp
    -- found = [("at", names[..])]
    refine ⟨_, rfl, _, rfl, _, rfl, p, p0, p1, p2, n, m, rfl, hp2, B, by omega, by omega, by omega, fun d q0 q1 q2 d0 d1 B1 => ?_⟩
    obtain ⟨z, mz, ez⟩ := atI_str (zs := nm10.take m) d0 (by omega)
    have k3 : SameB p H2 (upd H2 p (.lst [.int q0, .int q1, .int q2])) := SameB.upd
    have hp3 : (upd H2 p (.lst [.int q0, .int q1, .int q2])) p = some (.lst [.int q0, .int q1, .int q2]) := upd_same
    generalize upd H2 p (.lst [.int q0, .int q1, .int q2]) = H3 at k3 hp3 ⊢
    refine ⟨l1, _, _, .str z, rfl, rfl, SqL.of (k3 _ _ l1p h12), ez, by show 2 ≤ sizeLine; decide, fun t nt => ⟨by show 1 ≤ sizeLine; decide, fun fa nf => ?_⟩⟩
    have k4 : Same H3 (upd (upd H3 t (.tup [.str "at", .str z])) fa (.lst [.ref t])) := (same_upd nt).trans (same_upd nf)
    have hfa : TaleL (upd (upd H3 t (.tup [.str "at", .str z])) fa (.lst [.ref t])) fa [("at", z)] := ⟨[t], upd_same, .cons ((same_upd nf) _ _ upd_same) .nil⟩
    have fp : fa ≠ p := (ne_of_none ((same_upd nt) _ _ hp3) nf).symm
    generalize upd (upd H3 t (.tup [.str "at", .str z])) fa (.lst [.ref t]) = H4 at k4 hfa ⊢
    have hp4 := k4 _ _ hp3
    have good1 : Good [("at", z)] := by
      refine ⟨nofun, fun s e => by cases e; rfl, fun s hs => ?_, fun x _ h => ?_⟩
      · cases List.mem_singleton.mp hs
        exact ⟨at_word, List.mem_of_mem_take mz⟩
      · have e : linksL "" [(("at" : Str), z)] = [] := by
          show linkOf "" (("at" : Str), z) ++ [] = []
          rw [at_link]
          rfl
        rw [e] at h
        exact bef_nil h
    -- for turn in range(..)
    refine ⟨_, rfl, _, rfl, p, q0, q1, q2, n + 1, 20, rfl, hp4, B1, by omega, by omega, by omega, fun c r0 r1 r2 c0 c1 B2 => ?_⟩
    have k5 : SameB p H4 (upd H4 p (.lst [.int r0, .int r1, .int r2])) := SameB.upd
    have hp5 : (upd H4 p (.lst [.int r0, .int r1, .int r2])) p = some (.lst [.int r0, .int r1, .int r2]) := upd_same
    have hf5 := hfa.updP (o := .lst [.int r0, .int r1, .int r2]) hp4 fp
    generalize upd H4 p (.lst [.int r0, .int r1, .int r2]) = H5 at k5 hp5 hf5 ⊢
    have k25 : SameB p H2 H5 := (k3.trans k4.but).trans k5
    obtain ⟨c, rfl⟩ := Int.eq_ofNat_of_zero_le c0
    refine ⟨c, rfl, by omega, by omega, for_it (walk_range (lo := 0) (n := c))
      (fun i σ H' => ∃ fa S y6 y7 q0 q1 q2, σ = [some (.ref p), some (.int 20), some (.int (m : Nat)), some (.ref l1), some (.ref l2), some (.ref fa), y6, y7] ∧ SameB p H2 H' ∧ H' p = some (.lst [.int q0, .int q1, .int q2]) ∧ PurseOk q0 q1 q2 (n + 2 + 2 * i) ∧
        fa ≠ p ∧ H2 fa = none ∧ TaleL H' fa S ∧ S.length ≤ i + 1 ∧ Good S)
      ⟨fa, _, none, none, r0, r1, r2, rfl, k25, hp5, B2, fp, ?_, hf5, Nat.le_refl _, good1⟩ (fun _ _ _ _ _ => trivial) ?_ ?_⟩
    · cases h : H2 fa with
      | none => rfl
      | some o => rw [(same_upd nt) _ _ (k3 _ _ fp h)] at nf; cases nf
    · rintro i x σ H6 H7 hi ⟨fa, S, y6, y7, q0, q1, q2, rfl, k6, hp6, B6, fp, ff, hS, lS, gS⟩ ⟨rfl, rfl⟩
      obtain ⟨ts, hfa, hts⟩ := id hS
      refine ⟨_, rfl, _, rfl, _, rfl, p, q0, q1, q2, _, 7, rfl, hp6, B6, by omega, by omega, by omega, fun d e0 e1 e2 d0 d1 BA => ?_⟩
      obtain ⟨wd, mw, ew⟩ := atI_str (zs := wd7) d0 d1
      have k7 : SameB p H7 (upd H7 p (.lst [.int e0, .int e1, .int e2])) := SameB.upd
      have hp7 : (upd H7 p (.lst [.int e0, .int e1, .int e2])) p = some (.lst [.int e0, .int e1, .int e2]) := upd_same
      have hS7 := hS.updP (o := .lst [.int e0, .int e1, .int e2]) hp6 fp
      generalize upd H7 p (.lst [.int e0, .int e1, .int e2]) = H8 at k7 hp7 hS7 ⊢
      refine ⟨l2, _, _, .str wd, rfl, rfl, SqL.of (k7 _ _ l2p (k6 _ _ l2p h2)), ew, _, rfl, _, rfl, _, rfl, p, e0, e1, e2, _, (m : Nat), rfl, hp7, BA, by omega, by omega, by omega, fun d' g0 g1 g2 d0' d1' BB => ?_⟩
      obtain ⟨z', mz', ez'⟩ := atI_str (zs := nm10.take m) d0' (by omega)
      have k8 : SameB p H8 (upd H8 p (.lst [.int g0, .int g1, .int g2])) := SameB.upd
      have hp8 : (upd H8 p (.lst [.int g0, .int g1, .int g2])) p = some (.lst [.int g0, .int g1, .int g2]) := upd_same
      have hS8 := hS7.updP (o := .lst [.int g0, .int g1, .int g2]) hp7 fp
      generalize upd H8 p (.lst [.int g0, .int g1, .int g2]) = H9 at k8 hp8 hS8 ⊢
      have k29 : SameB p H2 H9 := (k6.trans k7).trans k8
      obtain ⟨ts, hfa, hts⟩ := id hS8
      refine ⟨l1, _, _, .str z', rfl, rfl, SqL.of (k29 _ _ l1p h12), ez', by show 2 ≤ sizeLine; decide, fun t' nt' => ⟨by show 1 ≤ sizeLine; decide, fun u nu => ?_⟩⟩
      have k9 : Same H9 (upd (upd H9 t' (.tup [.str wd, .str z'])) u (.lst [.ref t'])) := (same_upd nt').trans (same_upd nu)
      have hu' : (upd (upd H9 t' (.tup [.str wd, .str z'])) u (.lst [.ref t'])) u = some (.lst [.ref t']) := upd_same
      have ht' : (upd (upd H9 t' (.tup [.str wd, .str z'])) u (.lst [.ref t'])) t' = some (.tup [.str wd, .str z']) := (same_upd nu) _ _ upd_same
      generalize upd (upd H9 t' (.tup [.str wd, .str z'])) u (.lst [.ref t']) = HA at k9 hu' ht' ⊢
      refine ⟨fa, u, _, _, rfl, rfl, k9 _ _ hfa, hu', ?_, fun a3 n3 => ?_⟩
      · rw [List.length_map, hts.length]
        have := small1000 (n := S.length + 1) (by omega)
        exact Nat.le_of_lt this
      have hp9 := k9 _ _ hp8
      have a3p : a3 ≠ p := (ne_of_none hp9 n3).symm
      have kA : Same HA (upd HA a3 (.lst (ts.map V.ref ++ [.ref t']))) := same_upd n3
      have hA : (upd HA a3 (.lst (ts.map V.ref ++ [.ref t']))) a3 = some (.lst (ts.map V.ref ++ [.ref t'])) := upd_same
      generalize upd HA a3 (.lst (ts.map V.ref ++ [.ref t'])) = HB at kA hA ⊢
      have hS3 : TaleL HB a3 (S ++ [(wd, z')]) := ⟨ts ++ [t'], by rw [List.map_append]; exact hA, (hts.imp fun t s h => kA _ _ (k9 _ _ h)).append (.cons (kA _ _ ht') .nil)⟩
      have len3 : (S ++ [(wd, z')]).length = S.length + 1 := by rw [List.length_append]; rfl
      have first3 : Firsts (S ++ [(wd, z')]) := fun s e => by
        have ne := gS.ne
        cases hS0 : S with
        | nil => exact absurd hS0 ne
        | cons x r => rw [hS0] at e; exact gS.first s (by rw [hS0]; exact e)
      have each3 : ∀ s ∈ S ++ [(wd, z')], inV (.str s.1) wordsV = true ∧ s.2 ∈ nm10 := fun s hs => by
        rcases List.mem_append.mp hs with hs | hs
        · exact gS.each s hs
        · cases List.mem_singleton.mp hs
          exact ⟨wd7_ok _ mw, List.mem_of_mem_take mz'⟩
      have k2B : SameB p H2 HB := (k29.trans k9.but).trans kA.but
      refine ⟨_, rfl, a3, _, rfl, hS3.taleQ, by omega, first3, fun s hs => (nm10_ok _ (each3 s hs).2).2, fun b HC sC hb => ?_⟩
      have k2C : SameB p H2 HC := k2B.trans sC.but
      have hpC := sC _ _ (kA _ _ hp9)
      have BC : PurseOk g0 g1 g2 (n + 2 + 2 * (i + 1)) := BB.mono (by omega)
      refine ⟨_, rfl, ite2 (fun cb => ?_) (fun cb => ?_)⟩
      · have f3 : H2 a3 = none := by
          cases h : H2 a3 with
          | none => rfl
          | some o => rw [k9 _ _ (k29 _ _ a3p h)] at n3; cases n3
        exact ⟨_, rfl, a3, _, _, _, g0, g1, g2, rfl, k2C, hpC, BC, a3p, f3, hS3.same sC, by omega, ⟨by simp, first3, each3, hb.mp cb⟩⟩
      · exact ⟨fa, S, _, _, g0, g1, g2, rfl, k2C, hpC, BC, fp, ff, ((hS8.same k9).same kA).same sC, by omega, gS⟩
    · rintro σ H6 ⟨fa, S, y6, y7, q0, q1, q2, rfl, k6, hp6, B6, fp, ff, hS, lS, gS⟩
      obtain ⟨ts, hfa, hts⟩ := id hS
      refine ⟨_, rfl, fa, _, rfl, SqL.of hfa, fun l nl => ?_⟩
      have lp : l ≠ p := (ne_of_none hp6 nl).symm
      have sl := same_upd nl (o := .tup (ts.map V.ref))
      refine q l S _ q0 q1 q2 (((s2.but.trans k6)).trans sl.but) (sl _ _ hp6) (B6.mono (by omega)) ?_ ⟨_, SqT.of upd_same, all2_refs (hts.imp fun t s h => sl _ _ h)⟩ (by omega) gS
      cases h : H l with
      | none => rfl
      | some o => rw [k6 _ _ lp (s2 _ _ h)] at nl; cases nl
end
end Lw
set_option Elab.async false
set_option linter.all false
set_option maxRecDepth 100000
set_option maxHeartbeats 4000000
/-! a caught exception that is kept behind its except suite -/
namespace L2
open PySem PySem.Spec PyProof.Rows
/-- at a: an exception of the class at C that was caught; its dict is at d -/
def cau (a C d : Addr) : HO := .ext fun h => ∃ (oe : Obj) (vs : Array Value), h.get? a = some oe ∧ Zc (.ref C) (some d) oe ∧ oe.data = .fields vs
theorem cau_ok {P : Program} {w : World} {H : Hp} {h : Heap} {a C d : Addr} {oe : Obj} {vs : Array Value} (e : h.get? a = some oe) (z : Zc (.ref C) (some d) oe) (q : oe.data = .fields vs) : ObjOk P w H h a (cau a C d) :=
  ⟨⟨oe, vs, e, z, q⟩, ⟨oe, e⟩, fun _ _ ⟨o, ws, e1, z1, q1⟩ k => ⟨o, ws, k _ e1, z1, q1⟩⟩
theorem cau_at {P : Program} {w : World} {H : Hp} {h : Heap} {a C d : Addr} (hok : HOk P w H h) (e : H a = some (cau a C d)) : ∃ (oe : Obj) (vs : Array Value), h.get? a = some oe ∧ Zc (.ref C) (some d) oe ∧ oe.data = .fields vs := by
  have z : ObjOk P w H h a (.ext fun h => ∃ (oe : Obj) (vs : Array Value), h.get? a = some oe ∧ Zc (.ref C) (some d) oe ∧ oe.data = .fields vs) := hok a _ e
  exact z.1
section
variable {X : Cx} {pins : List (Addr × Obj)} {σ : St} {H : Hp} {s : Shared}
/-- an object that came since the entry, as yet not told of, is told of -/
theorem Inv.track {a : Addr} {o : HO} (I : Inv X pins σ H s) (h0 : X.s_0.heap.get? a = none) (na : H a = none) (nL : a ≠ X.env.locals) (nc : ∀ x c, X.env.cells.lookup x = some c → c ≠ a) (np : ∀ p ∈ X.pn ++ pins, p.1 ≠ a)
    (new : ObjOk X.prog X.w (upd H a o) s.heap a o) : Inv X pins σ (upd H a o) s := by
  have B := I.base
  refine ⟨I.ok, I.os, I.bare, ⟨B.keep, B.slot, fun b u q n x => ?_, B.there, fun b ts q => ?_, fun b u v q => ?_, fun b ps q => ?_⟩, I.loc, I.cell, ?_, fun x c q => ?_, fun p hp => ?_, ?_, I.len⟩
  · rw [upd_ne fun z => by rw [z, h0] at q; cases q]
    exact B.free b u q n x
  · have g := B.tups b ts q
    rw [upd_ne (ne_of_none g na)]
    exact g
  · have g := B.frzs b u v q
    rw [upd_ne (ne_of_none g na)]
    exact g
  · obtain ⟨m, g⟩ := B.tbls b ps q
    exact ⟨m, by rw [upd_ne (ne_of_none g na)]; exact g⟩
  · rw [upd_ne (Ne.symm nL)]
    exact I.free
  · rw [upd_ne (nc x c q)]
    exact I.freeC x c q
  · obtain ⟨p1, p2, p3⟩ := I.pin p hp
    exact ⟨p1, by rw [upd_ne (np p hp)]; exact p2, p3⟩
  · exact I.hok.laidN (fun _ _ q => q) na new
end
/-- what 'except x as n' wishes where the suite keeps the exception: slot i is n's -/
def wKeep (K : PySem.W.Frag) (c : Value) (i : Nat) (ts : Addr → Value → Option Addr → TS) (D : Ends) : WX := fun cls d τ G => PySem.W.exmOne K cls c = some true ∧ ∃ C dd, cls = .ref C ∧ d = some dd ∧
  ∀ a, G a = none → ts a cls d { nx := fun τ' G' => D.nx (τ'.set i none) (upd G' a (cau a C dd)), rt := fun _ _ => False, bk := fun _ _ => False, ct := fun _ _ => False } (τ.set i (some (.ref a))) G
section
variable {X : Cx} {x n : Str} {c : Value} {i : Nat} {body suite : List Stmt} {b0 : Stmt} {np pos pos1 : Pos} {tb : WX → TS} {ts : Addr → Value → Option Addr → TS}
theorem ps_try_keep (h1 : X.stack = X.env :: X.outer) (h2 : X.env.frame = some X.env.locals) (hex : X.ex = []) (nd : X.N.Nodup) (at_ : X.N[i]? = some n) (lc : X.env.kindOf n = some .local) (nm : Names X x c)
    (hB : ∀ (W : WX) (pn : List (Addr × Obj)) (xe : Value → Shared → Prop), Takes (X.tr pn xe) W → PassesOwn (model X.prog X.w) X.A X.env xe → PSs (X.tr pn xe) body (tb W))
    (hS : ∀ (a : Addr) (oe : Obj) (cls : Value) (d : Option Addr) (pn : List (Addr × Obj)), Zc cls d oe → (∃ vs, oe.data = .fields vs) → PSs (X.suite a ((a, oe) :: pn)) (b0 :: suite) (ts a cls d)) :
    PS X (.Try body [.ExceptHandler (some (.Name x np)) (some n) (b0 :: suite) pos1] [] [] pos) (fun D τ G => tb (wKeep X.K c i ts D) D τ G) := by
  refine ⟨fun pins t τ G D J0 hq => ?_⟩
  have okX := J0.ok
  have fr : X.A.frames = some (X.env :: X.outer) := okX.frames.trans (congrArg some h1)
  refine wpAny_Try_except (wpAny_mono ((hB (wKeep X.K c i ts D) (X.pn ++ pins) (fun e t1 => wpAny (model X.prog X.w) X.A (noteFrame e X.env) (fun _ t2 => wpAny (model X.prog X.w) X.A (setFlight e none) (fun _ t3 =>
    wpAny (model X.prog X.w) X.A (handleBy e X.env [.ExceptHandler (some (.Name x np)) (some n) (b0 :: suite) pos1]) (SP X pins D) X.xe t3) X.xe t2) X.xe t1) (fun u t' air => ?_) PassesOwn.looking).run [] t τ G D (J0.toTry _) hq) (fun f t1 z => ?_) fun _ _ z => z)
  · obtain ⟨a, B, tI, pins', τ', G', cls, d, rfl, JT, keepB, up, sky, na, os, ag, hm, C, dd, rfl, rfl, yes⟩ := air
    have JI : Inv X pins τ' G' tI := JT.ofTry okX
    have skyX : Sky B (X.env :: X.outer) a (Zc (.ref C) (some dd)) X.env.locals t'.heap := h1 ▸ sky
    have Ba : B.get? a = none := by
      rcases skyX with z | z | z
      · exact z.2.1
      · exact z.2.1
      · exact z.2.1
    show wpAny (model X.prog X.w) X.A (noteFrame (.ref a) X.env) _ _ _
    refine Sky.land Zc.steady fr h2 skyX fun g3 fl3 up3 => ?_
    have J3 : Inv X pins τ' G' { t' with heap := g3 } := JI.landed keepB fl3.1 (up.trans up3) os ag
    obtain ⟨o3, v3, he3, hz3, hd3⟩ := fl3.there
    have notF : a ∉ frs (X.env :: X.outer) := fun q => by
      obtain ⟨_, o', e', no⟩ := fl3.2.2.1.mem q
      rw [he3] at e'
      cases e'
      exact no _ hd3
    have tIa : tI.heap.get? a = none := by
      cases q : tI.heap.get? a with
      | none => rfl
      | some o =>
        have z := keepB a o q (by rw [h1]; exact notF)
        rw [Ba] at z
        cases z
    have s0a : X.s_0.heap.get? a = none := by
      cases q : X.s_0.heap.get? a with
      | none => rfl
      | some o =>
        obtain ⟨o', z⟩ := JI.base.there a o q (by rw [hex]; exact List.not_mem_nil)
        rw [tIa] at z
        cases z
    have pinA : ∀ p ∈ X.pn ++ pins, p.1 ≠ a := fun p hp z => by
      have q := (JI.pin p hp).1
      rw [z, tIa] at q
      cases q
    have nL : a ≠ X.env.locals := fun z => notF (List.mem_filterMap.mpr ⟨X.env, List.mem_cons_self, by rw [h2, z]⟩)
    have nF : a ∉ X.fs := fun q => by
      obtain ⟨e, he, z⟩ := List.mem_filterMap.mp q
      exact notF (List.mem_filterMap.mpr ⟨e, List.mem_cons_of_mem _ he, z⟩)
    have S3 := J3.suite he3 hd3 na nL nF
    refine wpAny_handleBy_cons (codeAny_handlers_test ?_) (by intro q; cases q)
    have LT : PySem.W.Looks (model X.prog X.w) g3 (typeOf (.ref a)) (.ref C) := fun _ _ _ _ k q => wpAny_typeOf_ref (k _ _ he3) (hz3.1.symm ▸ q)
    have LM := PySem.W.exm_one (M := model X.prog X.w) J3.kIn LT hm
    have named : ∀ {Q : Value → Shared → Prop} {E : Value → Shared → Prop}, Q c { t' with heap := g3 } → wpAny (model X.prog X.w) (X.A.mark (some (.ref a))) (eval (.Name x np) X.env) Q E { t' with heap := g3 } := fun q => by
      obtain ⟨gl, db, mg | ⟨mg, bv, nn⟩⟩ := nm
      · exact ld_glob (X := X.suite a ((a, o3) :: (X.pn ++ pins))) S3 gl mg q db
      · exact ld_blt (X := X.suite a ((a, o3) :: (X.pn ++ pins))) S3 gl mg bv q nn db
    refine named (LM.here (codeAny_handlers_suite_as (HandSPX.lands_againZ fl3 fun g4 fl4 up4 => ?_)))
    have J4 : Inv X pins τ' G' { t' with heap := g4 } := JI.landed keepB fl4.1 ((up.trans up3).trans up4) os ag
    obtain ⟨o4, v4, he4, hz4, hd4⟩ := fl4.there
    have S4 := J4.suite he4 hd4 na nL nF
    refine store_ok (X := X.suite a ((a, o4) :: (X.pn ++ pins))) (v := .ref a) S4 nd at_ (.inl lc) rfl (fun t5 S5 => ?_) (.inr lc)
    refine wpAny_mono ((hS a o4 (.ref C) (some dd) (X.pn ++ pins) hz4 ⟨_, hd4⟩).run [] t5 _ G' _ S5 (yes a na)) (fun f t6 z => ?_) fun _ _ z => z.elim
    cases f with
    | next =>
      obtain ⟨τ6, G6, S6, q6⟩ := z
      obtain ⟨p1, p2, _⟩ := S6.pin (a, o4) (List.mem_append_left _ List.mem_cons_self)
      have U : Inv X pins τ6 (upd G6 a (cau a C dd)) t6 := (S6.unsuite okX).track s0a p2 nL (fun y k q z => by
        obtain ⟨v, o, e1, e2⟩ := S6.cell y k q
        rw [z, p1] at e1
        cases e1
        rw [hd4] at e2
        cases e2) pinA (cau_ok p1 hz4 hd4)
      exact gone_ok U nd at_ lc fun t7 J7 => ⟨_, _, J7, q6⟩
    | brk =>
      obtain ⟨_, _, _, q6⟩ := z
      exact q6.elim
    | cont =>
      obtain ⟨_, _, _, q6⟩ := z
      exact q6.elim
    | ret u =>
      obtain ⟨_, _, _, _, _, q6⟩ := z
      exact q6.elim
  · cases f with
    | next =>
      obtain ⟨τ', G', J', q⟩ := z
      exact wpAny_execs_nil ⟨τ', G', J'.ofTry okX, q⟩
    | brk =>
      obtain ⟨τ', G', J', q⟩ := z
      exact ⟨τ', G', J'.ofTry okX, q⟩
    | cont =>
      obtain ⟨τ', G', J', q⟩ := z
      exact ⟨τ', G', J'.ofTry okX, q⟩
    | ret u =>
      obtain ⟨v, τ', G', J', r, q⟩ := z
      exact ⟨v, τ', G', J'.ofTry okX, r, q⟩
end
end L2
set_option Elab.async false
set_option linter.all false
set_option maxRecDepth 100000
set_option maxHeartbeats 4000000
/-! isinstance and a field of an exception that was caught and kept -/
namespace L2
open PySem PySem.Spec PyProof.Rows
def rIsC (K : PySem.W.Frag) : List V → Hp → VK → Prop := fun xs H Q => ∃ (a C d : Addr) (fs : List (Str × V)) (c : V) (u : Value) (b : Bool), xs = [.ref a, c] ∧ ClsV c u ∧ H a = some (cau a C d) ∧ H d = some (.xd fs) ∧ XcA K C ∧ PySem.W.kitOne K (.ref C) u = some b ∧ Q (.bl b) H
def tCauF (K : PySem.W.Frag) (f : Str) (te : TE) : TE := fun σ H Q => te σ H fun x G => ∃ (a C d : Addr) (fs : List (Str × V)) (v : V), x = .ref a ∧ G a = some (cau a C d) ∧ G d = some (.xd fs) ∧ XcA K C ∧ PySem.W.findIn K (.ref C) f = some none ∧ fs.lookup f = some v ∧ Q v G
section
variable {X : Cx} {pins : List (Addr × Obj)} {σ : St} {H : Hp} {s : Shared}
theorem cau_inst {a C d : Addr} {fs : List (Str × V)} (I : Inv X pins σ H s) (e1 : H a = some (cau a C d)) (e2 : H d = some (.xd fs)) : ∃ (oe od : Obj) (mA : Str → Option Value), PySem.W.InstAt s.heap a oe C (some od) ∧ (∀ g, PySem.W.lookIn g od = some (mA g)) ∧ ∀ g, RelO (fs.lookup g) (mA g) := by
  obtain ⟨oe, vs, ho, hz, hd⟩ := cau_at I.hok e1
  have z : ObjOk X.prog X.w H s.heap d (.xd fs) := I.hok d _ e2
  obtain ⟨mA, hns, rel⟩ := z
  obtain ⟨od, hod, hlk⟩ := lookIn_ns hns
  exact ⟨oe, od, mA, ⟨ho, hz.1, by unfold PySem.W.notCls; rw [hd], by rw [hz.2]; exact hod⟩, hlk, rel⟩
theorem call_isC : CallR X (.builtin "isinstance") (rIsC X.K) := by
  intro pins s σ H xs us Q I r h
  obtain ⟨a, C, d, fs, c, u, b, rfl, k, e1, e2, A, e, q⟩ := h
  obtain ⟨u1, u2, rfl, r1, r2⟩ := vals2 r
  obtain rfl := k.eq r2
  cases (show u1 = Value.ref a from r1)
  obtain ⟨oe, od, _, J, _⟩ := cau_inst I e1 e2
  exact PySem.W.kia_one (PySem.W.kitx_exc A.cls A.hg A.hk A.hs A.ha A.hn A.ht A.hm) I.kIn J e (fun z => nomatch z) fun tk => ⟨.bl b, H, I.tok tk, rfl, q⟩
theorem pe_cauf {e : Expr} {te : TE} {f : Str} {pos : Pos} (he : PE X e te) (hb : attributeBase e f X.env (eval e X.env) = eval e X.env := by rfl) : PE X (.Attribute e f pos) (tCauF X.K f te) := by
  refine ⟨fun pins s σ H Q I h => attr_of hb (thn (he.run pins s σ H _ I h) fun u t z => ?_)⟩
  obtain ⟨x, G, J, rx, a, C, d, fs, v, rfl, e1, e2, A, hno, hl, q⟩ := z
  obtain rfl : u = Value.ref a := rx
  obtain ⟨oe, od, mA, IA, hlk, rel⟩ := cau_inst J e1 e2
  obtain ⟨u, hu, ru⟩ := RelO.some_of (v := v) (o := mA f) (by rw [← hl]; exact rel f)
  exact HandSPX.exc_get J.kIn IA A.hg A.hk A.hs (PySem.W.findObj_own A.hd hno rfl (by rw [hlk, hu])) (handed_of ru) ⟨v, G, J.tok _, ru, q⟩
end
end L2
set_option Elab.async false
set_option linter.all false
set_option maxRecDepth 100000
set_option maxHeartbeats 4000000
namespace Lw
open PySem PySem.Spec PyProof.Rows L2 TKS
/-- the class of unknown moments at U, that of all errors at B -/
structure Um (K : PySem.W.Frag) (mg : Str → Option Value) (U B : Addr) : Prop where
  g : mg "UnknownMoment" = some (.ref U)
  gB : mg "TaleError" = some (.ref B)
  o : OexC K U
  a : XcA K U
  no : PySem.W.findIn K (.ref U) "name" = some none
  te : PySem.W.exmOne K (.ref U) (.ref B) = some true
  kit : PySem.W.kitOne K (.ref U) (.ref U) = some true
abbrev s_ini : Stmt := inClass (topS 4) 0
theorem sc_ini : FnScope ["self", "name"] ["self", "name"] (defScope s_ini) := ⟨rfl, rfl, rfl, by decide +kernel, rfl, by decide +kernel, by decide +kernel⟩
/-- no text: its type's name -/
inductive Odd (H : Hp) : V → String → Prop
  | non : Odd H .non "NoneType"
  | int (i : Int) : Odd H (.int i) "int"
  | bl (b : Bool) : Odd H (.bl b) "bool"
  | tup {a : Addr} {xs : List V} (h : H a = some (.tup xs)) : Odd H (.ref a) "tuple"
  | lst {a : Addr} {xs : List V} (h : H a = some (.lst xs)) : Odd H (.ref a) "list"
theorem Odd.same {H H' : Hp} {v : V} {t : String} (s : Same H H') (h : Odd H v t) : Odd H' v t := by
  cases h with
  | non => exact .non
  | int i => exact .int i
  | bl b => exact .bl b
  | tup h => exact .tup (s _ _ h)
  | lst h => exact .lst (s _ _ h)
theorem Odd.ty {K : PySem.W.Frag} {H : Hp} {v : V} {t : String} (h : Odd H v t) : TyX K H v (.type t) := by
  cases h with
  | non => exact .base .non
  | int i => exact .base (.int i)
  | bl b => exact .base (.bl b)
  | tup h => exact .base (.tup h)
  | lst h => exact .base (.lst h)
theorem Odd.kit {K : PySem.W.Frag} {H : Hp} {v : V} {t : String} (h : Odd H v t) : PySem.W.kitOne K (.type t) (.type "str") = some false := by
  cases h <;> rfl
/-- as Df, for a def that may raise -/
structure DfX (P : Program) (w : World) (K : PySem.W.Frag) (mg : Str → Option Value) (base : Heap) (x : Str) (k : Nat) (ps : List Str) (sp : Sp) : Prop where
  ex : ∃ (f : Addr) (fd : FuncData), FnOk P w K mg base (L2.CX P w) k f fd ps sp ∧ mg x = some (.ref f) ∧ PySem.W.keepIn K (.ref f) = true ∧ Binds K fd ps []
theorem Fn.dfX {P : Program} {w : World} {K : PySem.W.Frag} {mg : Str → Option Value} {base : Heap} {x : Str} {st : Stmt} {k : Nat} {ps : List Str} {sp : Sp} (F : Fn K mg x st)
    (hb : ∀ (kV doc pm : Value) (an : Option Addr) (cdv ct : Value) (us : List Value), us.length = ps.length → bindArgs (PySem.W.fnOf x x (defArgs st) (defBody st) (defScope st) .none kV doc pm an cdv ct) ⟨us, []⟩ = pure (ps.zip us))
    (ok : ∀ (f : Addr) (fd : FuncData), Fun K x x st f fd → FnOk P w K mg base (L2.CX P w) k f fd ps sp) : DfX P w K mg base x k ps sp := by
  obtain ⟨f, fd, F, m⟩ := F
  exact ⟨f, fd, ok f fd F, m, F.kp, F.binds hb⟩
/-- U's __init__ as it stands -/
structure UIni (P : Program) (w : World) (K : PySem.W.Frag) (mg : Str → Option Value) (base : Heap) (U : Addr) : Prop where
  ex : ∃ (fI : Addr) (fd : FuncData), FnOk P w K mg base CX0 1 fI fd ["self", "name"] (L2.spInit K "name") ∧ PySem.W.findIn K (.ref U) "__init__" = some (some (.ref fI)) ∧ PySem.W.typeIn K (.ref fI) = some (.type "function") ∧ Binds K fd ["self", "name"] []
/-- v is no moment of the order -/
def Bad (H : Hp) (kvs : List (Key × V)) (v : V) : Prop := (∃ m, v = .str m ∧ valV kvs (Sum.inr m) = none) ∨ ∃ t, Odd H v t
/-- v is no moment of the tale -/
def BadM (H : Hp) (S : List Sen) (v : V) : Prop := (∃ m, v = .str m ∧ m ∉ S.map (·.2)) ∨ ∃ t, Odd H v t
/-- raised with v -/
def Lifts (U : Addr) (H : Hp) (E : XK) (v : V) : Prop := ∀ H' d, Same H H' → H d = none → H' d = some (.xd [("name", v)]) → E (.ref U) (some d) H'
def spNumX (C U : Addr) : Sp := fun vs H Q E => ∃ x v G kvs A, vs = [.ref x, v] ∧ Ord C H x G kvs A ∧ ((∃ m i, v = .str m ∧ valV kvs (Sum.inr m) = some (.int (i : Nat)) ∧ Q (.int (i : Nat)) H) ∨ (Bad H kvs v ∧ Lifts U H E v))
section
variable {P : Program} {w : World} {K : PySem.W.Frag} {mg : Str → Option Value} {base : Heap} {C U BE : Addr} {aM aF aB aW : Addr}
theorem ok_ini {fI : Addr} {fd : FuncData} (F : FunD K "__init__" "UnknownMoment.__init__" (defArgs s_ini) (defBody s_ini) (defScope s_ini) [.non] [] fI fd) (iC : PySem.W.findIn K (.ref U) "__init__" = some (some (.ref fI))) (tI : PySem.W.typeIn K (.ref fI) = some (.type "function")) : UIni P w K mg base U := by
  refine ⟨fI, fd, F.ok sc_ini (fun vs H Q E h => ?_) (fun cdv A outer s H vs Q E hr h => ?_), iC, tI, ?_⟩
  · obtain ⟨a, C, v, rfl, _⟩ := h
    rfl
  · obtain ⟨a, C, v, rfl, O, n, e, q⟩ := h
    refine ⟨_, pss_one (ps_ost (pv 0) (pv 1)), ?_⟩
    exact ⟨v, rfl, .ref a, rfl, a, C, rfl, O, n, .inl ⟨e, fun dx h1 h2 => q dx h1 h2⟩⟩
  · obtain ⟨ds, rd, b⟩ := F.binds1 (ps := ["self", "name"]) 2 1 (by simp) rfl (fun T kV doc pm an cdv ct us its l1 l2 => match us, its, l1, l2 with | [_, _], [_], _, _ => ⟨_, rfl, rfl⟩)
    cases rd
    exact b
theorem lift_run {H : Hp} {E : XK} {v : V} {a : Addr} (M : Um K mg U BE) (na : H a = none) (L : Lifts U H E v) : L2.spInit K "name" [.ref a, v] (upd H a (exo a U none))
    (fun u G => u = .non ∧ ∃ (d : Addr) (fs : List (Str × V)), G a = some (exo a U (some d)) ∧ G d = some (exd d fs) ∧ H d = none ∧ E (.ref U) (some d) (upd (del G a) d (.xd fs))) (fun _ _ _ => False) := by
  refine ⟨a, U, v, rfl, M.o, M.no, upd_same, fun dx nd ne => ⟨rfl, dx, _, upd_same, by rw [upd_ne ne, upd_same], ?_, ?_⟩⟩
  · rw [upd_ne ne] at nd
    exact nd
  · rw [upd_ne ne] at nd
    refine L _ dx (fun b o e => ?_) nd upd_same
    have b1 : b ≠ a := ne_of_none e na
    have b2 : b ≠ dx := ne_of_none e nd
    rw [upd_ne b2, del_ne b1, upd_ne b1, upd_ne b2, upd_ne b1]
    exact e
theorem ok_moment_numberX (T : Txt K mg) (B : Kls K mg C) (M : Um K mg U BE) (J : UIni P w K mg base U) (F : Fn K mg "moment_number" s_moment_number) : DfX P w K mg base "moment_number" 3 ["order", "name"] (spNumX C U) := by
  obtain ⟨fI, fdI, FI, iC, tI, bI⟩ := J.ex
  refine Fn.dfX F (fun _ _ _ _ _ _ us hl => match us, hl with | [_, _], _ => rfl) fun f fd F => F.okX sc_moment_number (fun vs H Q E h => ?_) (fun cdv AA outer s H vs Q E hr h => ?_)
  · obtain ⟨x, v, G, kvs, A, rfl, _⟩ := h
    rfl
  · obtain ⟨x, v, G, kvs, A, rfl, ⟨dx, g, n, f, h1, h2, h3, h4⟩, hq⟩ := h
    have hu := Nat.lt_of_le_of_lt (Nat.add_le_add_left (by decide : 1 ≤ 64) _) hr.units
    refine ⟨_, pss_cons (ps_if (PW.pt (pw_or (pt_not (pt_val (pe_callB call_isi (by rfl) T.m_isinstance (by decide +kernel) (pa_cons (pv 1) (pa_cons (pe_bltn (v := .ty "str") (by rfl) T.m_str boot_str rfl) (pa_nil)))))) (pw_or1 (pt_cmp (pc_dnotin hu (pv 1) (pe_fld (pv 0) rfl)))))) (pss_one (ps_raise rfl (takes_of rfl rfl rfl rfl) (pmk_oex M.o iC tI FI (hr.mono (by decide)) bI .nil pass0 (by rfl) M.g (pa_cons (pv 1) pa_nil)))) (pss_nil))
    (pss_one (ps_ret (pe_dget hu (pe_fld (pv 0) rfl) (pv 1) (fun _ _ => rfl)))), ?_⟩
    rcases hq with ⟨m, i, rfl, hv, q⟩ | ⟨⟨m, rfl, hv⟩ | ⟨t, o⟩, L⟩
    · refine ⟨_, rfl, _, _, _, _, true, rfl, .ty "str", .base (.str m), rfl, true, rfl, iteF ?_⟩
      refine ⟨_, rfl, _, rfl, x, C, dx, _, .ref n, rfl, h1, B.c, B.n2, rfl, n, _, rfl, dget_int h3 hv, _, rfl, iteF ?_⟩
      exact ⟨_, rfl, x, C, dx, _, .ref n, rfl, h1, B.c, B.n2, rfl, _, rfl, n, _, rfl, dget_int h3 hv, q⟩
    · refine ⟨_, rfl, _, _, _, _, true, rfl, .ty "str", .base (.str m), rfl, true, rfl, iteF ?_⟩
      refine ⟨_, rfl, _, rfl, x, C, dx, _, .ref n, rfl, h1, B.c, B.n2, rfl, n, none, rfl, hv ▸ DGet.k (k := Sum.inr m) h3, _, rfl, iteT ?_⟩
      exact ⟨_, rfl, by show 1 ≤ 1000; decide, fun a na => lift_run M na L⟩
    · refine ⟨_, rfl, _, _, _, _, false, rfl, .ty "str", o.ty, o.kit, false, rfl, iteT (iteT ?_)⟩
      exact ⟨_, rfl, by show 1 ≤ 1000; decide, fun a na => lift_run M na L⟩
def spRelX (K : PySem.W.Frag) (U : Addr) : Sp := fun vs H Q E => ∃ a S v1 v2, vs = [.ref a, v1, v2] ∧ TaleAt K H a S ∧ TaleOk S ∧
  ((BadM H S v1 ∧ Lifts U H E v1) ∨ ((∃ m, v1 = .str m ∧ m ∈ S.map (·.2)) ∧ BadM H S v2 ∧ Lifts U H E v2))
theorem conn_in {E : List (Str × Str)} {ts : List Str} (hE : ∀ e ∈ E, e.1 ∈ ts ∧ e.2 ∈ ts) {x y : Str} (h : Conn E x y) : x ∈ ts ↔ y ∈ ts := by
  induction h with
  | refl => exact Iff.rfl
  | edge h => exact ⟨fun _ => (hE _ h).2, fun _ => (hE _ h).1⟩
  | symm _ ih => exact ih.symm
  | trans _ _ a b => exact a.trans b
theorem BadM.bad {H H' : Hp} {S : List Sen} {G : List (List Str)} {kvs : List (Key × V)} {L : List (Str × Str)} {v : V} (s : Same H H') (iG : IsGroups (S.map (·.2)) L G) (N : NumOk kvs G) (hE : ∀ e ∈ L, e.1 ∈ S.map (·.2) ∧ e.2 ∈ S.map (·.2)) (b : BadM H S v) : Bad H' kvs v := by
  rcases b with ⟨m, rfl, hm⟩ | ⟨t, o⟩
  · refine .inl ⟨m, rfl, ?_⟩
    cases e : valV kvs (Sum.inr m) with
    | none => rfl
    | some u =>
      obtain ⟨k, ⟨g, hg, hmg⟩, _⟩ := N.own m u e
      obtain ⟨x, l, hx, _, hl, pm, _⟩ := iG.own g (List.mem_of_getElem? hg)
      exact absurd ((conn_in hE ((hl m).mp (pm.mem_iff.mp hmg))).mp hx) hm
  · exact .inr ⟨t, o.same s⟩
theorem ok_relationX (T : Txt K mg) (B : Kls K mg C) (M : Um K mg U BE) (J : UIni P w K mg base U) (F : Fn K mg "relation" s_relation) (FN : Fn K mg "moment_number" s_moment_number) (G_tale_order : Df P w K mg base "tale_order" 7 ["tale"] (spOrder K C)) (M_precedes : Mt P w K mg base C "precedes" 1 ["self", "one", "other"] (spPrec C)) :
    DfX P w K mg base "relation" 8 ["tale", "a", "b"] (spRelX K U) := by
  obtain ⟨fM, fdM, FM, mM, kM, bM⟩ := (ok_moment_numberX (base := base) T B M J FN).ex
  refine Fn.dfX F (fun _ _ _ _ _ _ us hl => match us, hl with | [_, _, _], _ => rfl) fun f fd F => F.okX sc_relation (fun vs H Q E h => ?_) (fun cdv AA outer s H vs Q E hr h => ?_)
  · obtain ⟨a, S, v1, v2, rfl, _⟩ := h
    rfl
  · obtain ⟨a, S, v1, v2, rfl, hT, ok, hq⟩ := h
    refine ⟨_, pss_cons (ps_set (i := 3) sc_relation.nd rfl (by first | exact Or.inl rfl | exact Or.inr rfl) (pe_df G_tale_order (hr.mono (by decide)) (by rfl) (pa_cons (pv 0) (pa_nil))))
    (pss_cons (ps_set (i := 4) sc_relation.nd rfl (by first | exact Or.inl rfl | exact Or.inr rfl) (pe_callS FM (hr.mono (by decide)) (by rfl) mM kM bM (fun σ => passAt (takes_of rfl rfl rfl rfl) σ) (pa_cons (pv 3) (pa_cons (pv 1) pa_nil))))
    (pss_cons (ps_set (i := 5) sc_relation.nd rfl (by first | exact Or.inl rfl | exact Or.inr rfl) (pe_callS FM (hr.mono (by decide)) (by rfl) mM kM bM (fun σ => passAt (takes_of rfl rfl rfl rfl) σ) (pa_cons (pv 3) (pa_cons (pv 2) pa_nil))))
    (pss_cons (ps_if (pt_cmpR op_eq (pv 4) (pv 5) (nomark _)) (pss_one (ps_ret (pe_str))) (pss_nil))
    (pss_cons (ps_if (pt_val (pe_mt B.c M_precedes (hr.mono (by decide)) (pv 3) (pa_cons (pv 4) (pa_cons (pv 5) pa_nil)))) (pss_one (ps_ret (pe_str))) (pss_nil))
    (pss_cons (ps_if (pt_val (pe_mt B.c M_precedes (hr.mono (by decide)) (pv 3) (pa_cons (pv 5) (pa_cons (pv 4) pa_nil)))) (pss_one (ps_ret (pe_str))) (pss_nil))
    (pss_one (ps_ret (pe_str)))))))), ?_⟩
    refine ⟨_, rfl, a, S, rfl, hT, ok, fun x H1 s1 nx hO _ => ?_⟩
    obtain ⟨G, kvs, ms, ord, iG, N, St⟩ := hO.ord
    have hE : ∀ e ∈ sameL (linksL "" S), e.1 ∈ S.map (·.2) ∧ e.2 ∈ S.map (·.2) := fun e he => by
      obtain ⟨l, hl, rfl⟩ := List.mem_map.mp he
      exact links_in ok.first (List.mem_filter.mp hl).1
    have lift : ∀ {v}, Lifts U H E v → Lifts U H1 E v := fun {v} L H' d s n e => L H' d (s1.trans s) (by
      cases q : H d with
      | none => rfl
      | some o => rw [s1 _ _ q] at n; cases n) e
    rcases hq with ⟨b1, L1⟩ | ⟨⟨m, rfl, hm⟩, b2, L2⟩
    · exact ⟨_, rfl, _, rfl, x, v1, G, kvs, _, rfl, ord, .inr ⟨b1.bad s1 iG N hE, lift L1⟩⟩
    · obtain ⟨g, hg, hmg⟩ := iG.all m hm
      obtain ⟨i, e⟩ := List.getElem?_of_mem hg
      refine ⟨_, rfl, _, rfl, x, .str m, G, kvs, _, rfl, ord, .inl ⟨m, i, rfl, N.all i m ⟨g, e, hmg⟩, ?_⟩⟩
      exact ⟨_, rfl, _, rfl, x, v2, G, kvs, _, rfl, ord, .inr ⟨b2.bad s1 iG N hE, lift L2⟩⟩
end
end Lw
set_option Elab.async false
set_option linter.all false
set_option maxRecDepth 100000
set_option maxHeartbeats 4000000
namespace Lw
open PySem PySem.Spec PyProof.Rows L2 TKS
def spRefused (K : PySem.W.Frag) : Sp := fun vs H Q _ => ∃ a S v1 v2 v, vs = [.ref a, v1, v2] ∧ TaleAt K H a S ∧ TaleOk S ∧ ((BadM H S v1 ∧ v = v1) ∨ ((∃ m, v1 = .str m ∧ m ∈ S.map (·.2)) ∧ BadM H S v2 ∧ v = v2)) ∧
  ∀ p H', Same H H' → H p = none → H' p = some (.lst [.str "UnknownMoment", v]) → Q (.ref p) H'
section
variable {P : Program} {w : World} {K : PySem.W.Frag} {mg : Str → Option Value} {base : Heap} {C U BE : Addr}
theorem ok__law_refused (T : Txt K mg) (M : Um K mg U BE) (F : Fn K mg "_law_refused" s__law_refused) (GX : DfX P w K mg base "relation" 8 ["tale", "a", "b"] (spRelX K U)) : Df P w K mg base "_law_refused" 9 ["story", "one", "two"] (spRefused K) := by
  obtain ⟨fR, fdR, FR, mR, kR, bR⟩ := GX.ex
  refine F.df (fun _ _ _ _ _ _ us hl => match us, hl with | [_, _, _], _ => rfl) fun f fd F => F.ok sc__law_refused (fun vs H Q E h => ?_) (fun cdv AA outer s H vs Q E hr h => ?_)
  · obtain ⟨a, S, v1, v2, v, rfl, _⟩ := h
    rfl
  · obtain ⟨a, S, v1, v2, v, rfl, hT, ok, hb, q⟩ := h
    refine ⟨_, pss_cons (ps_set (i := 3) sc__law_refused.nd rfl (by first | exact Or.inl rfl | exact Or.inr rfl) (pe_non))
    (pss_cons (ps_try_keep (i := 4) rfl rfl rfl sc__law_refused.nd rfl rfl ⟨rfl, by decide, .inl M.gB⟩ (fun W pn xe tk _ => pss_one (ps_expr (pe_callS FR (hr.mono (by decide)) (by rfl) mR kR bR (fun σ => passAt tk σ) (pa_cons (pv 0) (pa_cons (pv 1) (pa_cons (pv 2) pa_nil)))))) (fun a oe cls d pn hz hf => pss_one (ps_set (i := 3) sc__law_refused.nd rfl (by first | exact Or.inl rfl | exact Or.inr rfl) (pv 4))))
    (pss_cons (ps_if (pt_not (pt_val (pe_callB call_isC (by rfl) T.m_isinstance (by decide +kernel) (pa_cons (pv 3) (pa_cons (pe_glob (v := .ref U) (by rfl) M.g rfl) pa_nil))))) (pss_one (ps_ret (pe_lst (pa_cons (pe_non) (pa_nil))))) (pss_nil))
    (pss_one (ps_ret (pe_lst (pa_cons (pe_str) (pa_cons (pe_cauf (pv 3)) (pa_nil)))))))), ?_⟩
    have key : ∀ {E' : XK}, Lifts U H E' v → (BadM H S v1 ∧ Lifts U H E' v1) ∨ ((∃ m, v1 = .str m ∧ m ∈ S.map (·.2)) ∧ BadM H S v2 ∧ Lifts U H E' v2) := fun L => by
      rcases hb with ⟨b, rfl⟩ | ⟨g, b, rfl⟩
      · exact .inl ⟨b, L⟩
      · exact .inr ⟨g, b, L⟩
    refine ⟨_, rfl, _, rfl, _, rfl, a, S, v1, v2, rfl, hT, ok, key fun H1 d s1 nd hd => ⟨M.te, U, d, rfl, rfl, fun a' na' => ?_⟩⟩
    have hd2 : (upd H1 a' (cau a' U d)) d = some (.xd [("name", v)]) := by
      rw [upd_ne (ne_of_none hd na')]
      exact hd
    have s2 : Same H (upd H1 a' (cau a' U d)) := s1.trans (same_upd na')
    have hc2 : (upd H1 a' (cau a' U d)) a' = some (cau a' U d) := upd_same
    refine ⟨_, rfl, _, rfl, a', U, d, _, .ref U, .ref U, true, rfl, .own U, hc2, hd2, M.a, M.kit, true, rfl, iteF ?_⟩
    refine ⟨_, rfl, a', U, d, _, v, rfl, hc2, hd2, M.a, M.no, rfl, by show 2 ≤ sizeLine; decide, fun p np => q p _ (s2.trans (same_upd np)) ?_ upd_same⟩
    cases h : H p with
    | none => rfl
    | some o => rw [s2 _ _ h] at np; cases np
end
end Lw
set_option Elab.async false
set_option linter.all false
set_option maxRecDepth 100000
/-! a def of the top called by keywords alone -/
namespace L2
open PySem PySem.Spec PyProof.Rows
structure DfK (P : Program) (w : World) (K : PySem.W.Frag) (mg : Str → Option Value) (base : Heap) (x : Str) (k : Nat) (ps ks : List Str) (sp : Sp) (gV : List V → List V) : Prop where
  ex : ∃ (f : Addr) (fd : FuncData) (g : List Value → List Value → List Value), FnOk P w K mg base CX0 k f fd ps sp ∧ mg x = some (.ref f) ∧ PySem.W.keepIn K (.ref f) = true ∧ KBn K fd ps 0 ks g fun _ zs => gV zs
theorem Fn.dfK {P : Program} {w : World} {K : PySem.W.Frag} {mg : Str → Option Value} {base : Heap} {x : Str} {st : Stmt} {k : Nat} {ps ks : List Str} {sp : Sp} {gV : List V → List V} (F : Fn K mg x st) (g : List Value → List Value → List Value)
    (rel : ∀ {vs us zs ws}, Vals vs us → Vals zs ws → Vals (gV zs) (g us ws))
    (hb : ∀ (kV doc pm : Value) (an : Option Addr) (cdv ct : Value) (us ws : List Value), us.length = 0 → ws.length = ks.length → bindArgs (PySem.W.fnOf x x (defArgs st) (defBody st) (defScope st) .none kV doc pm an cdv ct) ⟨us, ks.zip ws⟩ = pure (ps.zip (g us ws)))
    (ok : ∀ (f : Addr) (fd : FuncData), Fun K x x st f fd → FnOk P w K mg base CX0 k f fd ps sp) : DfK P w K mg base x k ps ks sp gV := by
  obtain ⟨f, fd, F, m⟩ := F
  refine ⟨f, fd, g, ok f fd F, m, F.kp, ⟨fun s us ws _ l1 l2 => ?_, fun r z => rel r z⟩⟩
  obtain ⟨_, _, kV, doc, pm, an, cdv, ct, _, rfl, _, _⟩ := F.ex
  exact .of_eq (hb kV doc pm an cdv ct us ws l1 l2)
def tCallKw0 (m : Nat) (sp : Sp) (gV : List V → List V) (tk : TA) : TE := fun σ H Q => tk σ H fun zs H1 => zs.length = m ∧ sp (gV zs) H1 Q E0
theorem pe_dfK {X : Cx} {k : Nat} {ps ks : List Str} {sp : Sp} {gV : List V → List V} {x : Str} {p pos : Pos} {kws : List Keyword} {tk : TA} (G : DfK X.prog X.w X.K X.mg X.base x k ps ks sp gV) (hr : Room k X.A) (hg : Gl X x) (hkw : PK X kws tk)
    (hall : (backToKw pos (keywordEach kws X.env)).all (·.1.isSome) = true := by rfl) (hks : (backToKw pos (keywordEach kws X.env)).filterMap (·.1) = ks := by rfl) (hdb : (x == ("__debug__" : Str)) = false := by decide)
    (hpl : ((backTo pos (starEach ([] : List Expr) X.env)).any (·.1) || (backToKw pos (keywordEach kws X.env)).any (·.1.isNone)) = false := by rfl) : PE X (.Call (.Name x p) [] kws pos) (tCallKw0 ks.length sp gV tk) := by
  obtain ⟨f, fd, g, F, m, kp, b⟩ := G.ex
  refine ⟨fun pins s σ H Q I h => ?_⟩
  refine wpAny_Call_Name_kw (ld_glob I hg m (PySem.W.callWith_KW0 (h₀ := X.base) I.ok.mod.kin kp hall ?_ hpl) hdb)
  refine thn (hkw.run pos pins s σ H _ I h) fun ws t ⟨zs, G, J, rz, l, q⟩ => ⟨J.kIn, ?_⟩
  rw [hks]
  exact run_fnN (us := []) (vs := []) F hr b pass0 J .nil rz rfl l q
end L2
set_option Elab.async false
set_option linter.all false
set_option maxRecDepth 100000
set_option maxHeartbeats 4000000
namespace Lw
open PySem PySem.Spec PyProof.Rows L2 TKS
def spLaw (K : PySem.W.Frag) : Sp := fun vs H Q _ => ∃ (a : Addr) (ns : List Int), vs = [.ref a] ∧ SqL K H a (ns.map V.int) ∧ ns.length ≤ 63 ∧ ∀ H', Q (.bl true) H'
theorem AfterAt.same {H H' : Hp} {d : Addr} {hs : List Str} {R : Rel Str} (s : Same H H') (h : AfterAt H d hs R) : AfterAt H' d hs R := by
  obtain ⟨kvs, f, h1, ok, D, n⟩ := h
  exact ⟨kvs, f, s _ _ h1, ok, D.move fun x _ o e => s _ _ e, n⟩
theorem ModelAt.same {H H' : Hp} {p : Addr} {N : List Str} {L : List Lnk} (s : Same H H') (h : ModelAt H p N L) : ModelAt H' p N L := by
  obtain ⟨d1, d2, hd, hs, R, h1, h2, h3, r⟩ := h.ex
  exact ⟨d1, d2, hd, hs, R, s _ _ h1, h2.same s, h3.same s, r⟩
theorem sqT_updP {K : PySem.W.Frag} {H : Hp} {t p : Addr} {xs ys : List V} {o : HO} (hp : H p = some (.lst ys)) (h : SqT K H t xs) : SqT K (upd H p o) t xs := by
  rcases h with (h | ⟨u, h⟩) | h
  · exact .inl (.inl (by rw [upd_ne fun z => by rw [z, hp] at h; cases h]; exact h))
  · exact .inl (.inr ⟨u, by rw [upd_ne fun z => by rw [z, hp] at h; cases h]; exact h⟩)
  · exact .inr h
theorem tale_updP {K : PySem.W.Frag} {H : Hp} {a p : Addr} {S : List Sen} {ys : List V} {o : HO} (hp : H p = some (.lst ys)) (h : TaleAt K H a S) : TaleAt K (upd H p o) a S := by
  obtain ⟨xs, q, r⟩ := h
  exact ⟨xs, sqT_updP hp q, r.imp fun x s ⟨t, e, z⟩ => ⟨t, e, sqT_updP hp z⟩⟩
theorem tale_q {K : PySem.W.Frag} {H : Hp} {a : Addr} {S : List Sen} (h : TaleAt K H a S) : TaleQ K H a S := by
  obtain ⟨xs, q, r⟩ := h
  exact ⟨xs, .inr q, r⟩
theorem IsRel.uniq {L : List Lnk} {x y r r' : Str} (a : IsRel L x y r) (b : IsRel L x y r') : r = r' := by
  by_cases c : Conn (sameL L) x y
  · rw [a.same c, b.same c]
  · by_cases d : Bef L x y
    · rw [a.bef c d, b.bef c d]
    · by_cases e : Bef L y x
      · rw [a.aft c d e, b.aft c d e]
      · rw [a.unk c d e, b.unk c d e]
theorem rel_is {ts : List Str} {L : List Lnk} {G : List (List Str)} {ms : List Nat} (iG : IsGroups ts (sameL L) G) (St : StepsOk G L ms) (hL : ∀ l ∈ L, l.1 ∈ ts ∧ l.2.1 ∈ ts) {i j : Nat} {x y : Str} (hx : InG G i x) (hy : InG G j y) : IsRel L x y (relOf (closeN ms.length ms) i j) := by
  have e1 := rel_same iG hx hy
  have e2 := rel_bef iG St hL hx hy
  have e3 := rel_bef iG St hL hy hx
  unfold relOf
  exact ⟨fun c => if_pos (e1.mpr c), fun c d => by rw [if_neg (fun z => c (e1.mp z)), if_pos (e2.mpr d)], fun c d e => by rw [if_neg (fun z => c (e1.mp z)), if_neg (fun z => d (e2.mp z)), if_pos (e3.mpr e)],
    fun c d e => by rw [if_neg (fun z => c (e1.mp z)), if_neg (fun z => d (e2.mp z)), if_neg (fun z => e (e3.mp z))]⟩
/-- an object that is not the purse -/
def Ob (p : Addr) (H : Hp) (a : Addr) (o : HO) : Prop := H a = some o ∧ a ≠ p
theorem Ob.but {p : Addr} {H H' : Hp} {a : Addr} {o : HO} (s : SameB p H H') (h : Ob p H a o) : Ob p H' a o := ⟨s _ _ h.2 h.1, h.2⟩
/-- the objects among the odd values -/
structure OddsAt (p : Addr) (H : Hp) (t1 l1 t2 t3 l2 l3 t4 : Addr) : Prop where
  h1 : Ob p H t1 (.tup [.str "m"])
  h2 : Ob p H l1 (.lst [.str "m"])
  h3 : Ob p H t2 (.tup [])
  h4 : Ob p H t3 (.tup [.str "m", .str "b"])
  h5 : Ob p H l2 (.lst [])
  h6 : Ob p H l3 (.lst [.str "m"])
  h7 : Ob p H t4 (.tup [.ref l3])
theorem OddsAt.but {p : Addr} {H H' : Hp} {t1 l1 t2 t3 l2 l3 t4 : Addr} (s : SameB p H H') (h : OddsAt p H t1 l1 t2 t3 l2 l3 t4) : OddsAt p H' t1 l1 t2 t3 l2 l3 t4 :=
  ⟨h.h1.but s, h.h2.but s, h.h3.but s, h.h4.but s, h.h5.but s, h.h6.but s, h.h7.but s⟩
def odds (t1 l1 t2 t3 l2 t4 : Addr) : List V := [.str "zz", .str "", .str "M", .non, .int 0, .bl true, .ref t1, .ref l1, .str "nineletrs", .ref t2, .ref t3, .ref l2, .str "{0}", .ref t4] ++ [.str "at", .str "then", .str "back", .str "later", .str "earlier", .str "with"]
/-- an odd value: no moment of any drawn tale; what it reads as -/
structure OddV (K : PySem.W.Frag) (H : Hp) (v : V) : Prop where
  bad : (∃ m, v = .str m ∧ m ∉ nm10) ∨ ∃ t, Odd H v t
  dp : ∃ dd, Dp K H v dd ∧ SeqAt.shaped (.list [.str "UnknownMoment", dd]) = true
theorem OddV.badM {K : PySem.W.Frag} {H : Hp} {v : V} {S : List Sen} (h : OddV K H v) (hS : ∀ s ∈ S, s.2 ∈ nm10) : BadM H S v := by
  rcases h.bad with ⟨m, e, n⟩ | o
  · exact .inl ⟨m, e, fun z => by
      obtain ⟨s, hs, rfl⟩ := List.mem_map.mp z
      exact n (hS s hs)⟩
  · exact .inr o
theorem OddV.dpS {K : PySem.W.Frag} {H H' : Hp} {v : V} (h : OddV K H v) (s : Same H H') : ∃ dd, Dp K H' v dd ∧ SeqAt.shaped (.list [.str "UnknownMoment", dd]) = true := by
  obtain ⟨dd, hd, sh⟩ := h.dp
  exact ⟨dd, Dp.same s hd, sh⟩
theorem BadM.same {H H' : Hp} {S : List Sen} {v : V} (b : BadM H S v) (s : Same H H') : BadM H' S v := by
  rcases b with b | ⟨t, o⟩
  · exact .inl b
  · exact .inr ⟨t, o.same s⟩
theorem odd_str {K : PySem.W.Frag} {H : Hp} (m : Str) (n : m ∉ nm10) (h : SeqAt.shaped (.list [.str "UnknownMoment", .str m]) = true) : OddV K H (.str m) := ⟨.inl ⟨m, rfl, n⟩, _, .str m, h⟩
theorem odd_at {K : PySem.W.Frag} {p : Addr} {H : Hp} {t1 l1 t2 t3 l2 l3 t4 : Addr} (o : OddsAt p H t1 l1 t2 t3 l2 l3 t4) {d : Int} (h0 : 0 ≤ d) (h1 : d < 20) : ∃ v, atI (odds t1 l1 t2 t3 l2 t4) d = some v ∧ OddV K H v := by
  have m : Dp K H (.str "m") (.str "m") := .str _
  have b : Dp K H (.str "b") (.str "b") := .str _
  have c : d = 0 ∨ d = 1 ∨ d = 2 ∨ d = 3 ∨ d = 4 ∨ d = 5 ∨ d = 6 ∨ d = 7 ∨ d = 8 ∨ d = 9 ∨ d = 10 ∨ d = 11 ∨ d = 12 ∨ d = 13 ∨ d = 14 ∨ d = 15 ∨ d = 16 ∨ d = 17 ∨ d = 18 ∨ d = 19 := by omega
  rcases c with rfl | rfl | rfl | rfl | rfl | rfl | rfl | rfl | rfl | rfl | rfl | rfl | rfl | rfl | rfl | rfl | rfl | rfl | rfl | rfl
  · exact ⟨_, rfl, odd_str _ (by decide +kernel) (by decide +kernel)⟩
  · exact ⟨_, rfl, odd_str _ (by decide +kernel) (by decide +kernel)⟩
  · exact ⟨_, rfl, odd_str _ (by decide +kernel) (by decide +kernel)⟩
  · exact ⟨_, rfl, .inr ⟨_, .non⟩, _, .non, by decide +kernel⟩
  · exact ⟨_, rfl, .inr ⟨_, .int _⟩, _, .int _, by decide +kernel⟩
  · exact ⟨_, rfl, .inr ⟨_, .bl _⟩, _, .bl _, by decide +kernel⟩
  · exact ⟨_, rfl, .inr ⟨_, .tup o.h1.1⟩, _, .tup (SqT.of o.h1.1) (.cons m .nil), by decide +kernel⟩
  · exact ⟨_, rfl, .inr ⟨_, .lst o.h2.1⟩, _, .lst (SqL.of o.h2.1) (.cons m .nil), by decide +kernel⟩
  · exact ⟨_, rfl, odd_str _ (by decide +kernel) (by decide +kernel)⟩
  · exact ⟨_, rfl, .inr ⟨_, .tup o.h3.1⟩, _, .tup (SqT.of o.h3.1) .nil, by decide +kernel⟩
  · exact ⟨_, rfl, .inr ⟨_, .tup o.h4.1⟩, _, .tup (SqT.of o.h4.1) (.cons m (.cons b .nil)), by decide +kernel⟩
  · exact ⟨_, rfl, .inr ⟨_, .lst o.h5.1⟩, _, .lst (SqL.of o.h5.1) .nil, by decide +kernel⟩
  · exact ⟨_, rfl, odd_str _ (by decide +kernel) (by decide +kernel)⟩
  · exact ⟨_, rfl, .inr ⟨_, .tup o.h7.1⟩, _, .tup (SqT.of o.h7.1) (.cons (.lst (SqL.of o.h6.1) (.cons m .nil)) .nil), by decide +kernel⟩
  · exact ⟨_, rfl, odd_str _ (by decide +kernel) (by decide +kernel)⟩
  · exact ⟨_, rfl, odd_str _ (by decide +kernel) (by decide +kernel)⟩
  · exact ⟨_, rfl, odd_str _ (by decide +kernel) (by decide +kernel)⟩
  · exact ⟨_, rfl, odd_str _ (by decide +kernel) (by decide +kernel)⟩
  · exact ⟨_, rfl, odd_str _ (by decide +kernel) (by decide +kernel)⟩
  · exact ⟨_, rfl, odd_str _ (by decide +kernel) (by decide +kernel)⟩
theorem ne_same {K : PySem.W.Frag} {H : Hp} {r w : Addr} {v : V} {Q : VK} (hr : H r = some (.lst [.str "UnknownMoment", v])) (hw : H w = some (.lst [.str "UnknownMoment", v])) (o : ∃ dd, Dp K H v dd ∧ SeqAt.shaped (.list [.str "UnknownMoment", dd]) = true) (q : Q (.bl false) H) : rNeD K (.ref r) (.ref w) H Q := by
  obtain ⟨dd, hd, sh⟩ := o
  refine ⟨_, _, .lst (SqL.of hr) (.cons (.str _) (.cons hd .nil)), .lst (SqL.of hw) (.cons (.str _) (.cons hd .nil)), sh, sh, ?_⟩
  have e : PyData.eqv (.list [.str "UnknownMoment", dd]) (.list [.str "UnknownMoment", dd]) = true := SeqAt.eqv_refl _ (SeqAt.canLay_of_shaped sh)
  rw [e]
  exact q
theorem taleOk_nil : TaleOk [] := ⟨by decide, nofun, nofun, sound_of nofun nofun⟩
section
variable {P : Program} {w : World} {K : PySem.W.Frag} {mg : Str → Option Value} {base : Heap} {C U BE : Addr} {f : Addr} {fd : FuncData}
theorem ok_law (T : Txt K mg) (F : Fun K "law" "law" s_law f fd) (G__law_purse : Df P w K mg base "_law_purse" 2 ["script", "at"] (spPurse K)) (G__law_draw : Df P w K mg base "_law_draw" 2 ["purse", "out_of"] spDraw) (G__law_tale : Df P w K mg base "_law_tale" 4 ["purse", "most", "many"] (spTale K))
    (G__law_model : Df P w K mg base "_law_model" 2 ["sentences"] (spModel K)) (G__law_names : Df P w K mg base "_law_names" 1 ["sentences"] (spNames K)) (G__law_related : Df P w K mg base "_law_related" 1 ["model", "one", "two"] (spRelated K))
    (G_relation : Df P w K mg base "relation" 8 ["tale", "a", "b"] (spRel K)) (GK : DfK P w K mg base "relation" 8 ["tale", "a", "b"] ["b", "a", "tale"] (spRel K) List.reverse) (G__law_refused : Df P w K mg base "_law_refused" 9 ["story", "one", "two"] (spRefused K)) :
    FnOk P w K mg base CX0 10 f fd ["script"] (spLaw K) := by
  refine F.ok sc_law (fun vs H Q E h => ?_) (fun cdv AA outer s H vs Q E hr h => ?_)
  · obtain ⟨a, ns, rfl, _⟩ := h
    rfl
  · obtain ⟨a, ns, rfl, hS, hlen, q⟩ := h
    refine ⟨_, pss_cons (ps_for PassesOwn.never rfl (pi_range1 (by rfl) T.m_range (pa_cons (pe_op op_add (pe_int) (pe_callB (call_min2 rfl) (by rfl) T.m_min (by decide +kernel) (pa_cons (pe_int) (pa_cons (pe_callB call_len_seq (by rfl) T.m_len (by decide +kernel) (pa_cons (pv 0) (pa_nil))) (pa_nil))))) (pa_nil))) (pg_name (i := 1) sc_law.nd rfl (by first | exact Or.inl rfl | exact Or.inr rfl)) (pss_cons (ps_set (i := 2) sc_law.nd rfl (by first | exact Or.inl rfl | exact Or.inr rfl) (pe_df G__law_purse (hr.mono (by decide)) (by rfl) (pa_cons (pv 0) (pa_cons (pv 1) (pa_nil)))))
    (pss_one (ps_for PassesOwn.never rfl (pi_range1 (by rfl) T.m_range (pa_cons (pe_int) (pa_nil))) (pg_name (i := 3) sc_law.nd rfl (by first | exact Or.inl rfl | exact Or.inr rfl)) (pss_cons (ps_set (i := 4) sc_law.nd rfl (by first | exact Or.inl rfl | exact Or.inr rfl) (pe_df G__law_tale (hr.mono (by decide)) (by rfl) (pa_cons (pv 2) (pa_cons (pe_int) (pa_cons (pe_op op_add (pe_int) (pe_df G__law_draw (hr.mono (by decide)) (by rfl) (pa_cons (pv 2) (pa_cons (pe_int) (pa_nil))))) (pa_nil))))))
    (pss_cons (ps_set (i := 5) sc_law.nd rfl (by first | exact Or.inl rfl | exact Or.inr rfl) (pe_df G__law_model (hr.mono (by decide)) (by rfl) (pa_cons (pv 4) (pa_nil))))
    (pss_cons (ps_set (i := 6) sc_law.nd rfl (by first | exact Or.inl rfl | exact Or.inr rfl) (pe_df G__law_names (hr.mono (by decide)) (by rfl) (pa_cons (pv 4) (pa_nil))))
    (pss_cons (ps_for PassesOwn.never rfl (pi_list (pv 6)) (pg_name (i := 7) sc_law.nd rfl (by first | exact Or.inl rfl | exact Or.inr rfl)) (pss_one (ps_for PassesOwn.never rfl (pi_list (pv 6)) (pg_name (i := 8) sc_law.nd rfl (by first | exact Or.inl rfl | exact Or.inr rfl)) (pss_cons (ps_set (i := 9) sc_law.nd rfl (by first | exact Or.inl rfl | exact Or.inr rfl) (pe_df G__law_related (hr.mono (by decide)) (by rfl) (pa_cons (pv 5) (pa_cons (pv 7) (pa_cons (pv 8) (pa_nil))))))
    (pss_cons (ps_if (pt_cmpR op_ne (pe_df G_relation (hr.mono (by decide)) (by rfl) (pa_cons (pv 4) (pa_cons (pv 7) (pa_cons (pv 8) (pa_nil))))) (pv 9) (nomark _)) (pss_one (ps_ret (pe_bl))) (pss_nil))
    (pss_one (ps_if (pt_cmpR op_ne (pe_dfK GK (hr.mono (by decide)) (by rfl) (pk_cons (pv 8) (pk_cons (pv 7) (pk_cons (pv 4) pk_nil)))) (pv 9) (nomark _)) (pss_one (ps_ret (pe_bl))) (pss_nil))))))))
    (pss_cons (ps_set (i := 10) sc_law.nd rfl (by first | exact Or.inl rfl | exact Or.inr rfl) (pe_lst (pa_cons (pe_str) (pa_cons (pe_str) (pa_cons (pe_str) (pa_cons (pe_non) (pa_cons (pe_int) (pa_cons (pe_bl) (pa_cons (pe_tup (pa_cons (pe_str) (pa_nil))) (pa_cons (pe_lst (pa_cons (pe_str) (pa_nil))) (pa_cons (pe_str) (pa_cons (pe_tup (pa_nil)) (pa_cons (pe_tup (pa_cons (pe_str) (pa_cons (pe_str) (pa_nil)))) (pa_cons (pe_lst (pa_nil)) (pa_cons (pe_str) (pa_cons (pe_tup (pa_cons (pe_lst (pa_cons (pe_str) (pa_nil))) (pa_nil))) (pa_nil)))))))))))))))))
    (pss_cons (ps_set (i := 10) sc_law.nd rfl (by first | exact Or.inl rfl | exact Or.inr rfl) (pe_op op_cat (pv 10) (pe_lst (pa_cons (pe_str) (pa_cons (pe_str) (pa_cons (pe_str) (pa_cons (pe_str) (pa_cons (pe_str) (pa_cons (pe_str) (pa_nil))))))))))
    (pss_cons (ps_par (i := 11) (j := 12) (by rfl) sc_law.nd rfl rfl (by decide) rfl rfl (pa_cons (pe_ix ix_list (pv 10) (pe_df G__law_draw (hr.mono (by decide)) (by rfl) (pa_cons (pv 2) (pa_cons (pe_int) (pa_nil)))) (fun _ _ => rfl)) (pa_cons (pe_ix ix_list (pv 10) (pe_df G__law_draw (hr.mono (by decide)) (by rfl) (pa_cons (pv 2) (pa_cons (pe_int) (pa_nil)))) (fun _ _ => rfl)) (pa_nil))) (by rfl))
    (pss_cons (ps_if (pt_cmpR (op_neD hr.units) (pe_df G__law_refused (hr.mono (by decide)) (by rfl) (pa_cons (pv 4) (pa_cons (pv 11) (pa_cons (pv 12) (pa_nil))))) (pe_lst (pa_cons (pe_str) (pa_cons (pv 11) (pa_nil)))) (nomark _)) (pss_one (ps_ret (pe_bl))) (pss_nil))
    (pss_cons (ps_if (pt_cmpR (op_neD hr.units) (pe_df G__law_refused (hr.mono (by decide)) (by rfl) (pa_cons (pv 4) (pa_cons (pv 11) (pa_cons (pe_ix ix_list (pv 6) (pe_un un_neg (pe_int)) (fun _ _ => rfl)) (pa_nil))))) (pe_lst (pa_cons (pe_str) (pa_cons (pv 11) (pa_nil)))) (nomark _)) (pss_one (ps_ret (pe_bl))) (pss_nil))
    (pss_cons (ps_if (pt_cmpR (op_neD hr.units) (pe_df G__law_refused (hr.mono (by decide)) (by rfl) (pa_cons (pe_tup (pa_nil)) (pa_cons (pe_str) (pa_cons (pv 12) (pa_nil))))) (pe_lst (pa_cons (pe_str) (pa_cons (pe_str) (pa_nil)))) (nomark _)) (pss_one (ps_ret (pe_bl))) (pss_nil))
    (pss_one (ps_if (pt_cmpR (op_neD hr.units) (pe_df G__law_refused (hr.mono (by decide)) (by rfl) (pa_cons (pv 4) (pa_cons (pe_ix ix_list (pv 6) (pe_int) (fun _ _ => rfl)) (pa_cons (pv 12) (pa_nil))))) (pe_lst (pa_cons (pe_str) (pa_cons (pv 12) (pa_nil)))) (nomark _)) (pss_one (ps_ret (pe_bl))) (pss_nil)))))))))))))))))
    (pss_one (ps_ret (pe_bl))), ?_⟩
    refine ⟨.ref a, rfl, a, _, rfl, .inl hS, _, _, rfl, _, _, rfl, rfl, _, rfl, (by split <;> omega), (by split <;> omega), for_range (lo := 0) (fun i σ H' => ∃ y1 y2 y3 y4 y5 y6 y7 y8 y9 y10 y11 y12, σ = [some (.ref a), y1, y2, y3, y4, y5, y6, y7, y8, y9, y10, y11, y12] ∧ Same H H') ⟨_, _, _, _, _, _, _, _, _, _, _, _, rfl, Same.refl H⟩ ?_ ?_⟩
    · rintro i σ H1 hi ⟨y1, y2, y3, y4, y5, y6, y7, y8, y9, y10, y11, y12, rfl, s1⟩
      have hi63 : i ≤ 63 := by
        have hle : (1 + if ((ns.map V.int).length : Int) < 5 then ((ns.map V.int).length : Int) else 5) ≤ 6 := by split <;> omega
        omega
      refine ⟨.ref a, rfl, _, rfl, a, ns, i, (by rw [Int.zero_add]; rfl), s1.seq hS, hi63, fun p p0 p1 p2 np B => ?_⟩
      have f1 : (upd H1 p (.lst [.int p0, .int p1, .int p2])) p = some (.lst [.int p0, .int p1, .int p2]) := upd_same
      have k1 : Same H1 (upd H1 p (.lst [.int p0, .int p1, .int p2])) := same_upd np
      generalize upd H1 p (.lst [.int p0, .int p1, .int p2]) = H2 at f1 k1 ⊢
      refine ⟨3, rfl, by decide, by decide, for_it (walk_range (lo := 0) (n := 3)) (fun t σ H' => ∃ y3 y4 y5 y6 y7 y8 y9 y10 y11 y12 q0 q1 q2, σ = [some (.ref a), some (.int (0 + (i : Nat))), some (.ref p), y3, y4, y5, y6, y7, y8, y9, y10, y11, y12] ∧ SameB p H2 H' ∧
        H' p = some (.lst [.int q0, .int q1, .int q2]) ∧ PurseOk q0 q1 q2 (63000 + 60 * t)) ⟨_, _, _, _, _, _, _, _, _, _, _, _, _, rfl, .refl, f1, B⟩ (fun _ _ _ _ _ => trivial) ?_ ?_⟩
      · rintro t x σ H3 H4 ht ⟨y3, y4, y5, y6, y7, y8, y9, y10, y11, y12, q0, q1, q2, rfl, k2, f2, B2⟩ ⟨rfl, rfl⟩
        -- the story
        refine ⟨_, rfl, _, rfl, p, q0, q1, q2, _, 9, rfl, f2, B2, by omega, by omega, by omega, fun d r0 r1 r2 d0 d1 B3 => ?_⟩
        obtain ⟨c, rfl⟩ := Int.eq_ofNat_of_zero_le d0
        have k3 : SameB p H4 (upd H4 p (.lst [.int r0, .int r1, .int r2])) := SameB.upd
        have f3 : (upd H4 p (.lst [.int r0, .int r1, .int r2])) p = some (.lst [.int r0, .int r1, .int r2]) := upd_same
        generalize upd H4 p (.lst [.int r0, .int r1, .int r2]) = H5 at k3 f3 ⊢
        refine ⟨_, _, rfl, rfl, p, r0, r1, r2, _, 1 + c, by rw [show ((1 + c : Nat) : Int) = 1 + (c : Int) by omega]; rfl, f3, B3, by omega, by omega, by omega, fun st S H6 g0 g1 g2 k4 f4 B4 nst hT lS gS => ?_⟩
        have k26 : SameB p H2 H6 := (k2.trans k3).trans k4
        have tOk := gS.ok (by omega)
        -- the model, the names
        refine ⟨_, rfl, st, S, rfl, tale_q hT, by omega, gS.first, fun pm H7 ns1 s7 npm hN1 hM => ?_⟩
        refine ⟨_, rfl, st, S, rfl, tale_q (hT.same s7), by omega, fun kn H8 ns2 s8 nkn hN2 h8 => ?_⟩
        have s68 := s7.trans s8
        have hT8 := hT.same s68
        have hM8 := hM.same s8
        have f8 := s68 _ _ f4
        have knp : kn ≠ p := fun z => by rw [z, s7 _ _ f4] at nkn; cases nkn
        have m12 : ∀ m, m ∈ ns2 → m ∈ ns1 := fun m h => (hN1.mem m).mpr ((hN2.mem m).mp h)
        have hL : ∀ l ∈ linksL "" S, l.1 ∈ S.map (·.2) ∧ l.2.1 ∈ S.map (·.2) := fun l hl => links_in gS.first hl
        refine ⟨_, rfl, kn, rfl, ⟨_, SqL.of h8⟩, for_it (walk_list (K := K) (a := kn) (xs := ns2.map V.str)) (fun j σ H' => ∃ z7 z8 z9 z10 z11 z12, σ = [some (.ref a), some (.int (0 + (i : Nat))), some (.ref p), some (.int (0 + (t : Nat))), some (.ref st), some (.ref pm), some (.ref kn), z7, z8, z9, z10, z11, z12] ∧ Same H8 H')
          ⟨_, _, _, _, _, _, rfl, Same.refl H8⟩ (fun j σ H' _ ⟨_, _, _, _, _, _, _, e⟩ => SqL.of (e _ _ h8)) ?_ ?_⟩
        · rintro j x σ H9 HA hj ⟨z7, z8, z9, z10, z11, z12, rfl, s9⟩ ⟨rfl, ex⟩
          obtain ⟨m1, e1, rfl⟩ : ∃ m, ns2[j]? = some m ∧ V.str m = x := by
            rw [List.getElem?_map] at ex
            cases e : ns2[j]? with
            | none => rw [e] at ex; cases ex
            | some m => rw [e] at ex; exact ⟨m, rfl, Option.some.inj ex⟩
          have i1 := List.mem_of_getElem? e1
          refine ⟨_, rfl, kn, rfl, ⟨_, SqL.of (s9 _ _ h8)⟩, for_it (walk_list (K := K) (a := kn) (xs := ns2.map V.str)) (fun l σ H' => ∃ z8 z9 z10 z11 z12, σ = [some (.ref a), some (.int (0 + (i : Nat))), some (.ref p), some (.int (0 + (t : Nat))), some (.ref st), some (.ref pm), some (.ref kn), some (.str m1), z8, z9, z10, z11, z12] ∧ Same H8 H')
            ⟨_, _, _, _, _, rfl, s9⟩ (fun j σ H' _ ⟨_, _, _, _, _, _, e⟩ => SqL.of (e _ _ h8)) ?_ ?_⟩
          · rintro l x σ HB HC hl ⟨z8, z9, z10, z11, z12, rfl, sB⟩ ⟨rfl, ex⟩
            obtain ⟨m2, e2, rfl⟩ : ∃ m, ns2[l]? = some m ∧ V.str m = x := by
              rw [List.getElem?_map] at ex
              cases e : ns2[l]? with
              | none => rw [e] at ex; cases ex
              | some m => rw [e] at ex; exact ⟨m, rfl, Option.some.inj ex⟩
            have i2 := List.mem_of_getElem? e2
            refine ⟨_, rfl, _, rfl, _, rfl, pm, ns1, linksL "" S, m1, m2, rfl, hM8.same sB, m12 _ i1, m12 _ i2, fun r HD sD hr1 => ?_⟩
            have ke1 := (hN2.mem m1).mp i1
            have ke2 := (hN2.mem m2).mp i2
            have sE : Same H8 HD := sB.trans sD
            refine ⟨_, rfl, _, rfl, _, rfl, st, S, m1, m2, rfl, hT8.same sE, tOk, ke1, ke2, fun HE G ms u v sF iG St hu hv => ?_⟩
            have er := hr1.uniq (rel_is iG St hL hu hv)
            have never : ∀ {r' : Str}, r = r' → V.bl (!decide (V.str r' = V.str r)) = V.bl false := fun e => by
              rw [e, decide_eq_true rfl]
              rfl
            refine ⟨_, rfl, rfl, false, never er, iteF ?_⟩
            refine ⟨_, rfl, _, rfl, _, rfl, rfl, st, S, m1, m2, rfl, hT8.same (sE.trans sF), tOk, ke1, ke2, fun HG G' ms' u' v' sG iG' St' hu' hv' => ?_⟩
            have er' := hr1.uniq (rel_is iG' St' hL hu' hv')
            exact ⟨_, rfl, rfl, false, never er', iteF ⟨_, _, _, _, _, rfl, (sE.trans sF).trans sG⟩⟩
          · rintro σ HB ⟨z8, z9, z10, z11, z12, rfl, sB⟩
            exact ⟨_, _, _, _, _, _, rfl, sB⟩
        · rintro σ H9 ⟨z7, z8, z9, z10, z11, z12, rfl, s9⟩
          have k28 : SameB p H2 H9 := (k26.trans s68.but).trans s9.but
          have f9 := s9 _ _ f8
          have hT9 := hT8.same s9
          have h9 := s9 _ _ h8
          -- the odd values
          have o9 : Ob p H9 kn (.lst (ns2.map V.str)) := ⟨h9, knp⟩
          have k9 : SameB p H2 H9 := k28
          have fH9 := f9
          refine ⟨by show 1 ≤ sizeLine; decide, fun t1 nt1 => ?_⟩
          have ot1 : Ob p (upd H9 t1 (.tup [.str "m"])) t1 (.tup [.str "m"]) := ⟨upd_same, (ne_of_none fH9 nt1).symm⟩
          have cJ1 : Same H9 (upd H9 t1 (.tup [.str "m"])) := same_upd nt1
          generalize upd H9 t1 (.tup [.str "m"]) = J1 at ot1 cJ1 ⊢
          have fJ1 := cJ1 _ _ fH9
          replace o9 := Ob.but cJ1.but o9
          replace k9 := k9.trans cJ1.but
          replace hT9 := hT9.same cJ1
          refine ⟨by show 1 ≤ sizeLine; decide, fun l1 nl1 => ?_⟩
          have ol1 : Ob p (upd J1 l1 (.lst [.str "m"])) l1 (.lst [.str "m"]) := ⟨upd_same, (ne_of_none fJ1 nl1).symm⟩
          have cJ2 : Same J1 (upd J1 l1 (.lst [.str "m"])) := same_upd nl1
          generalize upd J1 l1 (.lst [.str "m"]) = J2 at ol1 cJ2 ⊢
          have fJ2 := cJ2 _ _ fJ1
          replace o9 := Ob.but cJ2.but o9
          replace ot1 := Ob.but cJ2.but ot1
          replace k9 := k9.trans cJ2.but
          replace hT9 := hT9.same cJ2
          refine ⟨by show 0 ≤ sizeLine; decide, fun t2 nt2 => ?_⟩
          have ot2 : Ob p (upd J2 t2 (.tup [])) t2 (.tup []) := ⟨upd_same, (ne_of_none fJ2 nt2).symm⟩
          have cJ3 : Same J2 (upd J2 t2 (.tup [])) := same_upd nt2
          generalize upd J2 t2 (.tup []) = J3 at ot2 cJ3 ⊢
          have fJ3 := cJ3 _ _ fJ2
          replace o9 := Ob.but cJ3.but o9
          replace ot1 := Ob.but cJ3.but ot1
          replace ol1 := Ob.but cJ3.but ol1
          replace k9 := k9.trans cJ3.but
          replace hT9 := hT9.same cJ3
          refine ⟨by show 2 ≤ sizeLine; decide, fun t3 nt3 => ?_⟩
          have ot3 : Ob p (upd J3 t3 (.tup [.str "m", .str "b"])) t3 (.tup [.str "m", .str "b"]) := ⟨upd_same, (ne_of_none fJ3 nt3).symm⟩
          have cJ4 : Same J3 (upd J3 t3 (.tup [.str "m", .str "b"])) := same_upd nt3
          generalize upd J3 t3 (.tup [.str "m", .str "b"]) = J4 at ot3 cJ4 ⊢
          have fJ4 := cJ4 _ _ fJ3
          replace o9 := Ob.but cJ4.but o9
          replace ot1 := Ob.but cJ4.but ot1
          replace ol1 := Ob.but cJ4.but ol1
          replace ot2 := Ob.but cJ4.but ot2
          replace k9 := k9.trans cJ4.but
          replace hT9 := hT9.same cJ4
          refine ⟨by show 0 ≤ sizeLine; decide, fun l2 nl2 => ?_⟩
          have ol2 : Ob p (upd J4 l2 (.lst [])) l2 (.lst []) := ⟨upd_same, (ne_of_none fJ4 nl2).symm⟩
          have cJ5 : Same J4 (upd J4 l2 (.lst [])) := same_upd nl2
          generalize upd J4 l2 (.lst []) = J5 at ol2 cJ5 ⊢
          have fJ5 := cJ5 _ _ fJ4
          replace o9 := Ob.but cJ5.but o9
          replace ot1 := Ob.but cJ5.but ot1
          replace ol1 := Ob.but cJ5.but ol1
          replace ot2 := Ob.but cJ5.but ot2
          replace ot3 := Ob.but cJ5.but ot3
          replace k9 := k9.trans cJ5.but
          replace hT9 := hT9.same cJ5
          refine ⟨by show 1 ≤ sizeLine; decide, fun l3 nl3 => ?_⟩
          have ol3 : Ob p (upd J5 l3 (.lst [.str "m"])) l3 (.lst [.str "m"]) := ⟨upd_same, (ne_of_none fJ5 nl3).symm⟩
          have cJ6 : Same J5 (upd J5 l3 (.lst [.str "m"])) := same_upd nl3
          generalize upd J5 l3 (.lst [.str "m"]) = J6 at ol3 cJ6 ⊢
          have fJ6 := cJ6 _ _ fJ5
          replace o9 := Ob.but cJ6.but o9
          replace ot1 := Ob.but cJ6.but ot1
          replace ol1 := Ob.but cJ6.but ol1
          replace ot2 := Ob.but cJ6.but ot2
          replace ot3 := Ob.but cJ6.but ot3
          replace ol2 := Ob.but cJ6.but ol2
          replace k9 := k9.trans cJ6.but
          replace hT9 := hT9.same cJ6
          refine ⟨by show 1 ≤ sizeLine; decide, fun t4 nt4 => ?_⟩
          have ot4 : Ob p (upd J6 t4 (.tup [.ref l3])) t4 (.tup [.ref l3]) := ⟨upd_same, (ne_of_none fJ6 nt4).symm⟩
          have cJ7 : Same J6 (upd J6 t4 (.tup [.ref l3])) := same_upd nt4
          generalize upd J6 t4 (.tup [.ref l3]) = J7 at ot4 cJ7 ⊢
          have fJ7 := cJ7 _ _ fJ6
          replace o9 := Ob.but cJ7.but o9
          replace ot1 := Ob.but cJ7.but ot1
          replace ol1 := Ob.but cJ7.but ol1
          replace ot2 := Ob.but cJ7.but ot2
          replace ot3 := Ob.but cJ7.but ot3
          replace ol2 := Ob.but cJ7.but ol2
          replace ol3 := Ob.but cJ7.but ol3
          replace k9 := k9.trans cJ7.but
          replace hT9 := hT9.same cJ7
          refine ⟨by show 14 ≤ sizeLine; decide, fun od nod => ?_⟩
          have ood : Ob p (upd J7 od (.lst [.str "zz", .str "", .str "M", .non, .int 0, .bl true, .ref t1, .ref l1, .str "nineletrs", .ref t2, .ref t3, .ref l2, .str "{0}", .ref t4])) od (.lst [.str "zz", .str "", .str "M", .non, .int 0, .bl true, .ref t1, .ref l1, .str "nineletrs", .ref t2, .ref t3, .ref l2, .str "{0}", .ref t4]) := ⟨upd_same, (ne_of_none fJ7 nod).symm⟩
          have cJ8 : Same J7 (upd J7 od (.lst [.str "zz", .str "", .str "M", .non, .int 0, .bl true, .ref t1, .ref l1, .str "nineletrs", .ref t2, .ref t3, .ref l2, .str "{0}", .ref t4])) := same_upd nod
          generalize upd J7 od (.lst [.str "zz", .str "", .str "M", .non, .int 0, .bl true, .ref t1, .ref l1, .str "nineletrs", .ref t2, .ref t3, .ref l2, .str "{0}", .ref t4]) = J8 at ood cJ8 ⊢
          have fJ8 := cJ8 _ _ fJ7
          replace o9 := Ob.but cJ8.but o9
          replace ot1 := Ob.but cJ8.but ot1
          replace ol1 := Ob.but cJ8.but ol1
          replace ot2 := Ob.but cJ8.but ot2
          replace ot3 := Ob.but cJ8.but ot3
          replace ol2 := Ob.but cJ8.but ol2
          replace ol3 := Ob.but cJ8.but ol3
          replace ot4 := Ob.but cJ8.but ot4
          replace k9 := k9.trans cJ8.but
          replace hT9 := hT9.same cJ8
          have OO : OddsAt p J8 t1 l1 t2 t3 l2 l3 t4 := ⟨ot1, ol1, ot2, ot3, ol2, ol3, ot4⟩
          refine ⟨_, rfl, by show 6 ≤ sizeLine; decide, fun l6 n6 => ?_⟩
          have cK1 : Same J8 (upd J8 l6 (.lst [V.str "at", V.str "then", V.str "back", V.str "later", V.str "earlier", V.str "with"])) := same_upd n6
          have o6 : (upd J8 l6 (.lst [V.str "at", V.str "then", V.str "back", V.str "later", V.str "earlier", V.str "with"])) l6 = some (.lst [V.str "at", V.str "then", V.str "back", V.str "later", V.str "earlier", V.str "with"]) := upd_same
          generalize upd J8 l6 (.lst [V.str "at", V.str "then", V.str "back", V.str "later", V.str "earlier", V.str "with"]) = K1 at cK1 o6 ⊢
          refine ⟨od, l6, _, _, rfl, rfl, cK1 _ _ ood.1, o6, by show 20 ≤ sizeLine; decide, fun o2 no2 => ?_⟩
          have cK2 : Same K1 (upd K1 o2 (.lst (odds t1 l1 t2 t3 l2 t4))) := same_upd no2
          have o7 : Ob p (upd K1 o2 (.lst (odds t1 l1 t2 t3 l2 t4))) o2 (.lst (odds t1 l1 t2 t3 l2 t4)) := ⟨upd_same, (ne_of_none (cK1 _ _ fJ8) no2).symm⟩
          show gName 10 (.ref o2) _ (upd K1 o2 (.lst (odds t1 l1 t2 t3 l2 t4))) _
          generalize upd K1 o2 (.lst (odds t1 l1 t2 t3 l2 t4)) = K2 at cK2 o7 ⊢
          have c82 : Same J8 K2 := cK1.trans cK2
          have fK2 := c82 _ _ fJ8
          have OK2 := OO.but c82.but
          have hTK := hT9.same c82
          have oN := o9.but c82.but
          have k2K : SameB p H2 K2 := k9.trans c82.but
          -- bad, worse
          refine ⟨_, rfl, _, rfl, p, g0, g1, g2, _, 20, rfl, fK2, B4, by omega, by omega, by omega, fun d1 u0 u1 u2 d10 d11 B5 => ?_⟩
          have k3K : SameB p K2 (upd K2 p (.lst [.int u0, .int u1, .int u2])) := SameB.upd
          have fK3 : (upd K2 p (.lst [.int u0, .int u1, .int u2])) p = some (.lst [.int u0, .int u1, .int u2]) := upd_same
          have hTK3 := tale_updP (o := .lst [.int u0, .int u1, .int u2]) fK2 hTK
          generalize upd K2 p (.lst [.int u0, .int u1, .int u2]) = K3 at k3K fK3 hTK3 ⊢
          have OK3 := OK2.but k3K
          obtain ⟨v1, ev1, ov1⟩ := odd_at (K := K) OK3 d10 d11
          refine ⟨o2, _, _, v1, rfl, rfl, SqL.of (o7.but k3K).1, ev1, ?_⟩
          refine ⟨_, rfl, _, rfl, p, u0, u1, u2, _, 20, rfl, fK3, B5, by omega, by omega, by omega, fun d2 w0 w1 w2 d20 d21 B6 => ?_⟩
          have k4K : SameB p K3 (upd K3 p (.lst [.int w0, .int w1, .int w2])) := SameB.upd
          have fK4 : (upd K3 p (.lst [.int w0, .int w1, .int w2])) p = some (.lst [.int w0, .int w1, .int w2]) := upd_same
          have hTK4 := tale_updP (o := .lst [.int w0, .int w1, .int w2]) fK3 hTK3
          generalize upd K3 p (.lst [.int w0, .int w1, .int w2]) = K4 at k4K fK4 hTK4 ⊢
          have OK4 := OK3.but k4K
          obtain ⟨v2, ev2, ov2⟩ := odd_at (K := K) OK4 d20 d21
          obtain ⟨v1', ev1', ov1'⟩ := odd_at (K := K) OK4 d10 d11
          rw [ev1] at ev1'
          cases ev1'
          have oN4 := (oN.but k3K).but k4K
          have k24 : SameB p H2 K4 := (k2K.trans k3K).trans k4K
          have nmS : ∀ s ∈ S, s.2 ∈ nm10 := fun s hs => (gS.each s hs).2
          refine ⟨o2, _, _, v2, rfl, rfl, SqL.of ((o7.but k3K).but k4K).1, ev2, ?_⟩
          refine ⟨v1, v2, rfl, _, rfl, _, rfl, _, rfl, st, S, v1, v2, v1, rfl, hTK4, tOk, .inl ⟨ov1'.badM nmS, rfl⟩, fun r1 L1 sL1 nr1 hr1 => ?_⟩
          refine ⟨_, rfl, by show 2 ≤ sizeLine; decide, fun x1 nx1 => ?_⟩
          have sM1 : Same K4 (upd L1 x1 (.lst [.str "UnknownMoment", v1])) := sL1.trans (same_upd nx1)
          refine ne_same ((same_upd nx1) _ _ hr1) upd_same (ov1'.dpS sM1) ⟨false, rfl, iteF ?_⟩
          generalize upd L1 x1 (.lst [.str "UnknownMoment", v1]) = M1 at sM1 ⊢
          -- known[-1]
          have ne2 : ns2 ≠ [] := fun z => by
            cases hS0 : S with
            | nil => exact gS.ne hS0
            | cons x r =>
              have e := (hN2.mem x.2).mpr (by rw [hS0]; exact List.mem_cons_self)
              rw [z] at e
              cases e
          obtain ⟨ml, el⟩ : ∃ ml, ns2[ns2.length - 1]? = some ml := by
            have z := List.length_pos_iff.mpr ne2
            exact ⟨_, List.getElem?_eq_getElem (by omega)⟩
          have el' : (ns2.map V.str)[(ns2.map V.str).length - 1]? = some (V.str ml) := by
            rw [List.length_map, List.getElem?_map, el]
            rfl
          have oN5 := oN4.but sM1.but
          have inl : ml ∈ S.map (·.2) := (hN2.mem ml).mp (List.mem_of_getElem? el)
          refine ⟨_, rfl, _, rfl, _, rfl, _, rfl, kn, _, _, .str ml, rfl, rfl, SqL.of oN5.1, atI_last el', ?_⟩
          have hTM1 := hTK4.same sM1
          refine ⟨st, S, v1, .str ml, v1, rfl, hTM1, tOk, .inl ⟨(ov1'.badM nmS).same sM1, rfl⟩, fun r2 L2 sL2 nr2 hr2 => ?_⟩
          refine ⟨_, rfl, by show 2 ≤ sizeLine; decide, fun x2 nx2 => ?_⟩
          have sM2 : Same M1 (upd L2 x2 (.lst [.str "UnknownMoment", v1])) := sL2.trans (same_upd nx2)
          refine ne_same ((same_upd nx2) _ _ hr2) upd_same (ov1'.dpS (sM1.trans sM2)) ⟨false, rfl, iteF ?_⟩
          generalize upd L2 x2 (.lst [.str "UnknownMoment", v1]) = M2 at sM2 ⊢
          -- ()
          refine ⟨by show 0 ≤ sizeLine; decide, fun te nte => ?_⟩
          have sM2' : Same M2 (upd M2 te (.tup [])) := same_upd nte
          have hte : (upd M2 te (.tup [])) te = some (.tup []) := upd_same
          generalize upd M2 te (.tup []) = M3 at sM2' hte ⊢
          refine ⟨_, rfl, te, [], .str "m", v2, .str "m", rfl, ⟨[], SqT.of hte, .nil⟩, taleOk_nil, .inl ⟨.inl ⟨_, rfl, List.not_mem_nil⟩, rfl⟩, fun r3 L3 sL3 nr3 hr3 => ?_⟩
          refine ⟨by show 2 ≤ sizeLine; decide, fun x3 nx3 => ?_⟩
          have sM4 : Same M3 (upd L3 x3 (.lst [.str "UnknownMoment", .str "m"])) := sL3.trans (same_upd nx3)
          refine ne_same ((same_upd nx3) _ _ hr3) upd_same ⟨.str "m", .str _, by decide +kernel⟩ ⟨false, rfl, iteF ?_⟩
          generalize upd L3 x3 (.lst [.str "UnknownMoment", .str "m"]) = M4 at sM4 ⊢
          -- known[0]
          have sK4M4 : Same K4 M4 := ((sM1.trans sM2).trans sM2').trans sM4
          obtain ⟨m0, e0⟩ : ∃ m0, ns2[0]? = some m0 := ⟨_, List.getElem?_eq_getElem (List.length_pos_iff.mpr ne2)⟩
          have e0' : (ns2.map V.str)[0]? = some (V.str m0) := by
            rw [List.getElem?_map, e0]
            rfl
          have in0 : m0 ∈ S.map (·.2) := (hN2.mem m0).mp (List.mem_of_getElem? e0)
          refine ⟨_, rfl, _, rfl, kn, _, _, .str m0, rfl, rfl, SqL.of (oN4.but sK4M4.but).1, atI_nat (j := 0) e0', ?_⟩
          refine ⟨_, rfl, st, S, .str m0, v2, v2, rfl, hTK4.same sK4M4, tOk, .inr ⟨⟨m0, rfl, in0⟩, (ov2.badM nmS).same sK4M4, rfl⟩, fun r5 L5 sL5 nr5 hr5 => ?_⟩
          refine ⟨_, rfl, by show 2 ≤ sizeLine; decide, fun x5 nx5 => ?_⟩
          have sM5 : Same M4 (upd L5 x5 (.lst [.str "UnknownMoment", v2])) := sL5.trans (same_upd nx5)
          refine ne_same ((same_upd nx5) _ _ hr5) upd_same (ov2.dpS (sK4M4.trans sM5)) ⟨false, rfl, iteF ?_⟩
          exact ⟨_, _, _, _, _, _, _, _, _, _, w0, w1, w2, rfl, (k24.trans sK4M4.but).trans sM5.but, sM5 _ _ (sK4M4 _ _ fK4), B6.mono (by omega)⟩
      · rintro σ H3 ⟨y3, y4, y5, y6, y7, y8, y9, y10, y11, y12, q0, q1, q2, rfl, k2, f2, B2⟩
        refine ⟨_, _, _, _, _, _, _, _, _, _, _, _, rfl, fun b o e => ?_⟩
        have e1 := s1 _ _ e
        exact k2 _ _ (ne_of_none e1 np) (k1 _ _ e1)
    · rintro σ H1 _
      exact q _
end
end Lw
set_option Elab.async false
set_option linter.all false
set_option maxRecDepth 100000
set_option maxHeartbeats 4000000
namespace Lw
open PySem PySem.Spec PyProof.Rows L2 TKS
/-- the defs as they stand behind the top -/
structure Defs (K : PySem.W.Frag) (mg : Str → Option Value) : Prop where
  d_tale_stands : Fn K mg "tale_stands" s_tale_stands
  d_sentence_link : Fn K mg "sentence_link" s_sentence_link
  d_tale_links : Fn K mg "tale_links" s_tale_links
  d_joined : Fn K mg "joined" s_joined
  d_closed : Fn K mg "closed" s_closed
  d_is_name : Fn K mg "is_name" s_is_name
  d_is_pair : Fn K mg "is_pair" s_is_pair
  d_is_sentence : Fn K mg "is_sentence" s_is_sentence
  d_check_tale : Fn K mg "check_tale" s_check_tale
  d_require_tale : Fn K mg "require_tale" s_require_tale
  d_tale_order : Fn K mg "tale_order" s_tale_order
  d_moment_number : Fn K mg "moment_number" s_moment_number
  d_relation : Fn K mg "relation" s_relation
  dL_at : Fn K mg "_law_at" s__law_at
  dL_mixed : Fn K mg "_law_mixed" s__law_mixed
  dL_purse : Fn K mg "_law_purse" s__law_purse
  dL_draw : Fn K mg "_law_draw" s__law_draw
  dL_links : Fn K mg "_law_links" s__law_links
  dL_order : Fn K mg "_law_order" s__law_order
  dL_names : Fn K mg "_law_names" s__law_names
  dL_model : Fn K mg "_law_model" s__law_model
  dL_fits : Fn K mg "_law_fits" s__law_fits
  dL_related : Fn K mg "_law_related" s__law_related
  dL_tale : Fn K mg "_law_tale" s__law_tale
  dL_refused : Fn K mg "_law_refused" s__law_refused
/-- the class's own defs -/
structure OrdF (K : PySem.W.Frag) (C : Addr) : Prop where
  mk_ : ∃ (f : Addr) (fd : FuncData), Mk K C f ∧ Fun K "__init__" "Order.__init__" s_Order_init f fd
  pr : ∃ (f : Addr) (fd : FuncData), Meth K C "precedes" f ∧ Fun K "precedes" "Order.precedes" s_Order_precedes f fd
  co : ∃ (f : Addr) (fd : FuncData), Meth K C "is_consistent" f ∧ Fun K "is_consistent" "Order.is_consistent" s_Order_is_consistent f fd
/-- UnknownMoment's __init__ as it stands -/
structure UF (K : PySem.W.Frag) (U : Addr) : Prop where
  ex : ∃ (fI : Addr) (fd : FuncData), FunD K "__init__" "UnknownMoment.__init__" (defArgs s_ini) (defBody s_ini) (defScope s_ini) [.non] [] fI fd ∧ PySem.W.findIn K (.ref U) "__init__" = some (some (.ref fI)) ∧ PySem.W.typeIn K (.ref fI) = some (.type "function")
theorem vals_rev : ∀ {vs : List V} {us : List Value}, Vals vs us → Vals vs.reverse us.reverse
  | _, _, .nil => .nil
  | _, _, .cons h t => by
    rw [List.reverse_cons, List.reverse_cons]
    exact (vals_rev t).append (.cons h .nil)
section
variable {P : Program} {w : World} {K : PySem.W.Frag} {mg : Str → Option Value} {base : Heap} {h : Heap} {C U BE aM aF aB aW : Addr}
theorem law_of (T : Txt K mg) (A : Wds K mg aM aF aB aW) (B : Kls K mg C) (O : OrdF K C) (M : Um K mg U BE) (V : UF K U) (D : Defs K mg) {f : Addr} {fd : FuncData} (F : Fun K "law" "law" s_law f fd) : FnOk P w K mg base CX0 10 f fd ["script"] (spLaw K) := by
  obtain ⟨fI, fdI, mk, FI⟩ := O.mk_
  obtain ⟨fP, fdP, mp, FP⟩ := O.pr
  obtain ⟨fC, fdC, mc, FC⟩ := O.co
  obtain ⟨fV, fdV, FV, vC, vT⟩ := V.ex
  have J : UIni P w K mg base U := ok_ini FV vC vT
  have M_Order : Mke P w K mg base C 3 ["self", "tale"] (spInit K C) := ⟨fI, fdI, ok_init T A B FI D.d_tale_links D.d_tale_stands D.d_sentence_link D.d_joined D.d_closed, mk, FI.binds fun _ _ _ _ _ _ us hl => match us, hl with | [_, _], _ => rfl⟩
  have M_precedes : Mt P w K mg base C "precedes" 1 ["self", "one", "other"] (spPrec C) := ⟨fP, fdP, ok_precedes T B FP, mp, FP.binds fun _ _ _ _ _ _ us hl => match us, hl with | [_, _, _], _ => rfl⟩
  have M_is_consistent : Mt P w K mg base C "is_consistent" 2 ["self"] (spCons C) := ⟨fC, fdC, ok_is_consistent T B FC M_precedes, mc, FC.binds fun _ _ _ _ _ _ us hl => match us, hl with | [_], _ => rfl⟩
  have g1 : Df P w K mg base "check_tale" 5 ["thing"] (spCheck K) := ok_check_tale T A B D.d_check_tale D.d_is_name D.d_is_sentence D.d_is_pair M_Order M_is_consistent
  have g2 : Df P w K mg base "require_tale" 6 ["tale"] (spCheck K) := ok_require_tale T D.d_require_tale g1
  have g3 : Df P w K mg base "tale_order" 7 ["tale"] (spOrder K C) := ok_tale_order T B D.d_tale_order g2 M_Order
  have g4 : Df P w K mg base "relation" 8 ["tale", "a", "b"] (spRel K) := ok_relation T B D.d_relation D.d_moment_number g3 M_precedes
  have g5 : DfX P w K mg base "relation" 8 ["tale", "a", "b"] (spRelX K U) := ok_relationX T B M J D.d_relation D.d_moment_number g3 M_precedes
  have g6 : DfK P w K mg base "relation" 8 ["tale", "a", "b"] ["b", "a", "tale"] (spRel K) List.reverse := Fn.dfK D.d_relation (fun _ ws => ws.reverse) (fun _ z => vals_rev z) (fun _ _ _ _ _ _ us ws l1 l2 => match us, ws, l1, l2 with | [], [_, _, _], _, _ => rfl) fun _ _ F => fn_relation T B D.d_moment_number g3 M_precedes F
  have h1 : Df P w K mg base "_law_draw" 2 ["purse", "out_of"] spDraw := ok__law_draw T D.dL_draw D.dL_mixed
  have h2 : Df P w K mg base "_law_model" 2 ["sentences"] (spModel K) := ok__law_model T D.dL_model D.dL_order D.dL_names D.dL_links
  have h3 : Df P w K mg base "_law_fits" 3 ["sentences"] (spFits K) := ok__law_fits T D.dL_fits h2
  have h4 : Df P w K mg base "_law_tale" 4 ["purse", "most", "many"] (spTale K) := ok__law_tale T D.dL_tale h1 h3
  exact ok_law T F (ok__law_purse T D.dL_purse D.dL_at) h1 h4 h2 (ok__law_names T D.dL_names) (ok__law_related T D.dL_related) g4 g6 (ok__law_refused T M D.dL_refused g5)
end
section
variable {K : PySem.W.Frag} {mg : Str → Option Value} {h : Heap} {P : Program} {w : World} {C U BE : Addr}
theorem fn_mk {x : Str} {st : Stmt} {f : Addr} {oc : Value} {od an : Option Addr} {osl : Array (Option Value)} {kV doc pm cdv ct : Value} (X : K.In h) (G : h.Ns mainGlobals mg) (a : PySem.W.nsIn K mainGlobals x = some (some (.ref f)))
    (l : K.lookup f = some ⟨oc, od, .func (PySem.W.fnOf x x (defArgs st) (defBody st) (defScope st) .none kV doc pm an cdv ct), osl⟩) (c : PySem.W.codeIn K cdv x = true) (k : PySem.W.keepIn K (.ref f) = true) : Fn K mg x st :=
  ⟨_, _, fun_mk l c k, PySem.W.mg_of X G a⟩
theorem kls_mk (X : K.In h) (G : h.Ns mainGlobals mg) (g : PySem.W.nsIn K mainGlobals "Order" = some (some (.ref C))) (pg : PySem.W.plainGet K C Str.empty = true) (hd : PySem.W.hasDictIn K C = true) (po : PySem.W.plainOver K C = true)
    (sa : PySem.W.findIn K (.ref C) "__setattr__" = some (some (.builtin "object.__setattr__"))) (n1 : PySem.W.findIn K (.ref C) "groups" = some none) (n2 : PySem.W.findIn K (.ref C) "number" = some none) (n3 : PySem.W.findIn K (.ref C) "after" = some none) : Kls K mg C :=
  ⟨PySem.W.mg_of X G g, ⟨pg, hd, po, sa⟩, n1, n2, n3⟩
theorem ordF_mk {f1 : Addr} {oc1 : Value} {od1 an1 : Option Addr} {sl1 : Array (Option Value)} {kV1 dc1 pm1 cd1 ct1 : Value} {f2 : Addr} {oc2 : Value} {od2 an2 : Option Addr} {sl2 : Array (Option Value)} {kV2 dc2 pm2 cd2 ct2 : Value} {f3 : Addr} {oc3 : Value} {od3 an3 : Option Addr} {sl3 : Array (Option Value)} {kV3 dc3 pm3 cd3 ct3 : Value} (_X : K.In h) (_g : PySem.W.nsIn K mainGlobals "Order" = some (some (.ref C))) (m1 : PySem.W.makesIn K C = true) (m2 : PySem.W.findIn K (.ref C) "__init__" = some (some (.ref f1))) (m3 : PySem.W.isFn K (.ref f1) = true) (m4 : PySem.W.keepIn K (.ref C) = true) (l1 : K.lookup f1 = some ⟨oc1, od1, .func (PySem.W.fnOf "__init__" "Order.__init__" (defArgs s_Order_init) (defBody s_Order_init) (defScope s_Order_init) .none kV1 dc1 pm1 an1 cd1 ct1), sl1⟩) (c1 : PySem.W.codeIn K cd1 "Order.__init__" = true) (k1 : PySem.W.keepIn K (.ref f1) = true)
    (p1 : PySem.W.findIn K (.ref C) "precedes" = some (some (.ref f2))) (p2 : PySem.W.isFn K (.ref f2) = true) (l2 : K.lookup f2 = some ⟨oc2, od2, .func (PySem.W.fnOf "precedes" "Order.precedes" (defArgs s_Order_precedes) (defBody s_Order_precedes) (defScope s_Order_precedes) .none kV2 dc2 pm2 an2 cd2 ct2), sl2⟩) (c2 : PySem.W.codeIn K cd2 "Order.precedes" = true) (k2 : PySem.W.keepIn K (.ref f2) = true)
    (q1 : PySem.W.findIn K (.ref C) "is_consistent" = some (some (.ref f3))) (q2 : PySem.W.isFn K (.ref f3) = true) (l3 : K.lookup f3 = some ⟨oc3, od3, .func (PySem.W.fnOf "is_consistent" "Order.is_consistent" (defArgs s_Order_is_consistent) (defBody s_Order_is_consistent) (defScope s_Order_is_consistent) .none kV3 dc3 pm3 an3 cd3 ct3), sl3⟩) (c3 : PySem.W.codeIn K cd3 "Order.is_consistent" = true) (k3 : PySem.W.keepIn K (.ref f3) = true) : OrdF K C :=
  ⟨⟨_, _, ⟨m1, m2, m3, m4⟩, fun_mk (st := s_Order_init) l1 c1 k1⟩, ⟨_, _, ⟨p1, p2, k2⟩, fun_mk (st := s_Order_precedes) l2 c2 k2⟩, ⟨_, _, ⟨q1, q2, k3⟩, fun_mk (st := s_Order_is_consistent) l3 c3 k3⟩⟩
theorem um_mk {N : Addr} {nm q : Str} {bs bm : List Value} {sn : List Str} {sub : List Value} {ab : Bool} {col : Option Bool} {dd : Option Addr} {k0 k1 k2 k3 k5 : Option Value} (X : K.In h) (G : h.Ns mainGlobals mg)
    (h1 : PySem.W.nsIn K mainGlobals "UnknownMoment" = some (some (.ref U))) (hB : PySem.W.nsIn K mainGlobals "TaleError" = some (some (.ref BE))) (h2 : K.lookup U = some (excClassObj nm q U N bs bm true sn sub ab col dd k0 k1 k2 k3 k5 "ValueError.__new__")) (h3 : PySem.HandSPX.refsVE bm = true)
    (h4 : PySem.W.findIn K (.ref U) "__setattr__" = some (some (.builtin "object.__setattr__"))) (h5 : PySem.W.subIn K (.ref U) (.type "BaseException") = some true) (h6 : PySem.W.typeIn K (.ref U) = some (.type "type")) (h7 : PySem.W.keepIn K (.ref U) = true)
    (h8 : PySem.W.findIn K (.ref U) "__getattribute__" = some (some (.builtin "BaseException.__getattribute__"))) (h9 : PySem.W.findIn K (.ref U) "__getattr__" = some none) (h10 : PySem.W.hasDictIn K U = true)
    (h11 : PySem.W.findIn K (.ref U) "__class__" = some (some (.builtin "object.__class__"))) (h12 : PySem.W.specialIn K (.builtin "object.__class__") "__get__" = some (some (.builtin "getset_descriptor.__get__")))
    (h13 : PySem.W.takesIn K (.builtin "object.__class__") = some true) (h14 : PySem.W.mroIn K U (.type "object") = some true) (no : PySem.W.findIn K (.ref U) "name" = some none)
    (te : PySem.W.exmOne K (.ref U) (.ref BE) = some true) (kit : PySem.W.kitOne K (.ref U) (.ref U) = some true) : Um K mg U BE :=
  ⟨PySem.W.mg_of X G h1, PySem.W.mg_of X G hB, ⟨⟨nm, q, N, bs, bm, sn, sub, ab, col, dd, k0, k1, k2, k3, k5, h2, h3⟩, h4, h5, h6, h7⟩, ⟨h8, h9, h5, h10, h11, h12, h13, h14⟩, no, te, kit⟩
theorem uf_mk {f T : Addr} {oc : Value} {od an odT : Option Addr} {osl oslT : Array (Option Value)} {kV doc pm cdv ct ocT : Value} {n : Nat} (_X : K.In h) (_g : PySem.W.nsIn K mainGlobals "UnknownMoment" = some (some (.ref U)))
    (iC : PySem.W.findIn K (.ref U) "__init__" = some (some (.ref f))) (tI : PySem.W.typeIn K (.ref f) = some (.type "function"))
    (l : K.lookup f = some ⟨oc, od, .func (PySem.W.fnOf "__init__" "UnknownMoment.__init__" (defArgs s_ini) (defBody s_ini) (defScope s_ini) (.ref T) kV doc pm an cdv ct), osl⟩) (c : PySem.W.codeIn K cdv "UnknownMoment.__init__" = true) (k : PySem.W.keepIn K (.ref f) = true)
    (lT : K.lookup T = some ⟨ocT, odT, .seq #[.none] n, oslT⟩) : UF K U :=
  ⟨f, _, ⟨⟨oc, od, .ref T, kV, doc, pm, an, cdv, ct, osl, rfl, l, c, .inr ⟨by simp, T, _, [.none], n, rfl, lT, rfl, .cons rfl .nil⟩, .inl rfl⟩, k⟩, iC, tI⟩
theorem tupT {a : Addr} {od : Option Addr} {its : Array Value} {n : Nat} {sl : Array (Option Value)} {xs : List V} (l : K.lookup a = some ⟨.type "tuple", od, .seq its n, sl⟩) (z : its.size ≤ sizeLine) (r : Vals xs its.toList) (H : Hp) : SqT K H a xs := .inr ⟨_, _, _, l, rfl, rfl, z, r⟩
theorem wds_mk {aM aF aB aW : Addr} {t1 t2 a1 a2 a3 b1 b2 d1 d2 e1 e2 e3 e4 e5 e6 : Tok} {oM oF oB oW : Option Addr} {nM nF nB nW : Nat} {sM sF sB sW : Array (Option Value)} (X : K.In h) (G : h.Ns mainGlobals mg)
    (g1 : PySem.W.nsIn K mainGlobals "LONGEST_NAME" = some (some (.int 8 t1))) (g2 : PySem.W.nsIn K mainGlobals "LETTERS" = some (some (.str letters t2)))
    (g3 : PySem.W.nsIn K mainGlobals "MOVING_WORDS" = some (some (.ref aM))) (g4 : PySem.W.nsIn K mainGlobals "FORWARD_WORDS" = some (some (.ref aF))) (g5 : PySem.W.nsIn K mainGlobals "BACKWARD_WORDS" = some (some (.ref aB))) (g6 : PySem.W.nsIn K mainGlobals "WORDS" = some (some (.ref aW)))
    (l3 : K.lookup aM = some ⟨.type "tuple", oM, .seq #[.str "at" a1, .str "then" a2, .str "back" a3] nM, sM⟩) (l4 : K.lookup aF = some ⟨.type "tuple", oF, .seq #[.str "then" b1, .str "later" b2] nF, sF⟩) (l5 : K.lookup aB = some ⟨.type "tuple", oB, .seq #[.str "back" d1, .str "earlier" d2] nB, sB⟩)
    (l6 : K.lookup aW = some ⟨.type "tuple", oW, .seq #[.str "at" e1, .str "then" e2, .str "back" e3, .str "later" e4, .str "earlier" e5, .str "with" e6] nW, sW⟩) : Wds K mg aM aF aB aW :=
  ⟨⟨_, PySem.W.mg_of X G g1, _, rfl⟩, ⟨_, PySem.W.mg_of X G g2, _, rfl⟩, PySem.W.mg_of X G g3, PySem.W.mg_of X G g4, PySem.W.mg_of X G g5, PySem.W.mg_of X G g6,
    tupT l3 (by show 3 ≤ sizeLine; decide) (.cons ⟨_, rfl⟩ (.cons ⟨_, rfl⟩ (.cons ⟨_, rfl⟩ .nil))), tupT l4 (by show 2 ≤ sizeLine; decide) (.cons ⟨_, rfl⟩ (.cons ⟨_, rfl⟩ .nil)), tupT l5 (by show 2 ≤ sizeLine; decide) (.cons ⟨_, rfl⟩ (.cons ⟨_, rfl⟩ .nil)),
    tupT l6 (by show 6 ≤ sizeLine; decide) (.cons ⟨_, rfl⟩ (.cons ⟨_, rfl⟩ (.cons ⟨_, rfl⟩ (.cons ⟨_, rfl⟩ (.cons ⟨_, rfl⟩ (.cons ⟨_, rfl⟩ .nil))))))⟩
theorem law_mk {aM aF aB aW f fa : Addr} {oc : Value} {od an : Option Addr} {osl : Array (Option Value)} {kV doc pm cdv ct : Value} (X : K.In h) (G : h.Ns mainGlobals mg) (hfa : mg "law" = some (.ref fa)) (a : PySem.W.nsIn K mainGlobals "law" = some (some (.ref f)))
    (l : K.lookup f = some ⟨oc, od, .func (PySem.W.fnOf "law" "law" (defArgs s_law) (defBody s_law) (defScope s_law) .none kV doc pm an cdv ct), osl⟩) (c : PySem.W.codeIn K cdv "law" = true) (k : PySem.W.keepIn K (.ref f) = true)
    (T : Txt K mg) (A : Wds K mg aM aF aB aW) (B : Kls K mg C) (O : OrdF K C) (M : Um K mg U BE) (V : UF K U) (D : Defs K mg) :
    ∃ fd : FuncData, (∀ (s : Shared) (v : Value), BindsTo s fd ⟨[v], []⟩ [("script", v)]) ∧ ∀ base : Heap, K.In base → base.Ns mainGlobals mg → FnOk P w K mg base CX0 10 fa fd ["script"] (spLaw K) := by
  have e := hfa.symm.trans (PySem.W.mg_of X G a)
  cases e
  exact ⟨_, fun s v => .of_eq rfl, fun base _ _ => law_of T A B O M V D (fun_mk l c k)⟩
end
end Lw
open PySem PySem.W PyProof.Rows
set_option maxHeartbeats 0 in
theorem PySem.Challenge.cw_backthen_k11_relations_of_moments_holds : PySem.Challenge.rw_backthen_k11_relations_of_moments.Holds := by
  w_on; o_law; k_head; (case hw => w_witness2)
  k_fill
  refine L2.walk_of (l := PySem.Challenge.rw_backthen_k11_relations_of_moments) (n := 63) (k := 10) (x := "script") (CX := fun _ => L2.CX0) (sp := fun w => Lw.spLaw _) rfl (by decide) rfl ⟨rfl, by decide, by decide⟩ (fun w h Y => PySem.W.kIn_of Y) ?F (fun _ _ a ns hl _ hS => ⟨a, ns, rfl, hS, hl, fun _ => rfl⟩) (fun _ _ _ _ _ h => h)
  case F =>
    intro w mg fa h KX G hmg
    have T : Lw.Txt (L2.KOf KX) mg := ⟨PySem.W.mg_none_of KX G (by k_is), PySem.W.mg_none_of KX G (by k_is), PySem.W.mg_none_of KX G (by k_is), PySem.W.mg_none_of KX G (by k_is), PySem.W.mg_none_of KX G (by k_is), PySem.W.mg_none_of KX G (by k_is), PySem.W.mg_none_of KX G (by k_is), PySem.W.mg_none_of KX G (by k_is), PySem.W.mg_none_of KX G (by k_is), PySem.W.mg_none_of KX G (by k_is), PySem.W.mg_none_of KX G (by k_is), PySem.W.mg_none_of KX G (by k_is), PySem.W.mg_none_of KX G (by k_is), PySem.W.mg_none_of KX G (by k_is), PySem.W.mg_none_of KX G (by k_is), PySem.W.mg_none_of KX G (by k_is)⟩
    have B := Lw.kls_mk KX G (by k_is) (by k_is) (by k_is) (by k_is) (by k_is) (by k_is) (by k_is) (by k_is)
    have O := Lw.ordF_mk KX (by k_is) (by k_is) (by k_is) (by k_is) (by k_is) (by k_is) (by k_is) (by k_is) (by k_is) (by k_is) (by k_is) (by k_is) (by k_is) (by k_is) (by k_is) (by k_is) (by k_is) (by k_is)
    have A := Lw.wds_mk KX G (by k_is) (by k_is) (by k_is) (by k_is) (by k_is) (by k_is) (by k_is) (by k_is) (by k_is) (by k_is)
    have M := Lw.um_mk KX G (by k_is) (by k_is) (by k_is) (by decide +kernel) (by k_is) (by k_is) (by k_is) (by k_is) (by k_is) (by k_is) (by k_is) (by k_is) (by k_is) (by k_is) (by k_is) (by k_is) (by kernel_rfl) (by kernel_rfl)
    have V := Lw.uf_mk KX (by k_is) (by k_is) (by k_is) (by k_is) (by k_is) (by k_is) (by k_is)
    have D := Lw.Defs.mk (Lw.fn_mk KX G (by k_is) (by k_is) (by k_is) (by k_is)) (Lw.fn_mk KX G (by k_is) (by k_is) (by k_is) (by k_is)) (Lw.fn_mk KX G (by k_is) (by k_is) (by k_is) (by k_is)) (Lw.fn_mk KX G (by k_is) (by k_is) (by k_is) (by k_is)) (Lw.fn_mk KX G (by k_is) (by k_is) (by k_is) (by k_is)) (Lw.fn_mk KX G (by k_is) (by k_is) (by k_is) (by k_is)) (Lw.fn_mk KX G (by k_is) (by k_is) (by k_is) (by k_is)) (Lw.fn_mk KX G (by k_is) (by k_is) (by k_is) (by k_is)) (Lw.fn_mk KX G (by k_is) (by k_is) (by k_is) (by k_is)) (Lw.fn_mk KX G (by k_is) (by k_is) (by k_is) (by k_is)) (Lw.fn_mk KX G (by k_is) (by k_is) (by k_is) (by k_is)) (Lw.fn_mk KX G (by k_is) (by k_is) (by k_is) (by k_is)) (Lw.fn_mk KX G (by k_is) (by k_is) (by k_is) (by k_is)) (Lw.fn_mk KX G (by k_is) (by k_is) (by k_is) (by k_is)) (Lw.fn_mk KX G (by k_is) (by k_is) (by k_is) (by k_is)) (Lw.fn_mk KX G (by k_is) (by k_is) (by k_is) (by k_is)) (Lw.fn_mk KX G (by k_is) (by k_is) (by k_is) (by k_is)) (Lw.fn_mk KX G (by k_is) (by k_is) (by k_is) (by k_is)) (Lw.fn_mk KX G (by k_is) (by k_is) (by k_is) (by k_is)) (Lw.fn_mk KX G (by k_is) (by k_is) (by k_is) (by k_is)) (Lw.fn_mk KX G (by k_is) (by k_is) (by k_is) (by k_is)) (Lw.fn_mk KX G (by k_is) (by k_is) (by k_is) (by k_is)) (Lw.fn_mk KX G (by k_is) (by k_is) (by k_is) (by k_is)) (Lw.fn_mk KX G (by k_is) (by k_is) (by k_is) (by k_is)) (Lw.fn_mk KX G (by k_is) (by k_is) (by k_is) (by k_is))
    exact Lw.law_mk KX G hmg (by k_is) (by k_is) (by k_is) (by k_is) T A B O M V D
