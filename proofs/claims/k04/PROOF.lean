import PyProof.Rows.All
import Wide.All
import OpenK.AllK
import Wide.FinOn
import HandS.ForMost
import HandS.Wide
import HandS.IsInst
import HandS.Defaults
import HandS.TupAny
import HandS.MakeKw
import HandS.Walk
import HandS.ExcInit
import HandS.ExcValue
import HandS.ExcBuiltin
import HandS.ExcIs
import KE.KExcIs
import PySem.Challenge.RW_backthen_k04_errors_and_their_fields
set_option Elab.async false
set_option linter.all false
set_option maxRecDepth 100000
set_option maxHeartbeats 4000000
namespace L2
open PySem PySem.Spec PyProof.Rows
/-- a def of the module's top that keeps its promise -/
structure Df (P : Program) (w : World) (K : PySem.W.Frag) (mg : Str → Option Value) (base : Heap) (x : Str) (k : Nat) (ps : List Str) (sp : Sp) : Prop where
  ex : ∃ (f : Addr) (fd : FuncData), FnOk P w K mg base CX0 k f fd ps sp ∧ mg x = some (.ref f) ∧ PySem.W.keepIn K (.ref f) = true ∧ Binds K fd ps []
/-- where a def stands behind the top -/
def Fn (K : PySem.W.Frag) (mg : Str → Option Value) (x : Str) (st : Stmt) : Prop := ∃ (f : Addr) (fd : FuncData), Fun K x x st f fd ∧ mg x = some (.ref f)
section
variable {P : Program} {w : World} {K : PySem.W.Frag} {mg : Str → Option Value} {base : Heap}
theorem Fn.df {x : Str} {st : Stmt} {k : Nat} {ps : List Str} {sp : Sp} (F : Fn K mg x st)
    (hb : ∀ (kV doc pm : Value) (an : Option Addr) (cdv ct : Value) (us : List Value), us.length = ps.length → bindArgs (PySem.W.fnOf x x (defArgs st) (defBody st) (defScope st) .none kV doc pm an cdv ct) ⟨us, []⟩ = pure (ps.zip us))
    (ok : ∀ (f : Addr) (fd : FuncData), Fun K x x st f fd → FnOk P w K mg base CX0 k f fd ps sp) : Df P w K mg base x k ps sp := by
  obtain ⟨f, fd, F, m⟩ := F
  exact ⟨f, fd, ok f fd F, m, F.kp, F.binds hb⟩
theorem Df.mono {x : Str} {j k : Nat} {ps : List Str} {sp : Sp} (G : Df P w K mg base x j ps sp) (h : j ≤ k) : Df P w K mg base x k ps sp := by
  obtain ⟨f, fd, o, m, kp, b⟩ := G.ex
  exact ⟨f, fd, o.mono h, m, kp, b⟩
theorem Df.imp {x : Str} {k : Nat} {ps : List Str} {sp sp' : Sp} (G : Df P w K mg base x k ps sp) (h : ∀ vs H Q E, sp' vs H Q E → sp vs H Q E) : Df P w K mg base x k ps sp' := by
  obtain ⟨f, fd, o, m, kp, b⟩ := G.ex
  exact ⟨f, fd, o.imp h, m, kp, b⟩
end
section
variable {X : Cx} {k : Nat} {ps : List Str} {sp : Sp} {x : Str} {p pos : Pos} {e : Expr} {es : List Expr} {t : TA}
theorem pe_df (G : Df X.prog X.w X.K X.mg X.base x k ps sp) (hr : Room k X.A) (hg : Gl X x) (ha : PA X (e :: es) t) (hdb : (x == ("__debug__" : Str)) = false := by decide)
    (he : starEach (e :: es) X.env = (false, eval e X.env) :: starEach es X.env := by rfl) (hpl : (backTo pos (starEach es X.env)).any (·.1) = false := by rfl) :
    PE X (.Call (.Name x p) (e :: es) [] pos) (tCall sp [] E0 t) := by
  obtain ⟨f, fd, o, m, kp, b⟩ := G.ex
  exact pe_call o hr hg m kp b .nil pass0 ha hdb he hpl
theorem pe_df0 (G : Df X.prog X.w X.K X.mg X.base x k ps sp) (hr : Room k X.A) (hg : Gl X x) (hdb : (x == ("__debug__" : Str)) = false := by decide) :
    PE X (.Call (.Name x p) [] [] pos) (tCall sp [] E0 tNil) := by
  obtain ⟨f, fd, o, m, kp, b⟩ := G.ex
  exact pe_call0 o hr hg m kp b .nil pass0 hdb
theorem op_powB : OpR X (binaryOp .Pow) (rI (fun i j => 0 ≤ j ∧ (Builtin.Int.intBits i : Int) * j ≤ 2 ^ 27) fun i j => .int (i ^ j.toNat)) := opI fun _ _ _ _ _ _ _ hc q => pow_int hc.1 hc.2 q
end
theorem same_upd {H : Hp} {p : Addr} {o : HO} (h : H p = none) : Same H (upd H p o) := fun b x e => by
  rw [upd_ne (ne_of_none e h)]
  exact e
theorem Same.seqT {K : PySem.W.Frag} {H H' : Hp} {a : Addr} {xs : List V} (e : Same H H') (h : SqT K H a xs) : SqT K H' a xs := by
  rcases h with (h | ⟨o, h⟩) | h
  · exact .inl (.inl (e _ _ h))
  · exact .inl (.inr ⟨o, e _ _ h⟩)
  · exact .inr h
mutual
theorem Dp.same {K : PySem.W.Frag} {H H' : Hp} (s : Same H H') : ∀ {v : V} {d : PyData}, Dp K H v d → Dp K H' v d
  | _, _, .non => .non
  | _, _, .bl b => .bl b
  | _, _, .int i => .int i
  | _, _, .str x => .str x
  | _, _, .lst h hs => .lst (s.seq h) (DpAll.same s hs)
  | _, _, .tup h hs => .tup (s.seqT h) (DpAll.same s hs)
theorem DpAll.same {K : PySem.W.Frag} {H H' : Hp} (s : Same H H') : ∀ {vs : List V} {ds : List PyData}, DpAll K H vs ds → DpAll K H' vs ds
  | _, _, .nil => .nil
  | _, _, .cons h hs => .cons (h.same s) (hs.same s)
end
theorem yes_run {σ : St} {H : Hp} {A B : Hp → Prop} (h : A H) : tYes σ H (fun b H3 => if b = true then A H3 else B H3) := by
  show if true = true then A H else B H
  rw [if_pos rfl]
  exact h
/-- what stood at the call stands, but for the object at p -/
def SameB (p : Addr) (H H' : Hp) : Prop := ∀ b o, b ≠ p → H b = some o → H' b = some o
theorem Same.but {p : Addr} {H H' : Hp} (s : Same H H') : SameB p H H' := fun b o _ e => s b o e
theorem SameB.upd {p : Addr} {H : Hp} {o : HO} : SameB p H (upd H p o) := fun b x n e => by rw [upd_ne n]; exact e
theorem SameB.trans {p : Addr} {H H1 H2 : Hp} (a : SameB p H H1) (b : SameB p H1 H2) : SameB p H H2 := fun c o n h => b c o n (a c o n h)
theorem SameB.refl {p : Addr} {H : Hp} : SameB p H H := fun _ _ _ h => h
/-- three ints: what is left of a cell, the cell, the turn -/
structure PurseOk (p0 p1 p2 : Int) (n : Nat) : Prop where
  a0 : 0 ≤ p0
  b0 : p0 < 10 ^ 600
  a1 : 0 ≤ p1
  b1 : p1 < 2147483647
  a2 : 0 ≤ p2
  b2 : p2 ≤ (n : Int)
theorem PurseOk.mono {p0 p1 p2 : Int} {n m : Nat} (h : PurseOk p0 p1 p2 n) (l : n ≤ m) : PurseOk p0 p1 p2 m := ⟨h.a0, h.b0, h.a1, h.b1, h.a2, by have := h.b2; omega⟩
/-- at p: a purse of at most n turns -/
def Purse (H : Hp) (p : Addr) (n : Nat) : Prop := ∃ p0 p1 p2, H p = some (.lst [.int p0, .int p1, .int p2]) ∧ PurseOk p0 p1 p2 n
theorem Purse.mono {H : Hp} {p : Addr} {n m : Nat} (h : Purse H p n) (l : n ≤ m) : Purse H p m := by
  obtain ⟨a, b, c, e, o⟩ := h
  exact ⟨a, b, c, e, o.mono l⟩
def spAt (K : PySem.W.Frag) : Sp := fun vs H Q _ => ∃ (a : Addr) (ns : List Int) (k : Nat), vs = [.ref a, .int k] ∧ SqL K H a (ns.map V.int) ∧ ∀ c, Q (.int c) H
def spMixed : Sp := fun vs H Q _ => ∃ (c k : Int), vs = [.int c, .int k] ∧ 0 ≤ c ∧ c < 2147483647 ∧ 0 ≤ k ∧ k < 2 ^ 40 ∧ ∀ m, 0 ≤ m → m < 2147483587 → Q (.int m) H
def spPurse (K : PySem.W.Frag) : Sp := fun vs H Q _ => ∃ (a : Addr) (ns : List Int) (k : Nat), vs = [.ref a, .int k] ∧ SqL K H a (ns.map V.int) ∧ k ≤ 63 ∧
  ∀ p p0 p1 p2, H p = none → PurseOk p0 p1 p2 63000 → Q (.ref p) (upd H p (.lst [.int p0, .int p1, .int p2]))
def spDraw : Sp := fun vs H Q _ => ∃ (p : Addr) (p0 p1 p2 : Int) (n : Nat) (m : Int), vs = [.ref p, .int m] ∧ H p = some (.lst [.int p0, .int p1, .int p2]) ∧ PurseOk p0 p1 p2 n ∧ n < 2 ^ 39 ∧ 1 ≤ m ∧ m < 2 ^ 62 ∧
  ∀ d q0 q1 q2, 0 ≤ d → d < m → PurseOk q0 q1 q2 (n + 1) → Q (.int d) (upd H p (.lst [.int q0, .int q1, .int q2]))
theorem pow600 : (((10 : Int) ^ (60 : Int).toNat) ^ (10 : Int).toNat) = 10 ^ 600 := by decide +kernel
theorem pow600_pos : (0 : Int) < 10 ^ 600 := by decide +kernel
end L2
set_option Elab.async false
set_option linter.all false
set_option maxRecDepth 100000
set_option maxHeartbeats 4000000
namespace PySem
namespace HandSPX
open Builtin Builtin.ObjectAttr
section
variable {M : Model} {A : Around} {E : Value → Shared → Prop} {h : Heap} {g : Array GenState} {d : Drawn} {t : Nat} {os : OsState}
variable {cn q : Str} {C N : Addr} {bas tl tlB : List Value} {hdd : Bool} {sls : List Str} {sbs : List Value} {abst : Bool} {cll : Option Bool} {dcp : Option Addr} {e0 e1 e2 e3 e5 : Option Value} {B mk ini : String}
theorem kx_check (F : ExcBaseFacts B mk ini tlB) (htl : ∀ X : String, tl.contains (.type X) = tlB.contains (.type X)) {given : List Value} {kws : List (Str × Value)} {Q : Unit → Shared → Prop} (hcl : h.get? C = some (excClassObj cn q C N bas tl hdd sls sbs abst cll dcp e0 e1 e2 e3 e5 mk)) (hq : Q () ⟨h, g, d, t, os⟩) : wpAny M A (checkBuiltinCall mk ⟨.ref C :: given, kws⟩) Q E ⟨h, g, d, t, os⟩ := by
  have hin : (Value.ref C :: tl).contains (.type B) = true := by rw [List.contains_cons, htl, F.hasB, Bool.or_true]
  have hst := F.noStar
  simp only [checkBuiltinCall, F.newKind, F.newSplit, F.newRow]
  repeat (first | refine wpAny_loadPart_at hcl ?_ | (refine wpAny_isSubtype_exc hcl ?_; rw [hin]) | refine wpAny_staticBase_exc hcl ?_ | refine wpAny_madeBy_exc hcl ?_ | simp only [bne_self_eq_false, Bool.false_eq_true, if_false] | wp_step)
  exact hq
end
section
variable {pg : Program} {w : World} {A : Around} {E : Value → Shared → Prop} {R : Result → Shared → Prop} {h : Heap} {g : Array GenState} {d : Drawn} {t : Nat} {os : OsState}
variable {cn q : Str} {C N : Addr} {bas tl tlB : List Value} {hdd : Bool} {sls : List Str} {sbs : List Value} {abst : Bool} {cll : Option Bool} {dcp : Option Addr} {e0 e1 e2 e3 e5 : Option Value} {B mk ini : String}
theorem kx_new (F : ExcBaseFacts B mk ini tlB) (htl : ∀ X : String, tl.contains (.type X) = tlB.contains (.type X)) {given : List Value} {kws : List (Str × Value)} (hcl : h.get? C = some (excClassObj cn q C N bas tl hdd sls sbs abst cll dcp e0 e1 e2 e3 e5 mk)) (hq : R (.ok (.ret (.ref (h.objs.size + 1)))) ⟨(h.push { cls := .type "tuple", data := .seq given.toArray }).push
      { cls := .ref C, data := .fields #[.ref h.objs.size, .none, .none, .none, .bool false, .none] }, g, d, t, os⟩) (hfit : given.length ≤ sizeLine) :
    codeAny (model pg w) A (.builtin mk ⟨.ref C :: given, kws⟩) R ⟨h, g, d, t, os⟩ := by
  have hen := F.ends
  have hinB : (Value.ref C :: tl).contains (.type B) = true := by rw [List.contains_cons, htl, F.hasB, Bool.or_true]
  have hinA : (Value.ref C :: tl).contains (.type "AttributeError") = false := by rw [List.contains_cons, htl, F.noAttr]; rfl
  have hinN : (Value.ref C :: tl).contains (.type "NameError") = false := by rw [List.contains_cons, htl, F.noName]; rfl
  refine codeAny_builtinAt F.entry ?_; unfold Builtin.«BaseException.__new__»
  refine wpAt_bind ?_; show wpAt _ _ _ (stack >>= _) _ _ _; refine wpAt_bind (wpAt_stack fun at1 under1 => wpAt_of_wpAny ?_); wp_walk; refine wpAt_of_wpAny ?_
  rw [F.owner]
  repeat (first | with_reducible refine wpAny_madeHere_exc F.canon hcl ?_ | with_reducible refine wpAny_loadPart_at hcl ?_ | (with_reducible refine wpAny_isSubtype_exc hcl ?_; first | rw [hinB] | rw [hinA] | rw [hinN]) | wp_step)
  show R _ _
  rw [Heap.size_push]
  exact hq
theorem kx_type_call (F : ExcBaseFacts B mk ini tlB) (htl : ∀ X : String, tl.contains (.type X) = tlB.contains (.type X)) {given : List Value} {kws : List (Str × Value)} {fI : Addr} {Q : Fin → Shared → Prop} (hcl : h.get? C = some (excClassObj cn q C N bas tl hdd sls sbs abst cll dcp e0 e1 e2 e3 e5 mk)) (hi : W.Looks (model pg w) h (typeLookup (.ref C) "__init__") (some (.ref fI))) (hb : ∀ self, W.Looks (model pg w) h (bindSpecial (.ref fI) self) (.ref fI, [self])) (hfit : given.length ≤ sizeLine) (hq : codeAny (model pg w) A (.call (.ref fI) ⟨.ref (h.objs.size + 1) :: given, kws⟩)
      (fun r s' => match r with | .ok (.ret v) => v = .none ∧ Q (.done (.ret (.ref (h.objs.size + 1)))) s' | .ok _ => False | .error e => E e s')
      ⟨(h.push (W.kdv_tup given)).push (excO C h.objs.size), g, d, t, os⟩) :
    wpAny (model pg w) A (Builtin.«type.__call__» ⟨.ref C :: given, kws⟩) Q E ⟨h, g, d, t, os⟩ := by
  repeat (first | with_reducible refine wpAny_loadPart_at hcl ?_ | with_reducible refine wpAny_madeBy_exc hcl ?_ | wp_step)
  refine codeAny_call_builtin_code (Code.quiet_builtin _ F.quiet) (kx_check F htl hcl ?_)
  refine kx_new F htl hcl ?_ hfit
  show wpAny _ _ _ _ _ _
  have k : ∀ b o, h.get? b = some o → ((h.push (W.kdv_tup given)).push (excO C h.objs.size)).get? b = some o := fun b o e => Heap.get?_push_of_some _ (Heap.get?_push_of_some _ e)
  have hcl' := k _ _ hcl
  have hgot : ((h.push (W.kdv_tup given)).push (excO C h.objs.size)).get? (h.objs.size + 1) = some (excO C h.objs.size) := by heap_get
  have hinC : (Value.ref C :: tl).contains (.ref C) = true := by simp
  have li := hi.keeps k
  have lb := (hb (.ref (h.objs.size + 1))).keeps k
  unfold isInstance
  repeat (first | with_reducible refine wpAny_loadPart_at hgot ?_ | (with_reducible refine wpAny_isSubtype_exc hcl' ?_; rw [hinC]) | wp_step)
  show wpAny _ _ (typeLookup (.ref C) _) _ _ _
  refine li.at ?_
  refine wpAny_holding (wpAny_bind (lb.at ?_))
  refine wpAny_bind (wpAny_call (codeAny_mono hq fun r s' z => ?_))
  rcases r with e | (v | _ | _ | _) <;> first | exact z | exact z.elim | skip
  obtain ⟨rfl, z⟩ := z
  first
    | exact wpAny_pure (wpAny_pure z)
    | (wp_walk; exact z)
theorem kx_call (F : ExcBaseFacts B mk ini tlB) (htl : ∀ X : String, tl.contains (.type X) = tlB.contains (.type X)) {given : List Value} {kws : List (Str × Value)} {fI : Addr} (hcl : h.get? C = some (excClassObj cn q C N bas tl hdd sls sbs abst cll dcp e0 e1 e2 e3 e5 mk)) (hi : W.Looks (model pg w) h (typeLookup (.ref C) "__init__") (some (.ref fI))) (hb : ∀ self, W.Looks (model pg w) h (bindSpecial (.ref fI) self) (.ref fI, [self])) (hfit : given.length ≤ sizeLine) (hq : codeAny (model pg w) (A.under (.builtin "type.__call__" ⟨.ref C :: given, kws⟩)) (.call (.ref fI) ⟨.ref (h.objs.size + 1) :: given, kws⟩) (W.InitBack (h.objs.size + 1) R)
      ⟨(h.push (W.kdv_tup given)).push (excO C h.objs.size), g, d, t, os⟩) :
    codeAny (model pg w) A (.call (.ref C) ⟨given, kws⟩) R ⟨h, g, d, t, os⟩ := by
  have t1 := tc_lookup
  have t2 := tc_bind (.ref C)
  have hty : (⟨h, g, d, t, os⟩ : Shared).TypeIs (.ref C) "type" := ⟨_, hcl, rfl⟩
  refine codeAny_of_tree ?_
  show wpAny _ _ (callAny (.ref C) _) _ _ _
  repeat (any_goals (first | assumption | with_reducible refine wpAny_loadPart_at hcl ?_ | wp_step))
  refine ⟨rfl, ?_⟩
  refine codeAny_call_builtin_at (Code.quiet_builtin _ (by decide +kernel)) entry_typeCall (wpAny_check_type_call_sub hcl (kx_type_call F htl hcl hi hb hfit ?_))
  refine codeAny_mono hq fun r s' z => ?_
  rcases r with e | (v | _ | _ | _) <;> exact z
end
end HandSPX
end PySem
set_option Elab.async false
set_option linter.all false
set_option maxRecDepth 100000
set_option maxHeartbeats 4000000
namespace L2
open PySem PySem.Spec PyProof.Rows
section
variable {X : Cx} {CX : CXT} {k n : Nat} {C fI : Addr} {fd : FuncData} {ps ks : List Str} {sp : Sp} {E : XK} {x f : Str} {p pos : Pos} {e : Expr} {es : List Expr} {kws : List Keyword} {t tk : TA} {te : TE} {g : List Value → List Value → List Value} {gV : List V → List V → List V}
theorem run_exk {pins : List (Addr × Obj)} {σ : St} {H : Hp} {s : Shared} {Q : VK} {us ws : List Value} {vs zs : List V} (T : OexC X.K C) (iC : PySem.W.findIn X.K (.ref C) "__init__" = some (some (.ref fI))) (tI : PySem.W.typeIn X.K (.ref fI) = some (.type "function"))
    (F : FnOk X.prog X.w X.K X.mg X.base CX k fI fd ps sp) (hr : Room (k + 1) X.A) (hb : KBn X.K fd ps (n + 1) ks g gV)
    (hx : Passes CX X E) (I : Inv X pins σ H s) (r : Vals vs us) (rz : Vals zs ws) (l1 : vs.length = n) (l2 : zs.length = ks.length) (lz : vs.length ≤ 1000)
    (h : ∀ a, H a = none → sp (gV (.ref a :: vs) zs) (upd H a (exo a C none)) (fun v H2 => v = .non ∧ Q (.ref a) H2) E) :
    wpAny (model X.prog X.w) X.A (call (.ref C) us (ks.zip ws)) (EP X pins σ Q) X.xe s := by
  obtain ⟨nm, q, N, bs, bm, sn, sub, ab, col, dd, k0, k1, k2, k3, k5, hC, hbm⟩ := T.cls
  obtain ⟨hp, gg, dr, tk, os⟩ := s
  have hsz : hp.objs.size ≤ hp.objs.size + 1 := Nat.le_succ _
  have hn : H (hp.objs.size + 1) = none := I.hok.fresh hsz
  have hq := h (hp.objs.size + 1) hn
  have kk : ∀ b o, hp.get? b = some o → ((hp.push (PySem.W.kdv_tup us)).push (PySem.HandSPX.excO C hp.objs.size)).get? b = some o := fun b o e => Heap.get?_push_of_some _ (Heap.get?_push_of_some _ e)
  have hget : ((hp.push (PySem.W.kdv_tup us)).push (PySem.HandSPX.excO C hp.objs.size)).get? (hp.objs.size + 1) = some (PySem.HandSPX.excO C hp.objs.size) := by heap_get
  have I2 : Inv X pins σ (upd H (hp.objs.size + 1) (exo (hp.objs.size + 1) C none)) ⟨(hp.push (PySem.W.kdv_tup us)).push (PySem.HandSPX.excO C hp.objs.size), gg, dr, tk, os⟩ :=
    I.laid (t' := tk) (a := hp.objs.size + 1) (o := exo (hp.objs.size + 1) C none) (h' := (hp.push (PySem.W.kdv_tup us)).push (PySem.HandSPX.excO C hp.objs.size)) kk hsz (exo_ok hget)
  have r1 : Vals (V.ref (hp.objs.size + 1) :: vs) (Value.ref (hp.objs.size + 1) :: us) := .cons rfl r
  have r2 := hb.rel r1 rz
  have e1 : (Value.ref (hp.objs.size + 1) :: us).length = n + 1 := r1.length.symm.trans (congrArg Nat.succ l1)
  have e2 : ws.length = ks.length := rz.length.symm.trans l2
  have hus : us.length ≤ sizeLine := by
    rw [← Paired.length r, sizeLine_eq]
    omega
  refine wpAny_call (PySem.HandSPX.kx_call PySem.F.excBase_ValueError (fun Y => PySem.HandSPX.refsVE_contains Y bm hbm) (I.kIn _ _ hC) (PySem.W.looks_findIn I.kIn iC) (fun self => PySem.W.bind_fn I.kIn self tI) hus
    (codeAny_mono (F.run _ X.stack _ _ ⟨Value.ref (hp.objs.size + 1) :: us, ks.zip ws⟩ (g (Value.ref (hp.objs.size + 1) :: us) ws) _ _ E (hr.make C us (ks.zip ws)) (I2.env0.make C us (ks.zip ws)) (hb.to _ (Value.ref (hp.objs.size + 1) :: us) ws I2.kIn e1 e2) r2 hq) fun r s' hq' => ?_))
  cases r with
  | error er => exact hx pins σ _ _ er s' I2 hq'
  | ok fl =>
    cases fl with
    | ret u =>
      obtain ⟨v, H', I3, rv, ev, q3⟩ := I2.after hq'
      subst ev
      exact ⟨rv, ⟨V.ref (hp.objs.size + 1), H', I3, rfl, q3⟩⟩
    | next => exact False.elim hq'
    | brk => exact False.elim hq'
    | cont => exact False.elim hq'
/-- C(e, .., k = v, ..), C an own exception class with its own __init__ -/
def tExk (C : Addr) (n m : Nat) (sp : Sp) (gV : List V → List V → List V) (E : XK) (t tk : TA) : TE := fun σ H Q => t σ H fun vs H1 => tk σ H1 fun zs H2 => vs.length = n ∧ zs.length = m ∧
  ∀ a, H2 a = none → sp (gV (.ref a :: vs) zs) (upd H2 a (exo a C none)) (fun v H3 => v = .non ∧ Q (.ref a) H3) E
/-- one positional argument -/
theorem pe_exp (T : OexC X.K C) (iC : PySem.W.findIn X.K (.ref C) "__init__" = some (some (.ref fI))) (tI : PySem.W.typeIn X.K (.ref fI) = some (.type "function"))
    (F : FnOk X.prog X.w X.K X.mg X.base CX k fI fd ps sp) (hr : Room (k + 1) X.A) (hb : KBn X.K fd ps 2 [] g gV) (hx : Passes CX X E) (hg : Gl X x) (hm : X.mg x = some (.ref C)) (ha : PE X e te)
    (hdb : (x == ("__debug__" : Str)) = false := by decide) (he : starEach [e] X.env = (false, eval e X.env) :: starEach [] X.env := by rfl) (hpl : (backTo pos (starEach ([] : List Expr) X.env)).any (·.1) = false := by rfl) :
    PE X (.Call (.Name x p) [e] [] pos) (tExk C 1 0 sp gV E (tCons te tNil) tNil) := by
  refine ⟨fun pins s σ H Q I h => ?_⟩
  refine wpAny_Call_Name_kw (ld_glob I hg hm ?_ hdb)
  refine PySem.W.callWith_K (h₀ := X.base) I.ok.mod.kin T.kC (thn ((pa_cons ha pa_nil he).run pos pins s σ H _ I h) fun us s1 ⟨vs, H1, I1, r1, l1, l2, q1⟩ => ⟨I1.kIn, ?_⟩) he hpl
  exact run_exk (ks := []) (ws := []) (zs := []) T iC tI F hr hb hx I1 r1 .nil l1 l2 (by omega) q1
/-- no argument -/
theorem pe_ex0 (T : OexC X.K C) (iC : PySem.W.findIn X.K (.ref C) "__init__" = some (some (.ref fI))) (tI : PySem.W.typeIn X.K (.ref fI) = some (.type "function"))
    (F : FnOk X.prog X.w X.K X.mg X.base CX k fI fd ps sp) (hr : Room (k + 1) X.A) (hb : KBn X.K fd ps 1 [] g gV) (hx : Passes CX X E) (hg : Gl X x) (hm : X.mg x = some (.ref C))
    (hdb : (x == ("__debug__" : Str)) = false := by decide) :
    PE X (.Call (.Name x p) [] [] pos) (tExk C 0 0 sp gV E tNil tNil) := by
  refine ⟨fun pins s σ H Q I h => ?_⟩
  refine wpAny_Call_Name_kw (ld_glob I hg hm ?_ hdb)
  obtain ⟨l1, l2, q1⟩ := h
  exact PySem.W.callWith_K0 I.kIn T.kC (run_exk (us := []) (vs := []) (ks := []) (ws := []) (zs := []) T iC tI F hr hb hx I .nil .nil l1 l2 (by omega) q1)
/-- keywords alone -/
theorem pe_exkw (T : OexC X.K C) (iC : PySem.W.findIn X.K (.ref C) "__init__" = some (some (.ref fI))) (tI : PySem.W.typeIn X.K (.ref fI) = some (.type "function"))
    (F : FnOk X.prog X.w X.K X.mg X.base CX k fI fd ps sp) (hr : Room (k + 1) X.A) (hb : KBn X.K fd ps 1 ks g gV) (hx : Passes CX X E) (hg : Gl X x) (hm : X.mg x = some (.ref C)) (hkw : PK X kws tk)
    (hall : (backToKw pos (keywordEach kws X.env)).all (·.1.isSome) = true := by rfl) (hks : (backToKw pos (keywordEach kws X.env)).filterMap (·.1) = ks := by rfl)
    (hdb : (x == ("__debug__" : Str)) = false := by decide)
    (hpl : ((backTo pos (starEach ([] : List Expr) X.env)).any (·.1) || (backToKw pos (keywordEach kws X.env)).any (·.1.isNone)) = false := by rfl) :
    PE X (.Call (.Name x p) [] kws pos) (tExk C 0 ks.length sp gV E tNil tk) := by
  refine ⟨fun pins s σ H Q I h => ?_⟩
  refine wpAny_Call_Name_kw (ld_glob I hg hm ?_ hdb)
  refine PySem.W.callWith_KW0 (h₀ := X.base) I.ok.mod.kin T.kC hall ?_ hpl
  refine thn (hkw.run pos pins s σ H _ I h) fun ws s2 ⟨zs, H2, I2, rz, l1, l2, q2⟩ => ⟨I2.kIn, ?_⟩
  rw [hks]
  exact run_exk (us := []) (vs := []) T iC tI F hr hb hx I2 .nil rz l1 l2 (by omega) q2
/-- X(), an own exception class without own __init__ -/
theorem pe_exn {bmB : List Value} {B newId initId : String} (F : ExcBaseFacts B newId initId bmB) (q : PySem.W.excIn X.K C bmB newId = true) (gC : X.mg x = some (.ref C)) (kC : PySem.W.keepIn X.K (.ref C) = true) (hg : Gl X x)
    (hdb : (x == ("__debug__" : Str)) = false := by decide) :
    PE X (.Call (.Name x p) [] [] pos) (fun σ H Q => ∀ a, H a = none → Q (.ref a) (upd H a (ExO (.ref C) a))) := by
  refine ⟨fun pins s σ H Q I h => ?_⟩
  refine wpAny_Call_Name_kw (ld_glob I hg gC ?_ hdb)
  refine PySem.W.callWith_K0 I.kIn kC ?_
  obtain ⟨bm, N, nm, qn, bs, hdct, sn, sub, ab, col, dd, k0, k1, k2, k3, k5, mN, hC, hN, hni, T⟩ := exc_obj I.kIn q
  obtain ⟨hp, gg, dr, tk, os⟩ := s
  refine wpAny_call_exc_subT F T hC hN hni (fun h' a hm => ?_) (by show 0 ≤ sizeLine; exact Nat.zero_le _)
  have hn : H a = none := I.hok.gone hm.new
  obtain ⟨t, ht, _, _⟩ := hm.there
  exact ⟨.ref a, upd H a (ExO (.ref C) a), I.laidN hm.keeps hm.new hn (exO_ok ht ⟨rfl, rfl⟩ rfl rfl rfl (show 4 < 6 by decide)), rfl, h a hn⟩
/-- T(), a built-in exception as a value -/
theorem pe_exb {T N I : String} (F : ExcB T N I) (hg : Gl X x) (hm : X.mg x = none) (hv : bootBuiltins x = some (.type T)) (hn : x ≠ "__name__" := by decide) (hdb : (x == ("__debug__" : Str)) = false := by decide) :
    PE X (.Call (.Name x p) [] [] pos) (fun σ H Q => ∀ a, H a = none → Q (.ref a) (upd H a (ExO (.type T) a))) := by
  refine ⟨fun pins s σ H Q I h => ?_⟩
  refine wpAny_Call_Name_kw (ld_blt I hg hm hv ?_ hn hdb)
  obtain ⟨hp1, g1, d1, tk1, os1⟩ := s
  refine PyProof.Rows.callWith_type0 (wpAny_call_exc F.call (fun h' a mk => ?_) (Nat.zero_le _))
  have hm := PySem.Heap.MadeExc.of mk
  have hn : H a = none := I.hok.gone hm.new
  obtain ⟨t, ht, _, _⟩ := hm.there
  exact ⟨.ref a, upd H a (ExO (.type T) a), I.laidN hm.keeps hm.new hn (exO_ok ht ⟨rfl, rfl⟩ rfl rfl rfl (show 4 < 6 by decide)), rfl, h a hn⟩
/-- what the written part says of an own class of exceptions -/
structure XcA (K : PySem.W.Frag) (C : Addr) : Prop where
  hg : PySem.W.findIn K (.ref C) "__getattribute__" = some (some (.builtin "BaseException.__getattribute__"))
  hk : PySem.W.findIn K (.ref C) "__getattr__" = some none
  hs : PySem.W.subIn K (.ref C) (.type "BaseException") = some true
  hd : PySem.W.hasDictIn K C = true
  ha : PySem.W.findIn K (.ref C) "__class__" = some (some (.builtin "object.__class__"))
  hn : PySem.W.specialIn K (.builtin "object.__class__") "__get__" = some (some (.builtin "getset_descriptor.__get__"))
  ht : PySem.W.takesIn K (.builtin "object.__class__") = some true
  hm : PySem.W.mroIn K C (.type "object") = some true
/-- at a: an exception, an instance of cls -/
inductive ExV (K : PySem.W.Frag) (H : Hp) (a : Addr) : Value → Prop where
  | dict {C d : Addr} {fs : List (Str × V)} (e : H a = some (exo a C (some d))) (e2 : H d = some (exd d fs)) (A : XcA K C) : ExV K H a (.ref C)
  | own {C : Addr} (e : H a = some (ExO (.ref C) a)) (A : XcA K C) : ExV K H a (.ref C)
  | blt {T : String} (e : H a = some (ExO (.type T) a)) (FX : ExcAttrFacts T) (lk : typeLookup (.type T) "__class__" = pure (some (.builtin "object.__class__"))) (so : isSubtype (.type T) (.type (".".intercalate ("object.__class__".cutAt '.').dropLast)) = pure true) (nb : (Value.type T == Value.type "builtin_function_or_method") = false) : ExV K H a (.type T)
theorem exO_at {P : Program} {w : World} {H : Hp} {h : Heap} {a : Addr} {cls : Value} (hok : HOk P w H h) (e : H a = some (ExO cls a)) : ∃ (oe : Obj) (vs : Array Value), h.get? a = some oe ∧ Zc cls none oe ∧ oe.data = .fields vs := by
  have z : ObjOk P w H h a (.ext fun h => ∃ (oe : Obj) (vs : Array Value), h.get? a = some oe ∧ Zc cls none oe ∧ oe.data = .fields vs ∧ vs[1]? = some .none ∧ vs[2]? = some .none ∧ 4 < vs.size) := hok a _ e
  obtain ⟨oe, vs, h1, h2, h3, _⟩ := z.1
  exact ⟨oe, vs, h1, h2, h3⟩
def rIsX (K : PySem.W.Frag) : List V → Hp → VK → Prop := fun xs H Q => ∃ (a : Addr) (c : V) (t u : Value) (b : Bool), xs = [.ref a, c] ∧ ClsV c u ∧ ExV K H a t ∧ PySem.W.kitOne K t u = some b ∧ Q (.bl b) H
theorem XcA.cls {K : PySem.W.Frag} (A : XcA K C) : (PySem.W.clsIn K C).isSome = true := by
  obtain ⟨cd, hc, _⟩ := PySem.W.any_some A.hd
  rw [hc]; rfl
theorem call_isX : CallR X (.builtin "isinstance") (rIsX X.K) := by
  intro pins s σ H xs us Q I r h
  obtain ⟨a, c, t, u, b, rfl, k, ty, e, q⟩ := h
  obtain ⟨u1, u2, rfl, r1, r2⟩ := vals2 r
  have e2 := k.eq r2
  subst e2
  cases (show u1 = Value.ref a from r1)
  cases ty with
  | @dict C d fs e1 e3 A =>
    obtain ⟨t1, ho⟩ := exo_at I.hok e1
    obtain ⟨mA, hns, rel⟩ := exd_at I.hok e3
    obtain ⟨oD, _, _, hoD, _, _⟩ := hns
    have J : PySem.W.InstAt s.heap a { cls := .ref C, dict := some d, data := .fields #[.ref t1, .none, .none, .none, .bool false, .none] } C (some oD) := ⟨ho, rfl, rfl, hoD⟩
    exact PySem.W.kia_one (PySem.W.kitx_exc A.cls A.hg A.hk A.hs A.ha A.hn A.ht A.hm) I.kIn J e (fun z => nomatch z) fun tk => ⟨.bl b, H, I.tok tk, rfl, q⟩
  | @own C e1 A =>
    obtain ⟨oe, vs, ho, hz, hd⟩ := exO_at I.hok e1
    have J : PySem.W.InstAt s.heap a oe C none := by
      obtain ⟨oc, od, oda, osl⟩ := oe
      obtain ⟨h1, h2⟩ := hz
      dsimp only at h1 h2 hd
      subst h1 h2 hd
      exact ⟨ho, rfl, rfl, trivial⟩
    exact PySem.W.kia_one (PySem.W.kitx_exc A.cls A.hg A.hk A.hs A.ha A.hn A.ht A.hm) I.kIn J e (fun z => nomatch z) fun tk => ⟨.bl b, H, I.tok tk, rfl, q⟩
  | @blt T e1 FX lk so nb =>
    obtain ⟨oe, vs, ho, hz, hd⟩ := exO_at I.hok e1
    exact PySem.W.kia_one (PySem.W.kitx_bexc FX lk so nb) I.kIn ⟨oe, ho, hz.1⟩ e (fun z => nomatch z) fun tk => ⟨.bl b, H, I.tok tk, rfl, q⟩
/-- e.f of an exception held as a value -/
def tExF (K : PySem.W.Frag) (f : Str) (te : TE) : TE := fun σ H Q => te σ H fun x H1 => ∃ (a C d : Addr) (fs : List (Str × V)) (v : V), x = .ref a ∧ H1 a = some (exo a C (some d)) ∧ H1 d = some (exd d fs) ∧ XcA K C ∧ PySem.W.findIn K (.ref C) f = some none ∧ fs.lookup f = some v ∧ Q v H1
theorem pe_exf (he : PE X e te) (hb : attributeBase e f X.env (eval e X.env) = eval e X.env := by rfl) : PE X (.Attribute e f pos) (tExF X.K f te) := by
  refine ⟨fun pins s σ H Q I h => ?_⟩
  refine attr_of hb (thn (he.run pins s σ H _ I h) fun u s1 hh => ?_)
  obtain ⟨x, H1, I1, rx, a, C, d, fs, v, ex, e1, e2, A, hno, hl, q⟩ := hh
  subst ex
  obtain rfl : u = Value.ref a := rx
  obtain ⟨t1, ho⟩ := exo_at I1.hok e1
  obtain ⟨mA, hns, rel⟩ := exd_at I1.hok e2
  obtain ⟨u, hu, ru⟩ := RelO.some_of (v := v) (o := mA f) (by rw [← hl]; exact rel f)
  obtain ⟨od, hod, hlk⟩ := lookIn_ns hns
  have J : PySem.W.InstAt s1.heap a { cls := .ref C, dict := some d, data := .fields #[.ref t1, .none, .none, .none, .bool false, .none] } C (some od) := ⟨ho, rfl, rfl, hod⟩
  exact HandSPX.exc_get I1.kIn J A.hg A.hk A.hs (PySem.W.findObj_own A.hd hno rfl (by rw [hlk, hu])) (handed_of ru) ⟨v, H1, I1.tok _, ru, q⟩
/-- the __init__ that keeps its one argument as the field f -/
def spInit (K : PySem.W.Frag) (f : Str) : Sp := fun vs H Q _ => ∃ (a C : Addr) (v : V), vs = [.ref a, v] ∧ OexC K C ∧ PySem.W.findIn K (.ref C) f = some none ∧ H a = some (exo a C none) ∧
  ∀ dx, H dx = none → dx ≠ a → Q .non (upd (upd H dx (exd dx [(f, v)])) a (exo a C (some dx)))
end
end L2
set_option Elab.async false
set_option linter.all false
set_option maxRecDepth 100000
set_option maxHeartbeats 4000000
namespace L2
open PySem PySem.Spec PyProof.Rows
/-- the class at C has an __init__ that keeps one argument as the field f; how its calls bind -/
structure Ini (P : Program) (w : World) (K : PySem.W.Frag) (mg : Str → Option Value) (base : Heap) (C : Addr) (f : Str) : Prop where
  ex : ∃ (fI : Addr) (fd : FuncData), FnOk P w K mg base CX0 1 fI fd ["self", f] (spInit K f) ∧ PySem.W.findIn K (.ref C) "__init__" = some (some (.ref fI)) ∧ PySem.W.typeIn K (.ref fI) = some (.type "function") ∧
    (∃ g, KBn K fd ["self", f] 2 [] g (fun us _ => us)) ∧ (∃ g, KBn K fd ["self", f] 1 [f] g (fun us zs => us ++ zs)) ∧ (∃ g, KBn K fd ["self", f] 1 [] g (fun us _ => us ++ [.non]))
  no : PySem.W.findIn K (.ref C) f = some none
/-- at a, d: an instance of C that holds f = v -/
def Err (H : Hp) (C : Addr) (f : Str) (v x : V) : Prop := ∃ a d, x = .ref a ∧ H a = some (exo a C (some d)) ∧ H d = some (exd d [(f, v)])
theorem Err.same {H H' : Hp} {C : Addr} {f : Str} {v x : V} (s : Same H H') (h : Err H C f v x) : Err H' C f v x := by
  obtain ⟨a, d, e, h1, h2⟩ := h
  exact ⟨a, d, e, s _ _ h1, s _ _ h2⟩
def newOk (C : Addr) (f : Str) (v : V) (H : Hp) (Q : VK) : Prop := ∀ x H', Same H H' → Err H' C f v x → Q x H'
theorem newOk.init {K : PySem.W.Frag} {C : Addr} {f : Str} {v : V} {H : Hp} {Q : VK} (O : OexC K C) (no : PySem.W.findIn K (.ref C) f = some none) (q : newOk C f v H Q) (a : Addr) (ha : H a = none) :
    spInit K f [.ref a, v] (upd H a (exo a C none)) (fun u H2 => u = .non ∧ Q (.ref a) H2) E0 := by
  refine ⟨a, C, v, rfl, O, no, upd_same, fun d hd ne => ⟨rfl, q _ _ (fun b o e => ?_) ⟨a, d, rfl, upd_same, ?_⟩⟩⟩
  · have hb : b ≠ a := ne_of_none e ha
    have hd' : b ≠ d := fun z => by
      rw [z] at e hb
      rw [upd_ne hb, e] at hd
      cases hd
    rw [upd_ne hb, upd_ne hd', upd_ne hb]
    exact e
  · rw [upd_ne ne, upd_same]
section
variable {X : Cx} {x : Str} {C : Addr} {f : Str} {p pos : Pos} {e : Expr} {te : TE}
def tNewP (C : Addr) (f : Str) (te : TE) : TE := fun σ H Q => te σ H fun v H1 => newOk C f v H1 Q
theorem PE.to {t u : TE} (h : PE X e t) (i : ∀ σ H Q, u σ H Q → t σ H Q) : PE X e u := ⟨fun pins s σ H Q I hw => h.run pins s σ H Q I (i σ H Q hw)⟩
theorem pe_iniP (J : Ini X.prog X.w X.K X.mg X.base C f) (O : OexC X.K C) (hr : Room 2 X.A) (hg : Gl X x) (hm : X.mg x = some (.ref C)) (ha : PE X e te) (mono : ∀ {σ H} {Q Q' : VK}, te σ H Q → (∀ v H1, Q v H1 → Q' v H1) → te σ H Q' := by exact fun h i => by first | exact i _ _ h | exact ⟨_, h.choose_spec.1, i _ _ h.choose_spec.2⟩)
    (hdb : (x == ("__debug__" : Str)) = false := by decide) (he : starEach [e] X.env = (false, eval e X.env) :: starEach [] X.env := by rfl) (hpl : (backTo pos (starEach ([] : List Expr) X.env)).any (·.1) = false := by rfl) :
    PE X (.Call (.Name x p) [e] [] pos) (tNewP C f te) := by
  obtain ⟨fI, fd, F, iC, tI, ⟨g, b⟩, _⟩ := J.ex
  refine (pe_exp O iC tI F hr b pass0 hg hm ha hdb he hpl).to fun σ H Q h => ?_
  exact mono h fun v H1 q => ⟨rfl, rfl, newOk.init O J.no q⟩
theorem pe_ini0 (J : Ini X.prog X.w X.K X.mg X.base C f) (O : OexC X.K C) (hr : Room 2 X.A) (hg : Gl X x) (hm : X.mg x = some (.ref C)) (hdb : (x == ("__debug__" : Str)) = false := by decide) :
    PE X (.Call (.Name x p) [] [] pos) (fun _ H Q => newOk C f .non H Q) := by
  obtain ⟨fI, fd, F, iC, tI, _, _, ⟨g, b⟩⟩ := J.ex
  exact (pe_ex0 O iC tI F hr b pass0 hg hm hdb).to fun σ H Q h => ⟨rfl, rfl, newOk.init O J.no h⟩
theorem pe_iniK {kpos : Pos} (J : Ini X.prog X.w X.K X.mg X.base C f) (O : OexC X.K C) (hr : Room 2 X.A) (hg : Gl X x) (hm : X.mg x = some (.ref C)) (ha : PE X e te) (mono : ∀ {σ H} {Q Q' : VK}, te σ H Q → (∀ v H1, Q v H1 → Q' v H1) → te σ H Q' := by exact fun h i => by first | exact i _ _ h | exact ⟨_, h.choose_spec.1, i _ _ h.choose_spec.2⟩)
    (hall : (backToKw pos (keywordEach [⟨some f, e, kpos⟩] X.env)).all (·.1.isSome) = true := by rfl) (hks : (backToKw pos (keywordEach [⟨some f, e, kpos⟩] X.env)).filterMap (·.1) = [f] := by rfl)
    (hdb : (x == ("__debug__" : Str)) = false := by decide)
    (hpl : ((backTo pos (starEach ([] : List Expr) X.env)).any (·.1) || (backToKw pos (keywordEach [⟨some f, e, kpos⟩] X.env)).any (·.1.isNone)) = false := by rfl) :
    PE X (.Call (.Name x p) [] [⟨some f, e, kpos⟩] pos) (tNewP C f te) := by
  obtain ⟨fI, fd, F, iC, tI, _, ⟨g, b⟩, _⟩ := J.ex
  refine (pe_exkw O iC tI F hr b pass0 hg hm (pk_cons ha pk_nil) hall hks hdb hpl).to fun σ H Q h => ?_
  exact mono h fun v H1 q => ⟨rfl, rfl, newOk.init O J.no q⟩
end
/-- several new errors, one after another, all of them with v -/
def tNews (te : TE) : List (Addr × Str) → TA
  | [] => tNil
  | c :: l => tCons (tNewP c.1 c.2 te) (tNews te l)
inductive Errs (H : Hp) (v : V) : List (Addr × Str) → List V → Prop
  | nil : Errs H v [] []
  | cons {c : Addr × Str} {l : List (Addr × Str)} {x : V} {xs : List V} (h : Err H c.1 c.2 v x) (t : Errs H v l xs) : Errs H v (c :: l) (x :: xs)
theorem Errs.same {H H' : Hp} {v : V} (s : Same H H') : ∀ {l xs}, Errs H v l xs → Errs H' v l xs
  | _, _, .nil => .nil
  | _, _, .cons h t => .cons (h.same s) (t.same s)
theorem Errs.append {H : Hp} {v : V} : ∀ {l l' xs ys}, Errs H v l xs → Errs H v l' ys → Errs H v (l ++ l') (xs ++ ys)
  | _, _, _, _, .nil, b => b
  | _, _, _, _, .cons h t, b => .cons h (t.append b)
theorem Errs.length {H : Hp} {v : V} : ∀ {l xs}, Errs H v l xs → xs.length = l.length
  | _, _, .nil => rfl
  | _, _, .cons h t => congrArg Nat.succ t.length
theorem Errs.get {H : Hp} {v : V} : ∀ {l xs} {i : Nat} {c : Addr × Str}, Errs H v l xs → l[i]? = some c → ∃ x, xs[i]? = some x ∧ Err H c.1 c.2 v x
  | _, _, 0, _, .cons h t, e => ⟨_, rfl, by cases (Option.some.inj e); exact h⟩
  | _, _, i + 1, _, .cons h t, e => t.get (i := i) e
theorem news_run {te : TE} {σ : St} {v : V} (hv : ∀ H (Q : VK), Q v H → te σ H Q) : ∀ (l : List (Addr × Str)) {H : Hp} {Q : List V → Hp → Prop}, (∀ xs H', Same H H' → Errs H' v l xs → Q xs H') → tNews te l σ H Q
  | [], H, Q, h => h [] H (Same.refl H) .nil
  | c :: l, H, Q, h => hv _ _ fun x H1 s1 e1 => news_run hv l fun xs H2 s2 e2 => h (x :: xs) H2 (s1.trans s2) (.cons (e1.same s2) e2)
end L2
set_option Elab.async false
set_option linter.all false
set_option maxRecDepth 100000
set_option maxHeartbeats 4000000
namespace L2
open PySem PySem.Spec PyProof.Rows
theorem ExV.same {K : PySem.W.Frag} {H H' : Hp} {a : Addr} {t : Value} (s : Same H H') : ExV K H a t → ExV K H' a t
  | .dict e e2 A => .dict (s _ _ e) (s _ _ e2) A
  | .own e A => .own (s _ _ e) A
  | .blt e FX lk so nb => .blt (s _ _ e) FX lk so nb
/-- isinstance(x, C) for several classes, x the value of slot 0 -/
def tIss (K : PySem.W.Frag) : List V → TA
  | [] => tNil
  | c :: l => tCons (tCB (rIsX K) (tCons (tVar 0) (tCons (tC c) tNil))) (tIss K l)
theorem iss_run {K : PySem.W.Frag} {σ : St} {a : Addr} {t : Value} {H : Hp} (hσ : σ[0]? = some (some (.ref a))) (hx : ExV K H a t) : ∀ (l : List (Addr × Bool)) {Q : List V → Hp → Prop}, (∀ p ∈ l, PySem.W.kitOne K t (.ref p.1) = some p.2) → Q (l.map fun p => V.bl p.2) H → tIss K (l.map fun p => V.ref p.1) σ H Q
  | [], _, _, q => q
  | p :: l, Q, hk, q => ⟨.ref a, hσ, a, .ref p.1, t, .ref p.1, p.2, rfl, .own _, hx, hk p (List.mem_cons_self ..), iss_run hσ hx l (fun p' hp => hk p' (List.mem_cons_of_mem _ hp)) q⟩
/-- xs + [..]: the end -/
theorem cat_end {H H1 : Hp} {p : Addr} {xs ys : List V} {Q : VK} (h : H1 p = some (.lst xs)) (hx : xs.length ≤ 500) (hy : ys.length ≤ 500) (q : ∀ p2 H2, Same H1 H2 → H2 p2 = some (.lst (xs ++ ys)) → Q (.ref p2) H2) :
    ys.length ≤ sizeLine ∧ ∀ l, H1 l = none → rCat (.ref p) (.ref l) (upd H1 l (.lst ys)) Q := by
  refine ⟨Nat.le_of_lt (small1000 (by omega)), fun l n => ⟨p, l, xs, ys, rfl, rfl, ?_, upd_same, Nat.le_of_lt (small1000 (by omega)), fun p2 n2 => q _ _ ((same_upd n).trans (same_upd n2)) upd_same⟩⟩
  rw [upd_ne (ne_of_none h n)]
  exact h
theorem lst_end {H1 : Hp} {ys : List V} {Q : VK} (hy : ys.length ≤ 500) (q : ∀ p2 H2, Same H1 H2 → H2 p2 = some (.lst ys) → Q (.ref p2) H2) :
    ys.length ≤ sizeLine ∧ ∀ l, H1 l = none → Q (.ref l) (upd H1 l (.lst ys)) :=
  ⟨Nat.le_of_lt (small1000 (by omega)), fun l n => q _ _ (same_upd n) upd_same⟩
/-- at a: a new exception of a class without own __init__ -/
def Bare (H : Hp) (C : Addr) (x : V) : Prop := ∃ a, x = .ref a ∧ H a = some (ExO (.ref C) a)
theorem Bare.same {H H' : Hp} {C : Addr} {x : V} (s : Same H H') (h : Bare H C x) : Bare H' C x := by
  obtain ⟨a, e, h⟩ := h
  exact ⟨a, e, s _ _ h⟩
def tNewB (C : Addr) : TE := fun σ H Q => ∀ a, H a = none → Q (.ref a) (upd H a (ExO (.ref C) a))
def tBares : List Addr → TA
  | [] => tNil
  | c :: l => tCons (tNewB c) (tBares l)
inductive Bares (H : Hp) : List Addr → List V → Prop
  | nil : Bares H [] []
  | cons {c : Addr} {l : List Addr} {x : V} {xs : List V} (h : Bare H c x) (t : Bares H l xs) : Bares H (c :: l) (x :: xs)
theorem Bares.same {H H' : Hp} (s : Same H H') : ∀ {l xs}, Bares H l xs → Bares H' l xs
  | _, _, .nil => .nil
  | _, _, .cons h t => .cons (h.same s) (t.same s)
theorem Bares.append {H : Hp} : ∀ {l l' xs ys}, Bares H l xs → Bares H l' ys → Bares H (l ++ l') (xs ++ ys)
  | _, _, _, _, .nil, b => b
  | _, _, _, _, .cons h t, b => .cons h (t.append b)
theorem Bares.length {H : Hp} : ∀ {l xs}, Bares H l xs → xs.length = l.length
  | _, _, .nil => rfl
  | _, _, .cons h t => congrArg Nat.succ t.length
theorem Bares.get {H : Hp} : ∀ {l xs} {i : Nat} {c : Addr}, Bares H l xs → l[i]? = some c → ∃ x, xs[i]? = some x ∧ Bare H c x
  | _, _, 0, _, .cons h t, e => ⟨_, rfl, by cases (Option.some.inj e); exact h⟩
  | _, _, i + 1, _, .cons h t, e => t.get (i := i) e
theorem bares_run {σ : St} : ∀ (l : List Addr) {H : Hp} {Q : List V → Hp → Prop}, (∀ xs H', Same H H' → Bares H' l xs → Q xs H') → tBares l σ H Q
  | [], H, Q, h => h [] H (Same.refl H) .nil
  | c :: l, H, Q, h => fun a n => bares_run l fun xs H2 s2 e2 => h (.ref a :: xs) H2 ((same_upd n).trans s2) (.cons ⟨a, rfl, s2 _ _ upd_same⟩ e2)
section
variable {i j : Nat} {rest : TS} {D : Ends} {σ : St} {H : Hp} {p : Addr} {zs : List V} {te : TE} {v : V}
theorem iss_lst {K : PySem.W.Frag} {a : Addr} {t : Value} (hσ : σ[0]? = some (some (.ref a))) (hx : ExV K H a t) (l : List (Addr × Bool)) (hk : ∀ p ∈ l, PySem.W.kitOne K t (.ref p.1) = some p.2) (hl : l.length ≤ 500)
    (q : ∀ p2 H2, Same H H2 → H2 p2 = some (.lst (l.map fun p => V.bl p.2)) → rest D (σ.set i (some (.ref p2))) H2) : tSeq (tAsg (tLst (tIss K (l.map fun p => V.ref p.1))) (gName i)) rest D σ H :=
  iss_run hσ hx l hk (lst_end (Q := fun y H2 => rest D (σ.set i (some y)) H2) (by rw [List.length_map]; exact hl) q)
theorem iss_cat {K : PySem.W.Frag} {a : Addr} {t : Value} (hp : σ[j]? = some (some (.ref p))) (hσ : σ[0]? = some (some (.ref a))) (hx : ExV K H a t) (l : List (Addr × Bool)) (hk : ∀ p ∈ l, PySem.W.kitOne K t (.ref p.1) = some p.2) (hl : l.length ≤ 500)
    (h : H p = some (.lst zs)) (hz : zs.length ≤ 500) (q : ∀ p2 H2, Same H H2 → H2 p2 = some (.lst (zs ++ l.map fun p => V.bl p.2)) → rest D (σ.set i (some (.ref p2))) H2) : tSeq (tAsg (tOp rCat (tVar j) (tLst (tIss K (l.map fun p => V.ref p.1)))) (gName i)) rest D σ H :=
  ⟨_, hp, iss_run hσ hx l hk (cat_end (H := H) (Q := fun y H2 => rest D (σ.set i (some y)) H2) h hz (by rw [List.length_map]; exact hl) q)⟩
theorem news_lst (hv : ∀ H (Q : VK), Q v H → te σ H Q) (l : List (Addr × Str)) (hl : l.length ≤ 500)
    (q : ∀ p2 xs H2, Same H H2 → H2 p2 = some (.lst xs) → Errs H2 v l xs → rest D (σ.set i (some (.ref p2))) H2) : tSeq (tAsg (tLst (tNews te l)) (gName i)) rest D σ H :=
  news_run hv l fun xs H1 s1 e1 => lst_end (Q := fun y H2 => rest D (σ.set i (some y)) H2) (by rw [e1.length]; exact hl) fun p2 H2 s2 h2 => q p2 xs H2 (s1.trans s2) h2 (e1.same s2)
theorem news_cat (hp : σ[j]? = some (some (.ref p))) (hv : ∀ H (Q : VK), Q v H → te σ H Q) (l : List (Addr × Str)) (hl : l.length ≤ 500) (h : H p = some (.lst zs)) (hz : zs.length ≤ 500)
    (q : ∀ p2 xs H2, Same H H2 → H2 p2 = some (.lst (zs ++ xs)) → Errs H2 v l xs → rest D (σ.set i (some (.ref p2))) H2) : tSeq (tAsg (tOp rCat (tVar j) (tLst (tNews te l))) (gName i)) rest D σ H :=
  ⟨_, hp, news_run hv l fun xs H1 s1 e1 => cat_end (H := H) (Q := fun y H2 => rest D (σ.set i (some y)) H2) (s1 _ _ h) hz (by rw [e1.length]; exact hl) fun p2 H2 s2 h2 => q p2 xs H2 (s1.trans s2) h2 (e1.same s2)⟩
theorem news_ret (hp : σ[j]? = some (some (.ref p))) (hv : ∀ H (Q : VK), Q v H → te σ H Q) (l : List (Addr × Str)) (hl : l.length ≤ 500) (h : H p = some (.lst zs)) (hz : zs.length ≤ 500)
    (q : ∀ p2 xs H2, Same H H2 → H2 p2 = some (.lst (zs ++ xs)) → Errs H2 v l xs → D.rt (.ref p2) H2) : tRet (tOp rCat (tVar j) (tLst (tNews te l))) D σ H :=
  ⟨_, hp, news_run hv l fun xs H1 s1 e1 => cat_end (H := H) (Q := D.rt) (s1 _ _ h) hz (by rw [e1.length]; exact hl) fun p2 H2 s2 h2 => q p2 xs H2 (s1.trans s2) h2 (e1.same s2)⟩
theorem bares_lst (l : List Addr) (hl : l.length ≤ 500) (q : ∀ p2 xs H2, Same H H2 → H2 p2 = some (.lst xs) → Bares H2 l xs → rest D (σ.set i (some (.ref p2))) H2) : tSeq (tAsg (tLst (tBares l)) (gName i)) rest D σ H :=
  bares_run l fun xs H1 s1 e1 => lst_end (Q := fun y H2 => rest D (σ.set i (some y)) H2) (by rw [e1.length]; exact hl) fun p2 H2 s2 h2 => q p2 xs H2 (s1.trans s2) h2 (e1.same s2)
theorem bares_ret (hp : σ[j]? = some (some (.ref p))) (l : List Addr) (hl : l.length ≤ 500) (h : H p = some (.lst zs)) (hz : zs.length ≤ 500)
    (q : ∀ p2 xs H2, Same H H2 → H2 p2 = some (.lst (zs ++ xs)) → Bares H2 l xs → D.rt (.ref p2) H2) : tRet (tOp rCat (tVar j) (tLst (tBares l))) D σ H :=
  ⟨_, hp, bares_run l fun xs H1 s1 e1 => cat_end (H := H) (Q := D.rt) (s1 _ _ h) hz (by rw [e1.length]; exact hl) fun p2 H2 s2 h2 => q p2 xs H2 (s1.trans s2) h2 (e1.same s2)⟩
end
theorem dp_bools {K : PySem.W.Frag} {H : Hp} : ∀ bs : List Bool, DpAll K H (bs.map V.bl) (bs.map PyData.bool)
  | [] => .nil
  | b :: bs => .cons (.bl b) (dp_bools bs)
theorem dp_all_map {K : PySem.W.Frag} {H : Hp} {v : V} {d : PyData} (h : Dp K H v d) : ∀ n : Nat, DpAll K H (List.replicate n v) (List.replicate n d)
  | 0 => .nil
  | n + 1 => .cons h (dp_all_map h n)
theorem take_more {α : Type} {l : List α} {i : Nat} {x : α} (h : l[i]? = some x) : l.take (i + 1) = l.take i ++ [x] := by
  rw [List.take_add_one, h]
  rfl
end L2
set_option Elab.async false
set_option linter.all false
set_option maxRecDepth 100000
set_option maxHeartbeats 4000000
namespace Lw
open PySem PySem.Spec PyProof.Rows L2
def topS (i : Nat) : Stmt := PySem.Challenge.pw_backthen_k04_errors_and_their_fields.main.body.getD i (.Pass ⟨0, 0, 0, 0⟩)
abbrev s__law_at : Stmt := topS 24
theorem sc__law_at : FnScope ["script", "k"] ["script", "k"] (defScope s__law_at) := ⟨rfl, rfl, rfl, by decide +kernel, rfl, by decide +kernel, by decide +kernel⟩
abbrev s__law_mixed : Stmt := topS 25
theorem sc__law_mixed : FnScope ["cell", "k", "mixed"] ["cell", "k"] (defScope s__law_mixed) := ⟨rfl, rfl, rfl, by decide +kernel, rfl, by decide +kernel, by decide +kernel⟩
abbrev s__law_purse : Stmt := topS 26
theorem sc__law_purse : FnScope ["script", "at", "cell"] ["script", "at"] (defScope s__law_purse) := ⟨rfl, rfl, rfl, by decide +kernel, rfl, by decide +kernel, by decide +kernel⟩
abbrev s__law_draw : Stmt := topS 27
theorem sc__law_draw : FnScope ["purse", "out_of", "drawn"] ["purse", "out_of"] (defScope s__law_draw) := ⟨rfl, rfl, rfl, by decide +kernel, rfl, by decide +kernel, by decide +kernel⟩
abbrev s__law_kinds : Stmt := topS 28
theorem sc__law_kinds : FnScope ["made", "found"] ["made"] (defScope s__law_kinds) := ⟨rfl, rfl, rfl, by decide +kernel, rfl, by decide +kernel, by decide +kernel⟩
abbrev s__law_placed : Stmt := topS 29
theorem sc__law_placed : FnScope ["value", "found"] ["value"] (defScope s__law_placed) := ⟨rfl, rfl, rfl, by decide +kernel, rfl, by decide +kernel, by decide +kernel⟩
abbrev s__law_named : Stmt := topS 30
theorem sc__law_named : FnScope ["value", "found"] ["value"] (defScope s__law_named) := ⟨rfl, rfl, rfl, by decide +kernel, rfl, by decide +kernel, by decide +kernel⟩
abbrev s__law_bare : Stmt := topS 31
theorem sc__law_bare : FnScope ["found"] [] (defScope s__law_bare) := ⟨rfl, rfl, rfl, by decide +kernel, rfl, by decide +kernel, by decide +kernel⟩
abbrev s__law_plain : Stmt := topS 32
theorem sc__law_plain : FnScope ["found"] [] (defScope s__law_plain) := ⟨rfl, rfl, rfl, by decide +kernel, rfl, by decide +kernel, by decide +kernel⟩
abbrev s__law_fields : Stmt := topS 33
theorem sc__law_fields : FnScope ["made", "found"] ["made"] (defScope s__law_fields) := ⟨rfl, rfl, rfl, by decide +kernel, rfl, by decide +kernel, by decide +kernel⟩
abbrev s__law_kinds_right : Stmt := topS 34
theorem sc__law_kinds_right : FnScope ["made", "at", "one", "k"] ["made"] (defScope s__law_kinds_right) := ⟨rfl, rfl, rfl, by decide +kernel, rfl, by decide +kernel, by decide +kernel⟩
abbrev s_law : Stmt := topS 35
theorem sc_law : FnScope ["script", "at", "purse", "some", "value", "made", "base"] ["script"] (defScope s_law) := ⟨rfl, rfl, rfl, by decide +kernel, rfl, by decide +kernel, by decide +kernel⟩
structure Txt (K : PySem.W.Frag) (mg : Str → Option Value) : Prop where
  m_len : mg "len" = none
  m_max : mg "max" = none
  m_min : mg "min" = none
  m_range : mg "range" = none
  m_enumerate : mg "enumerate" = none
  m_isinstance : mg "isinstance" = none
  m_ValueError : mg "ValueError" = none
section
variable {P : Program} {w : World} {K : PySem.W.Frag} {mg : Str → Option Value} {base : Heap}
theorem ok__law_at (T : Txt K mg) (F : Fn K mg "_law_at" s__law_at) : Df P w K mg base "_law_at" 1 ["script", "k"] (spAt K) := by
  refine F.df (fun _ _ _ _ _ _ us hl => match us, hl with | [_, _], _ => rfl) fun f fd F => F.ok sc__law_at (fun vs H Q E h => ?_) (fun cdv A outer s H vs Q E hr h => ?_)
  · obtain ⟨a, ns, k, rfl, _⟩ := h
    rfl
  · obtain ⟨a, ns, k, rfl, hS, q⟩ := h
    refine ⟨_, pss_cons (ps_if (pt_cmpR op_lt (pv 1) (pe_callB call_len_seq (by rfl) T.m_len (by decide +kernel) (pa_cons (pv 0) (pa_nil))) (nomark _)) (pss_one (ps_ret (pe_ix ix_list (pv 0) (pv 1) (fun _ _ => rfl)))) (pss_nil))
    (pss_one (ps_ret (pe_int))), ?_⟩
    refine ⟨.int k, rfl, .ref a, rfl, a, _, rfl, .inl hS, _, _, rfl, rfl, _, rfl, ite2 (fun c => ?_) (fun c => ?_)⟩
    · have hc := of_decide_eq_true c
      have hk : k < ns.length := by
        rw [List.length_map] at hc
        omega
      refine ⟨.ref a, rfl, .int k, rfl, a, _, _, .int ns[k], rfl, rfl, hS, atI_nat (j := k) ?_, q _⟩
      rw [List.getElem?_map, List.getElem?_eq_getElem hk]
      rfl
    · exact q 0
theorem ok__law_mixed (T : Txt K mg) (F : Fn K mg "_law_mixed" s__law_mixed) : Df P w K mg base "_law_mixed" 1 ["cell", "k"] spMixed := by
  refine F.df (fun _ _ _ _ _ _ us hl => match us, hl with | [_, _], _ => rfl) fun f fd F => F.ok sc__law_mixed (fun vs H Q E h => ?_) (fun cdv A outer s H vs Q E hr h => ?_)
  · obtain ⟨c, k, rfl, _⟩ := h
    rfl
  · obtain ⟨c, k, rfl, c0, c1, k0, k1, q⟩ := h
    refine ⟨_, pss_cons (ps_set (i := 2) sc__law_mixed.nd rfl (by first | exact Or.inl rfl | exact Or.inr rfl) (pe_op op_mod (pe_op op_add (pe_op op_add (pe_op op_add (pe_op op_mul (pv 0) (pe_int)) (pe_op op_mul (pe_op op_mul (pe_int) (pv 1)) (pv 1))) (pv 1)) (pe_int)) (pe_int)))
    (pss_cons (ps_set (i := 2) sc__law_mixed.nd rfl (by first | exact Or.inl rfl | exact Or.inr rfl) (pe_op op_mod (pe_op op_add (pe_op op_mul (pv 2) (pv 2)) (pe_int)) (pe_int)))
    (pss_one (ps_ret (pe_op op_mod (pe_op op_mul (pv 2) (pe_int)) (pe_int))))), ?_⟩
    refine ⟨_, rfl, _, _, rfl, rfl, .inr (by decide), _, rfl, _, _, rfl, rfl, .inl (by decide), _, rfl, _, _, rfl, rfl, .inr ⟨by omega, by omega⟩, _, _, rfl, rfl, _, rfl, _, _, rfl, rfl, _, _, rfl, rfl, _, _, rfl, rfl, (show (0 : Int) < 2147483647 by decide), ?_⟩
    generalize hm : (c * 1103515245 + 7919 * k * k + k + 1) % 2147483647 = m
    have m0 : 0 ≤ m := by rw [← hm]; exact Int.emod_nonneg _ (by decide)
    have m1 : m < 2147483647 := by rw [← hm]; exact Int.emod_lt_of_pos _ (by decide)
    refine ⟨_, rfl, _, rfl, _, _, rfl, rfl, .inl ⟨by omega, by omega⟩, _, _, rfl, rfl, _, _, rfl, rfl, (show (0 : Int) < 2147483629 by decide), ?_⟩
    exact ⟨_, rfl, _, _, rfl, rfl, .inr (by decide), _, _, rfl, rfl, (show (0 : Int) < 2147483587 by decide), q _ (Int.emod_nonneg _ (by decide)) (Int.emod_lt_of_pos _ (by decide))⟩
theorem ok__law_purse (T : Txt K mg) (F : Fn K mg "_law_purse" s__law_purse) (FA : Fn K mg "_law_at" s__law_at) : Df P w K mg base "_law_purse" 2 ["script", "at"] (spPurse K) := by
  have G__law_at : Df P w K mg base "_law_at" 1 ["script", "k"] (spAt K) := ok__law_at T FA
  refine F.df (fun _ _ _ _ _ _ us hl => match us, hl with | [_, _], _ => rfl) fun f fd F => F.ok sc__law_purse (fun vs H Q E h => ?_) (fun cdv A outer s H vs Q E hr h => ?_)
  · obtain ⟨a, ns, k, rfl, _⟩ := h
    rfl
  · obtain ⟨a, ns, k, rfl, hS, hk, q⟩ := h
    refine ⟨_, pss_cons (ps_set (i := 2) sc__law_purse.nd rfl (by first | exact Or.inl rfl | exact Or.inr rfl) (pe_df G__law_at (hr.mono (by decide)) (by rfl) (pa_cons (pv 0) (pa_cons (pv 1) (pa_nil)))))
    (pss_one (ps_ret (pe_lst (pa_cons (pe_op op_mod (pe_callB (call_max2 rfl) (by rfl) T.m_max (by decide +kernel) (pa_cons (pe_op op_sub (pv 2) (pe_op op_powB (pe_int) (pe_int))) (pa_cons (pe_int) (pa_nil)))) (pe_op op_powB (pe_op op_powB (pe_int) (pe_int)) (pe_int))) (pa_cons (pe_op op_mod (pv 2) (pe_int)) (pa_cons (pe_op op_mul (pe_int) (pv 1)) (pa_nil))))))), ?_⟩
    refine ⟨.ref a, rfl, .int k, rfl, a, ns, k, rfl, hS, fun c => ?_⟩
    refine ⟨_, rfl, _, _, rfl, rfl, ⟨by decide, by decide +kernel⟩, _, _, rfl, rfl, _, _, rfl, _, _, rfl, rfl, ⟨by decide, by decide +kernel⟩, _, _, rfl, rfl, ⟨by decide, by decide +kernel⟩, _, _, rfl, rfl, (by rw [pow600]; exact pow600_pos), ?_⟩
    refine ⟨_, rfl, _, _, rfl, rfl, (show (0 : Int) < 2147483647 by decide), _, rfl, _, _, rfl, rfl, .inl (by decide), (by show 3 ≤ sizeLine; decide), fun p hp => q p _ _ _ hp ?_⟩
    rw [pow600]
    exact ⟨Int.emod_nonneg _ (Int.ne_of_gt pow600_pos), Int.emod_lt_of_pos _ pow600_pos, Int.emod_nonneg _ (by decide), Int.emod_lt_of_pos _ (by decide), by omega, by omega⟩
theorem ok__law_draw (T : Txt K mg) (F : Fn K mg "_law_draw" s__law_draw) (FM : Fn K mg "_law_mixed" s__law_mixed) : Df P w K mg base "_law_draw" 2 ["purse", "out_of"] spDraw := by
  have G__law_mixed : Df P w K mg base "_law_mixed" 1 ["cell", "k"] spMixed := ok__law_mixed T FM
  refine F.df (fun _ _ _ _ _ _ us hl => match us, hl with | [_, _], _ => rfl) fun f fd F => F.ok sc__law_draw (fun vs H Q E h => ?_) (fun cdv A outer s H vs Q E hr h => ?_)
  · obtain ⟨p, p0, p1, p2, n, m, rfl, _⟩ := h
    rfl
  · obtain ⟨p, p0, p1, p2, n, m, rfl, hp, B, hn, m1, m2, q⟩ := h
    refine ⟨_, pss_cons (ps_if (pt_cmpR op_gt (pe_ix ix_list (pv 0) (pe_int) (fun _ _ => rfl)) (pe_int) (nomark _)) (pss_cons (ps_set (i := 2) sc__law_draw.nd rfl (by first | exact Or.inl rfl | exact Or.inr rfl) (pe_op op_mod (pe_ix ix_list (pv 0) (pe_int) (fun _ _ => rfl)) (pv 1)))
    (pss_cons (ps_asg (pe_op op_fdivW (pe_ix ix_list (pv 0) (pe_int) (fun _ _ => rfl)) (pv 1)) (pg_sub (pv 0) (pe_int) set_list))
    (pss_one (ps_ret (pv 2))))) (pss_nil))
    (pss_cons (ps_asg (pe_op op_add (pe_ix ix_list (pv 0) (pe_int) (fun _ _ => rfl)) (pe_int)) (pg_sub (pv 0) (pe_int) set_list))
    (pss_one (ps_ret (pe_op op_mod (pe_df G__law_mixed (hr.mono (by decide)) (by rfl) (pa_cons (pe_ix ix_list (pv 0) (pe_int) (fun _ _ => rfl)) (pa_cons (pe_ix ix_list (pv 0) (pe_int) (fun _ _ => rfl)) (pa_nil)))) (pv 1))))), ?_⟩
    have e600 : p0.natAbs < 2 ^ 2000 := by
      have := B.b0
      have := B.a0
      have h2 : (10 : Int) ^ 600 < 2 ^ 2000 := by decide +kernel
      omega
    refine ⟨.ref p, rfl, p, _, _, .int p0, rfl, rfl, SqL.of hp, rfl, _, _, rfl, rfl, _, rfl, ite2 (fun c => ?_) (fun c => ?_)⟩
    · have hc := of_decide_eq_true c
      refine ⟨.ref p, rfl, p, _, _, .int p0, rfl, rfl, SqL.of hp, rfl, _, rfl, _, _, rfl, rfl, (by omega), ?_⟩
      refine ⟨.ref p, rfl, p, _, _, .int p0, rfl, rfl, SqL.of hp, rfl, _, rfl, _, _, rfl, rfl, wide_div (b := 63) (by omega) (by omega) (by decide) (by decide), ?_⟩
      refine ⟨.ref p, rfl, p, _, _, 0, rfl, rfl, hp, rfl, ?_⟩
      refine ⟨_, rfl, q _ _ _ _ (Int.emod_nonneg _ (by omega)) (Int.emod_lt_of_pos _ (by omega)) ?_⟩
      have hle : p0 / m ≤ p0 := Int.ediv_le_self _ B.a0
      exact ⟨Int.ediv_nonneg B.a0 (by omega), Int.lt_of_le_of_lt hle B.b0, B.a1, B.b1, B.a2, by have := B.b2; omega⟩
    · refine ⟨.ref p, rfl, p, _, _, .int p2, rfl, rfl, SqL.of hp, rfl, _, _, rfl, rfl, ?_⟩
      refine ⟨.ref p, rfl, p, _, _, 2, rfl, rfl, hp, rfl, ?_⟩
      have hp2 : (upd H p (.lst [.int p0, .int p1, .int (p2 + 1)])) p = some (.lst [.int p0, .int p1, .int (p2 + 1)]) := upd_same
      refine ⟨.ref p, rfl, p, _, _, .int p1, rfl, rfl, SqL.of hp2, rfl, .ref p, rfl, p, _, _, .int (p2 + 1), rfl, rfl, SqL.of hp2, rfl, ?_⟩
      refine ⟨p1, p2 + 1, rfl, B.a1, B.b1, by have := B.a2; omega, by have := B.b2; omega, fun d d0 d1 => ?_⟩
      exact ⟨_, rfl, _, _, rfl, rfl, (by omega), q _ _ _ _ (Int.emod_nonneg _ (by omega)) (Int.emod_lt_of_pos _ (by omega)) ⟨B.a0, B.b0, B.a1, B.b1, by have := B.a2; omega, by have := B.b2; omega⟩⟩
end

end Lw
set_option Elab.async false
set_option linter.all false
set_option maxRecDepth 100000
set_option maxHeartbeats 4000000
namespace Lw
open PySem PySem.Spec PyProof.Rows L2
def clsNames : List Str := ["InvalidTale", "InvalidTimeline", "InvalidTellers", "InvalidReport", "InvalidText", "UnknownMoment", "InvalidName", "Conflict", "OutOfRange", "NoFit", "Mismatch", "InvalidPlace", "InvalidAnswer", "NoRoad", "NoConflict", "TooManyTellers", "NothingToUndo", "TooLarge", "NotForest", "NothingKnown", "NoQuestion", "TaleError"]
def fldNames : List Str := ["problem", "problem", "problem", "problem", "line", "name", "name", "ring", "count", "number", "number", "index", "first"]
/-- the classes of the module and what isinstance says of their instances -/
structure Tc (K : PySem.W.Frag) (mg : Str → Option Value) (C : Nat → Addr) : Prop where
  g : ∀ (i : Nat) (x : Str), clsNames[i]? = some x → mg x = some (.ref (C i))
  o : ∀ i, i < 22 → OexC K (C i)
  a : ∀ i, i < 22 → XcA K (C i)
  x : ∀ i, 13 ≤ i → i < 22 → PySem.W.excIn K (C i) [.type "ValueError", .type "Exception", .type "BaseException", .type "object"] "ValueError.__new__" = true
  k : ∀ i j, i < 22 → j < 22 → PySem.W.kitOne K (.ref (C i)) (.ref (C j)) = some (decide (i = j) || decide (j = 21))
  kv : ∀ i, i < 22 → PySem.W.kitOne K (.ref (C i)) (.type "ValueError") = some true
  ve : PySem.W.kitOne K (.type "ValueError") (.ref (C 21)) = some false

section
variable {P : Program} {w : World} {K : PySem.W.Frag} {mg : Str → Option Value} {base : Heap} {C fI : Addr} {fd : FuncData}
abbrev s_ini0 : Stmt := inClass (topS 2) 0
theorem sc_ini0 : FnScope ["self", "problem"] ["self", "problem"] (defScope s_ini0) := ⟨rfl, rfl, rfl, by decide +kernel, rfl, by decide +kernel, by decide +kernel⟩
theorem ini0 (F : FunD K "__init__" "InvalidTale.__init__" (defArgs s_ini0) (defBody s_ini0) (defScope s_ini0) [.non] [] fI fd) (iC : PySem.W.findIn K (.ref C) "__init__" = some (some (.ref fI))) (tI : PySem.W.typeIn K (.ref fI) = some (.type "function")) (no : PySem.W.findIn K (.ref C) "problem" = some none) : Ini P w K mg base C "problem" := by
  refine ⟨⟨fI, fd, F.ok sc_ini0 (fun vs H Q E h => ?_) (fun cdv A outer s H vs Q E hr h => ?_), iC, tI, ?_, ?_, ?_⟩, no⟩
  · obtain ⟨a, C, v, rfl, _⟩ := h
    rfl
  · obtain ⟨a, C, v, rfl, O, n, e, q⟩ := h
    refine ⟨_, pss_one (ps_ost (pv 0) (pv 1)), ?_⟩
    exact ⟨v, rfl, .ref a, rfl, a, C, rfl, O, n, .inl ⟨e, fun dx h1 h2 => q dx h1 h2⟩⟩
  · obtain ⟨its, b⟩ := F.kbindsD (ps := ["self", "problem"]) 2 [] (fun us _ _ => us) (by simp) (fun r _ _ => r) (fun T kV doc pm an cdv ct us its ws l1 l2 l3 => match us, its, ws, l1, l2, l3 with | [_, _], [_], [], _, _, _ => ⟨_, rfl, rfl⟩)
    exact ⟨_, b⟩
  · obtain ⟨its, b⟩ := F.kbindsD (ps := ["self", "problem"]) 1 ["problem"] (fun us _ ws => us ++ ws) (by simp) (fun r _ z => r.append z) (fun T kV doc pm an cdv ct us its ws l1 l2 l3 => match us, its, ws, l1, l2, l3 with | [_], [_], [_], _, _, _ => ⟨_, rfl, rfl⟩)
    exact ⟨_, b⟩
  · obtain ⟨its, b⟩ := F.kbindsD (ps := ["self", "problem"]) 1 [] (fun us its _ => us ++ its) (by simp) (fun r d _ => r.append d) (fun T kV doc pm an cdv ct us its ws l1 l2 l3 => match us, its, ws, l1, l2, l3 with | [_], [_], [], _, _, _ => ⟨_, rfl, rfl⟩)
    exact ⟨_, b⟩
abbrev s_ini1 : Stmt := inClass (topS 3) 0
theorem sc_ini1 : FnScope ["self", "problem"] ["self", "problem"] (defScope s_ini1) := ⟨rfl, rfl, rfl, by decide +kernel, rfl, by decide +kernel, by decide +kernel⟩
theorem ini1 (F : FunD K "__init__" "InvalidTimeline.__init__" (defArgs s_ini1) (defBody s_ini1) (defScope s_ini1) [.non] [] fI fd) (iC : PySem.W.findIn K (.ref C) "__init__" = some (some (.ref fI))) (tI : PySem.W.typeIn K (.ref fI) = some (.type "function")) (no : PySem.W.findIn K (.ref C) "problem" = some none) : Ini P w K mg base C "problem" := by
  refine ⟨⟨fI, fd, F.ok sc_ini1 (fun vs H Q E h => ?_) (fun cdv A outer s H vs Q E hr h => ?_), iC, tI, ?_, ?_, ?_⟩, no⟩
  · obtain ⟨a, C, v, rfl, _⟩ := h
    rfl
  · obtain ⟨a, C, v, rfl, O, n, e, q⟩ := h
    refine ⟨_, pss_one (ps_ost (pv 0) (pv 1)), ?_⟩
    exact ⟨v, rfl, .ref a, rfl, a, C, rfl, O, n, .inl ⟨e, fun dx h1 h2 => q dx h1 h2⟩⟩
  · obtain ⟨its, b⟩ := F.kbindsD (ps := ["self", "problem"]) 2 [] (fun us _ _ => us) (by simp) (fun r _ _ => r) (fun T kV doc pm an cdv ct us its ws l1 l2 l3 => match us, its, ws, l1, l2, l3 with | [_, _], [_], [], _, _, _ => ⟨_, rfl, rfl⟩)
    exact ⟨_, b⟩
  · obtain ⟨its, b⟩ := F.kbindsD (ps := ["self", "problem"]) 1 ["problem"] (fun us _ ws => us ++ ws) (by simp) (fun r _ z => r.append z) (fun T kV doc pm an cdv ct us its ws l1 l2 l3 => match us, its, ws, l1, l2, l3 with | [_], [_], [_], _, _, _ => ⟨_, rfl, rfl⟩)
    exact ⟨_, b⟩
  · obtain ⟨its, b⟩ := F.kbindsD (ps := ["self", "problem"]) 1 [] (fun us its _ => us ++ its) (by simp) (fun r d _ => r.append d) (fun T kV doc pm an cdv ct us its ws l1 l2 l3 => match us, its, ws, l1, l2, l3 with | [_], [_], [], _, _, _ => ⟨_, rfl, rfl⟩)
    exact ⟨_, b⟩
abbrev s_ini2 : Stmt := inClass (topS 4) 0
theorem sc_ini2 : FnScope ["self", "problem"] ["self", "problem"] (defScope s_ini2) := ⟨rfl, rfl, rfl, by decide +kernel, rfl, by decide +kernel, by decide +kernel⟩
theorem ini2 (F : FunD K "__init__" "InvalidTellers.__init__" (defArgs s_ini2) (defBody s_ini2) (defScope s_ini2) [.non] [] fI fd) (iC : PySem.W.findIn K (.ref C) "__init__" = some (some (.ref fI))) (tI : PySem.W.typeIn K (.ref fI) = some (.type "function")) (no : PySem.W.findIn K (.ref C) "problem" = some none) : Ini P w K mg base C "problem" := by
  refine ⟨⟨fI, fd, F.ok sc_ini2 (fun vs H Q E h => ?_) (fun cdv A outer s H vs Q E hr h => ?_), iC, tI, ?_, ?_, ?_⟩, no⟩
  · obtain ⟨a, C, v, rfl, _⟩ := h
    rfl
  · obtain ⟨a, C, v, rfl, O, n, e, q⟩ := h
    refine ⟨_, pss_one (ps_ost (pv 0) (pv 1)), ?_⟩
    exact ⟨v, rfl, .ref a, rfl, a, C, rfl, O, n, .inl ⟨e, fun dx h1 h2 => q dx h1 h2⟩⟩
  · obtain ⟨its, b⟩ := F.kbindsD (ps := ["self", "problem"]) 2 [] (fun us _ _ => us) (by simp) (fun r _ _ => r) (fun T kV doc pm an cdv ct us its ws l1 l2 l3 => match us, its, ws, l1, l2, l3 with | [_, _], [_], [], _, _, _ => ⟨_, rfl, rfl⟩)
    exact ⟨_, b⟩
  · obtain ⟨its, b⟩ := F.kbindsD (ps := ["self", "problem"]) 1 ["problem"] (fun us _ ws => us ++ ws) (by simp) (fun r _ z => r.append z) (fun T kV doc pm an cdv ct us its ws l1 l2 l3 => match us, its, ws, l1, l2, l3 with | [_], [_], [_], _, _, _ => ⟨_, rfl, rfl⟩)
    exact ⟨_, b⟩
  · obtain ⟨its, b⟩ := F.kbindsD (ps := ["self", "problem"]) 1 [] (fun us its _ => us ++ its) (by simp) (fun r d _ => r.append d) (fun T kV doc pm an cdv ct us its ws l1 l2 l3 => match us, its, ws, l1, l2, l3 with | [_], [_], [], _, _, _ => ⟨_, rfl, rfl⟩)
    exact ⟨_, b⟩
abbrev s_ini3 : Stmt := inClass (topS 5) 0
theorem sc_ini3 : FnScope ["self", "problem"] ["self", "problem"] (defScope s_ini3) := ⟨rfl, rfl, rfl, by decide +kernel, rfl, by decide +kernel, by decide +kernel⟩
theorem ini3 (F : FunD K "__init__" "InvalidReport.__init__" (defArgs s_ini3) (defBody s_ini3) (defScope s_ini3) [.non] [] fI fd) (iC : PySem.W.findIn K (.ref C) "__init__" = some (some (.ref fI))) (tI : PySem.W.typeIn K (.ref fI) = some (.type "function")) (no : PySem.W.findIn K (.ref C) "problem" = some none) : Ini P w K mg base C "problem" := by
  refine ⟨⟨fI, fd, F.ok sc_ini3 (fun vs H Q E h => ?_) (fun cdv A outer s H vs Q E hr h => ?_), iC, tI, ?_, ?_, ?_⟩, no⟩
  · obtain ⟨a, C, v, rfl, _⟩ := h
    rfl
  · obtain ⟨a, C, v, rfl, O, n, e, q⟩ := h
    refine ⟨_, pss_one (ps_ost (pv 0) (pv 1)), ?_⟩
    exact ⟨v, rfl, .ref a, rfl, a, C, rfl, O, n, .inl ⟨e, fun dx h1 h2 => q dx h1 h2⟩⟩
  · obtain ⟨its, b⟩ := F.kbindsD (ps := ["self", "problem"]) 2 [] (fun us _ _ => us) (by simp) (fun r _ _ => r) (fun T kV doc pm an cdv ct us its ws l1 l2 l3 => match us, its, ws, l1, l2, l3 with | [_, _], [_], [], _, _, _ => ⟨_, rfl, rfl⟩)
    exact ⟨_, b⟩
  · obtain ⟨its, b⟩ := F.kbindsD (ps := ["self", "problem"]) 1 ["problem"] (fun us _ ws => us ++ ws) (by simp) (fun r _ z => r.append z) (fun T kV doc pm an cdv ct us its ws l1 l2 l3 => match us, its, ws, l1, l2, l3 with | [_], [_], [_], _, _, _ => ⟨_, rfl, rfl⟩)
    exact ⟨_, b⟩
  · obtain ⟨its, b⟩ := F.kbindsD (ps := ["self", "problem"]) 1 [] (fun us its _ => us ++ its) (by simp) (fun r d _ => r.append d) (fun T kV doc pm an cdv ct us its ws l1 l2 l3 => match us, its, ws, l1, l2, l3 with | [_], [_], [], _, _, _ => ⟨_, rfl, rfl⟩)
    exact ⟨_, b⟩
abbrev s_ini4 : Stmt := inClass (topS 6) 0
theorem sc_ini4 : FnScope ["self", "line"] ["self", "line"] (defScope s_ini4) := ⟨rfl, rfl, rfl, by decide +kernel, rfl, by decide +kernel, by decide +kernel⟩
theorem ini4 (F : FunD K "__init__" "InvalidText.__init__" (defArgs s_ini4) (defBody s_ini4) (defScope s_ini4) [.non] [] fI fd) (iC : PySem.W.findIn K (.ref C) "__init__" = some (some (.ref fI))) (tI : PySem.W.typeIn K (.ref fI) = some (.type "function")) (no : PySem.W.findIn K (.ref C) "line" = some none) : Ini P w K mg base C "line" := by
  refine ⟨⟨fI, fd, F.ok sc_ini4 (fun vs H Q E h => ?_) (fun cdv A outer s H vs Q E hr h => ?_), iC, tI, ?_, ?_, ?_⟩, no⟩
  · obtain ⟨a, C, v, rfl, _⟩ := h
    rfl
  · obtain ⟨a, C, v, rfl, O, n, e, q⟩ := h
    refine ⟨_, pss_one (ps_ost (pv 0) (pv 1)), ?_⟩
    exact ⟨v, rfl, .ref a, rfl, a, C, rfl, O, n, .inl ⟨e, fun dx h1 h2 => q dx h1 h2⟩⟩
  · obtain ⟨its, b⟩ := F.kbindsD (ps := ["self", "line"]) 2 [] (fun us _ _ => us) (by simp) (fun r _ _ => r) (fun T kV doc pm an cdv ct us its ws l1 l2 l3 => match us, its, ws, l1, l2, l3 with | [_, _], [_], [], _, _, _ => ⟨_, rfl, rfl⟩)
    exact ⟨_, b⟩
  · obtain ⟨its, b⟩ := F.kbindsD (ps := ["self", "line"]) 1 ["line"] (fun us _ ws => us ++ ws) (by simp) (fun r _ z => r.append z) (fun T kV doc pm an cdv ct us its ws l1 l2 l3 => match us, its, ws, l1, l2, l3 with | [_], [_], [_], _, _, _ => ⟨_, rfl, rfl⟩)
    exact ⟨_, b⟩
  · obtain ⟨its, b⟩ := F.kbindsD (ps := ["self", "line"]) 1 [] (fun us its _ => us ++ its) (by simp) (fun r d _ => r.append d) (fun T kV doc pm an cdv ct us its ws l1 l2 l3 => match us, its, ws, l1, l2, l3 with | [_], [_], [], _, _, _ => ⟨_, rfl, rfl⟩)
    exact ⟨_, b⟩
abbrev s_ini5 : Stmt := inClass (topS 7) 0
theorem sc_ini5 : FnScope ["self", "name"] ["self", "name"] (defScope s_ini5) := ⟨rfl, rfl, rfl, by decide +kernel, rfl, by decide +kernel, by decide +kernel⟩
theorem ini5 (F : FunD K "__init__" "UnknownMoment.__init__" (defArgs s_ini5) (defBody s_ini5) (defScope s_ini5) [.non] [] fI fd) (iC : PySem.W.findIn K (.ref C) "__init__" = some (some (.ref fI))) (tI : PySem.W.typeIn K (.ref fI) = some (.type "function")) (no : PySem.W.findIn K (.ref C) "name" = some none) : Ini P w K mg base C "name" := by
  refine ⟨⟨fI, fd, F.ok sc_ini5 (fun vs H Q E h => ?_) (fun cdv A outer s H vs Q E hr h => ?_), iC, tI, ?_, ?_, ?_⟩, no⟩
  · obtain ⟨a, C, v, rfl, _⟩ := h
    rfl
  · obtain ⟨a, C, v, rfl, O, n, e, q⟩ := h
    refine ⟨_, pss_one (ps_ost (pv 0) (pv 1)), ?_⟩
    exact ⟨v, rfl, .ref a, rfl, a, C, rfl, O, n, .inl ⟨e, fun dx h1 h2 => q dx h1 h2⟩⟩
  · obtain ⟨its, b⟩ := F.kbindsD (ps := ["self", "name"]) 2 [] (fun us _ _ => us) (by simp) (fun r _ _ => r) (fun T kV doc pm an cdv ct us its ws l1 l2 l3 => match us, its, ws, l1, l2, l3 with | [_, _], [_], [], _, _, _ => ⟨_, rfl, rfl⟩)
    exact ⟨_, b⟩
  · obtain ⟨its, b⟩ := F.kbindsD (ps := ["self", "name"]) 1 ["name"] (fun us _ ws => us ++ ws) (by simp) (fun r _ z => r.append z) (fun T kV doc pm an cdv ct us its ws l1 l2 l3 => match us, its, ws, l1, l2, l3 with | [_], [_], [_], _, _, _ => ⟨_, rfl, rfl⟩)
    exact ⟨_, b⟩
  · obtain ⟨its, b⟩ := F.kbindsD (ps := ["self", "name"]) 1 [] (fun us its _ => us ++ its) (by simp) (fun r d _ => r.append d) (fun T kV doc pm an cdv ct us its ws l1 l2 l3 => match us, its, ws, l1, l2, l3 with | [_], [_], [], _, _, _ => ⟨_, rfl, rfl⟩)
    exact ⟨_, b⟩
abbrev s_ini6 : Stmt := inClass (topS 8) 0
theorem sc_ini6 : FnScope ["self", "name"] ["self", "name"] (defScope s_ini6) := ⟨rfl, rfl, rfl, by decide +kernel, rfl, by decide +kernel, by decide +kernel⟩
theorem ini6 (F : FunD K "__init__" "InvalidName.__init__" (defArgs s_ini6) (defBody s_ini6) (defScope s_ini6) [.non] [] fI fd) (iC : PySem.W.findIn K (.ref C) "__init__" = some (some (.ref fI))) (tI : PySem.W.typeIn K (.ref fI) = some (.type "function")) (no : PySem.W.findIn K (.ref C) "name" = some none) : Ini P w K mg base C "name" := by
  refine ⟨⟨fI, fd, F.ok sc_ini6 (fun vs H Q E h => ?_) (fun cdv A outer s H vs Q E hr h => ?_), iC, tI, ?_, ?_, ?_⟩, no⟩
  · obtain ⟨a, C, v, rfl, _⟩ := h
    rfl
  · obtain ⟨a, C, v, rfl, O, n, e, q⟩ := h
    refine ⟨_, pss_one (ps_ost (pv 0) (pv 1)), ?_⟩
    exact ⟨v, rfl, .ref a, rfl, a, C, rfl, O, n, .inl ⟨e, fun dx h1 h2 => q dx h1 h2⟩⟩
  · obtain ⟨its, b⟩ := F.kbindsD (ps := ["self", "name"]) 2 [] (fun us _ _ => us) (by simp) (fun r _ _ => r) (fun T kV doc pm an cdv ct us its ws l1 l2 l3 => match us, its, ws, l1, l2, l3 with | [_, _], [_], [], _, _, _ => ⟨_, rfl, rfl⟩)
    exact ⟨_, b⟩
  · obtain ⟨its, b⟩ := F.kbindsD (ps := ["self", "name"]) 1 ["name"] (fun us _ ws => us ++ ws) (by simp) (fun r _ z => r.append z) (fun T kV doc pm an cdv ct us its ws l1 l2 l3 => match us, its, ws, l1, l2, l3 with | [_], [_], [_], _, _, _ => ⟨_, rfl, rfl⟩)
    exact ⟨_, b⟩
  · obtain ⟨its, b⟩ := F.kbindsD (ps := ["self", "name"]) 1 [] (fun us its _ => us ++ its) (by simp) (fun r d _ => r.append d) (fun T kV doc pm an cdv ct us its ws l1 l2 l3 => match us, its, ws, l1, l2, l3 with | [_], [_], [], _, _, _ => ⟨_, rfl, rfl⟩)
    exact ⟨_, b⟩
abbrev s_ini7 : Stmt := inClass (topS 9) 0
theorem sc_ini7 : FnScope ["self", "ring"] ["self", "ring"] (defScope s_ini7) := ⟨rfl, rfl, rfl, by decide +kernel, rfl, by decide +kernel, by decide +kernel⟩
theorem ini7 (F : FunD K "__init__" "Conflict.__init__" (defArgs s_ini7) (defBody s_ini7) (defScope s_ini7) [.non] [] fI fd) (iC : PySem.W.findIn K (.ref C) "__init__" = some (some (.ref fI))) (tI : PySem.W.typeIn K (.ref fI) = some (.type "function")) (no : PySem.W.findIn K (.ref C) "ring" = some none) : Ini P w K mg base C "ring" := by
  refine ⟨⟨fI, fd, F.ok sc_ini7 (fun vs H Q E h => ?_) (fun cdv A outer s H vs Q E hr h => ?_), iC, tI, ?_, ?_, ?_⟩, no⟩
  · obtain ⟨a, C, v, rfl, _⟩ := h
    rfl
  · obtain ⟨a, C, v, rfl, O, n, e, q⟩ := h
    refine ⟨_, pss_one (ps_ost (pv 0) (pv 1)), ?_⟩
    exact ⟨v, rfl, .ref a, rfl, a, C, rfl, O, n, .inl ⟨e, fun dx h1 h2 => q dx h1 h2⟩⟩
  · obtain ⟨its, b⟩ := F.kbindsD (ps := ["self", "ring"]) 2 [] (fun us _ _ => us) (by simp) (fun r _ _ => r) (fun T kV doc pm an cdv ct us its ws l1 l2 l3 => match us, its, ws, l1, l2, l3 with | [_, _], [_], [], _, _, _ => ⟨_, rfl, rfl⟩)
    exact ⟨_, b⟩
  · obtain ⟨its, b⟩ := F.kbindsD (ps := ["self", "ring"]) 1 ["ring"] (fun us _ ws => us ++ ws) (by simp) (fun r _ z => r.append z) (fun T kV doc pm an cdv ct us its ws l1 l2 l3 => match us, its, ws, l1, l2, l3 with | [_], [_], [_], _, _, _ => ⟨_, rfl, rfl⟩)
    exact ⟨_, b⟩
  · obtain ⟨its, b⟩ := F.kbindsD (ps := ["self", "ring"]) 1 [] (fun us its _ => us ++ its) (by simp) (fun r d _ => r.append d) (fun T kV doc pm an cdv ct us its ws l1 l2 l3 => match us, its, ws, l1, l2, l3 with | [_], [_], [], _, _, _ => ⟨_, rfl, rfl⟩)
    exact ⟨_, b⟩
abbrev s_ini8 : Stmt := inClass (topS 10) 0
theorem sc_ini8 : FnScope ["self", "count"] ["self", "count"] (defScope s_ini8) := ⟨rfl, rfl, rfl, by decide +kernel, rfl, by decide +kernel, by decide +kernel⟩
theorem ini8 (F : FunD K "__init__" "OutOfRange.__init__" (defArgs s_ini8) (defBody s_ini8) (defScope s_ini8) [.non] [] fI fd) (iC : PySem.W.findIn K (.ref C) "__init__" = some (some (.ref fI))) (tI : PySem.W.typeIn K (.ref fI) = some (.type "function")) (no : PySem.W.findIn K (.ref C) "count" = some none) : Ini P w K mg base C "count" := by
  refine ⟨⟨fI, fd, F.ok sc_ini8 (fun vs H Q E h => ?_) (fun cdv A outer s H vs Q E hr h => ?_), iC, tI, ?_, ?_, ?_⟩, no⟩
  · obtain ⟨a, C, v, rfl, _⟩ := h
    rfl
  · obtain ⟨a, C, v, rfl, O, n, e, q⟩ := h
    refine ⟨_, pss_one (ps_ost (pv 0) (pv 1)), ?_⟩
    exact ⟨v, rfl, .ref a, rfl, a, C, rfl, O, n, .inl ⟨e, fun dx h1 h2 => q dx h1 h2⟩⟩
  · obtain ⟨its, b⟩ := F.kbindsD (ps := ["self", "count"]) 2 [] (fun us _ _ => us) (by simp) (fun r _ _ => r) (fun T kV doc pm an cdv ct us its ws l1 l2 l3 => match us, its, ws, l1, l2, l3 with | [_, _], [_], [], _, _, _ => ⟨_, rfl, rfl⟩)
    exact ⟨_, b⟩
  · obtain ⟨its, b⟩ := F.kbindsD (ps := ["self", "count"]) 1 ["count"] (fun us _ ws => us ++ ws) (by simp) (fun r _ z => r.append z) (fun T kV doc pm an cdv ct us its ws l1 l2 l3 => match us, its, ws, l1, l2, l3 with | [_], [_], [_], _, _, _ => ⟨_, rfl, rfl⟩)
    exact ⟨_, b⟩
  · obtain ⟨its, b⟩ := F.kbindsD (ps := ["self", "count"]) 1 [] (fun us its _ => us ++ its) (by simp) (fun r d _ => r.append d) (fun T kV doc pm an cdv ct us its ws l1 l2 l3 => match us, its, ws, l1, l2, l3 with | [_], [_], [], _, _, _ => ⟨_, rfl, rfl⟩)
    exact ⟨_, b⟩
abbrev s_ini9 : Stmt := inClass (topS 11) 0
theorem sc_ini9 : FnScope ["self", "number"] ["self", "number"] (defScope s_ini9) := ⟨rfl, rfl, rfl, by decide +kernel, rfl, by decide +kernel, by decide +kernel⟩
theorem ini9 (F : FunD K "__init__" "NoFit.__init__" (defArgs s_ini9) (defBody s_ini9) (defScope s_ini9) [.non] [] fI fd) (iC : PySem.W.findIn K (.ref C) "__init__" = some (some (.ref fI))) (tI : PySem.W.typeIn K (.ref fI) = some (.type "function")) (no : PySem.W.findIn K (.ref C) "number" = some none) : Ini P w K mg base C "number" := by
  refine ⟨⟨fI, fd, F.ok sc_ini9 (fun vs H Q E h => ?_) (fun cdv A outer s H vs Q E hr h => ?_), iC, tI, ?_, ?_, ?_⟩, no⟩
  · obtain ⟨a, C, v, rfl, _⟩ := h
    rfl
  · obtain ⟨a, C, v, rfl, O, n, e, q⟩ := h
    refine ⟨_, pss_one (ps_ost (pv 0) (pv 1)), ?_⟩
    exact ⟨v, rfl, .ref a, rfl, a, C, rfl, O, n, .inl ⟨e, fun dx h1 h2 => q dx h1 h2⟩⟩
  · obtain ⟨its, b⟩ := F.kbindsD (ps := ["self", "number"]) 2 [] (fun us _ _ => us) (by simp) (fun r _ _ => r) (fun T kV doc pm an cdv ct us its ws l1 l2 l3 => match us, its, ws, l1, l2, l3 with | [_, _], [_], [], _, _, _ => ⟨_, rfl, rfl⟩)
    exact ⟨_, b⟩
  · obtain ⟨its, b⟩ := F.kbindsD (ps := ["self", "number"]) 1 ["number"] (fun us _ ws => us ++ ws) (by simp) (fun r _ z => r.append z) (fun T kV doc pm an cdv ct us its ws l1 l2 l3 => match us, its, ws, l1, l2, l3 with | [_], [_], [_], _, _, _ => ⟨_, rfl, rfl⟩)
    exact ⟨_, b⟩
  · obtain ⟨its, b⟩ := F.kbindsD (ps := ["self", "number"]) 1 [] (fun us its _ => us ++ its) (by simp) (fun r d _ => r.append d) (fun T kV doc pm an cdv ct us its ws l1 l2 l3 => match us, its, ws, l1, l2, l3 with | [_], [_], [], _, _, _ => ⟨_, rfl, rfl⟩)
    exact ⟨_, b⟩
abbrev s_ini10 : Stmt := inClass (topS 12) 0
theorem sc_ini10 : FnScope ["self", "number"] ["self", "number"] (defScope s_ini10) := ⟨rfl, rfl, rfl, by decide +kernel, rfl, by decide +kernel, by decide +kernel⟩
theorem ini10 (F : FunD K "__init__" "Mismatch.__init__" (defArgs s_ini10) (defBody s_ini10) (defScope s_ini10) [.non] [] fI fd) (iC : PySem.W.findIn K (.ref C) "__init__" = some (some (.ref fI))) (tI : PySem.W.typeIn K (.ref fI) = some (.type "function")) (no : PySem.W.findIn K (.ref C) "number" = some none) : Ini P w K mg base C "number" := by
  refine ⟨⟨fI, fd, F.ok sc_ini10 (fun vs H Q E h => ?_) (fun cdv A outer s H vs Q E hr h => ?_), iC, tI, ?_, ?_, ?_⟩, no⟩
  · obtain ⟨a, C, v, rfl, _⟩ := h
    rfl
  · obtain ⟨a, C, v, rfl, O, n, e, q⟩ := h
    refine ⟨_, pss_one (ps_ost (pv 0) (pv 1)), ?_⟩
    exact ⟨v, rfl, .ref a, rfl, a, C, rfl, O, n, .inl ⟨e, fun dx h1 h2 => q dx h1 h2⟩⟩
  · obtain ⟨its, b⟩ := F.kbindsD (ps := ["self", "number"]) 2 [] (fun us _ _ => us) (by simp) (fun r _ _ => r) (fun T kV doc pm an cdv ct us its ws l1 l2 l3 => match us, its, ws, l1, l2, l3 with | [_, _], [_], [], _, _, _ => ⟨_, rfl, rfl⟩)
    exact ⟨_, b⟩
  · obtain ⟨its, b⟩ := F.kbindsD (ps := ["self", "number"]) 1 ["number"] (fun us _ ws => us ++ ws) (by simp) (fun r _ z => r.append z) (fun T kV doc pm an cdv ct us its ws l1 l2 l3 => match us, its, ws, l1, l2, l3 with | [_], [_], [_], _, _, _ => ⟨_, rfl, rfl⟩)
    exact ⟨_, b⟩
  · obtain ⟨its, b⟩ := F.kbindsD (ps := ["self", "number"]) 1 [] (fun us its _ => us ++ its) (by simp) (fun r d _ => r.append d) (fun T kV doc pm an cdv ct us its ws l1 l2 l3 => match us, its, ws, l1, l2, l3 with | [_], [_], [], _, _, _ => ⟨_, rfl, rfl⟩)
    exact ⟨_, b⟩
abbrev s_ini11 : Stmt := inClass (topS 13) 0
theorem sc_ini11 : FnScope ["self", "index"] ["self", "index"] (defScope s_ini11) := ⟨rfl, rfl, rfl, by decide +kernel, rfl, by decide +kernel, by decide +kernel⟩
theorem ini11 (F : FunD K "__init__" "InvalidPlace.__init__" (defArgs s_ini11) (defBody s_ini11) (defScope s_ini11) [.non] [] fI fd) (iC : PySem.W.findIn K (.ref C) "__init__" = some (some (.ref fI))) (tI : PySem.W.typeIn K (.ref fI) = some (.type "function")) (no : PySem.W.findIn K (.ref C) "index" = some none) : Ini P w K mg base C "index" := by
  refine ⟨⟨fI, fd, F.ok sc_ini11 (fun vs H Q E h => ?_) (fun cdv A outer s H vs Q E hr h => ?_), iC, tI, ?_, ?_, ?_⟩, no⟩
  · obtain ⟨a, C, v, rfl, _⟩ := h
    rfl
  · obtain ⟨a, C, v, rfl, O, n, e, q⟩ := h
    refine ⟨_, pss_one (ps_ost (pv 0) (pv 1)), ?_⟩
    exact ⟨v, rfl, .ref a, rfl, a, C, rfl, O, n, .inl ⟨e, fun dx h1 h2 => q dx h1 h2⟩⟩
  · obtain ⟨its, b⟩ := F.kbindsD (ps := ["self", "index"]) 2 [] (fun us _ _ => us) (by simp) (fun r _ _ => r) (fun T kV doc pm an cdv ct us its ws l1 l2 l3 => match us, its, ws, l1, l2, l3 with | [_, _], [_], [], _, _, _ => ⟨_, rfl, rfl⟩)
    exact ⟨_, b⟩
  · obtain ⟨its, b⟩ := F.kbindsD (ps := ["self", "index"]) 1 ["index"] (fun us _ ws => us ++ ws) (by simp) (fun r _ z => r.append z) (fun T kV doc pm an cdv ct us its ws l1 l2 l3 => match us, its, ws, l1, l2, l3 with | [_], [_], [_], _, _, _ => ⟨_, rfl, rfl⟩)
    exact ⟨_, b⟩
  · obtain ⟨its, b⟩ := F.kbindsD (ps := ["self", "index"]) 1 [] (fun us its _ => us ++ its) (by simp) (fun r d _ => r.append d) (fun T kV doc pm an cdv ct us its ws l1 l2 l3 => match us, its, ws, l1, l2, l3 with | [_], [_], [], _, _, _ => ⟨_, rfl, rfl⟩)
    exact ⟨_, b⟩
abbrev s_ini12 : Stmt := inClass (topS 14) 0
theorem sc_ini12 : FnScope ["self", "first"] ["self", "first"] (defScope s_ini12) := ⟨rfl, rfl, rfl, by decide +kernel, rfl, by decide +kernel, by decide +kernel⟩
theorem ini12 (F : FunD K "__init__" "InvalidAnswer.__init__" (defArgs s_ini12) (defBody s_ini12) (defScope s_ini12) [.non] [] fI fd) (iC : PySem.W.findIn K (.ref C) "__init__" = some (some (.ref fI))) (tI : PySem.W.typeIn K (.ref fI) = some (.type "function")) (no : PySem.W.findIn K (.ref C) "first" = some none) : Ini P w K mg base C "first" := by
  refine ⟨⟨fI, fd, F.ok sc_ini12 (fun vs H Q E h => ?_) (fun cdv A outer s H vs Q E hr h => ?_), iC, tI, ?_, ?_, ?_⟩, no⟩
  · obtain ⟨a, C, v, rfl, _⟩ := h
    rfl
  · obtain ⟨a, C, v, rfl, O, n, e, q⟩ := h
    refine ⟨_, pss_one (ps_ost (pv 0) (pv 1)), ?_⟩
    exact ⟨v, rfl, .ref a, rfl, a, C, rfl, O, n, .inl ⟨e, fun dx h1 h2 => q dx h1 h2⟩⟩
  · obtain ⟨its, b⟩ := F.kbindsD (ps := ["self", "first"]) 2 [] (fun us _ _ => us) (by simp) (fun r _ _ => r) (fun T kV doc pm an cdv ct us its ws l1 l2 l3 => match us, its, ws, l1, l2, l3 with | [_, _], [_], [], _, _, _ => ⟨_, rfl, rfl⟩)
    exact ⟨_, b⟩
  · obtain ⟨its, b⟩ := F.kbindsD (ps := ["self", "first"]) 1 ["first"] (fun us _ ws => us ++ ws) (by simp) (fun r _ z => r.append z) (fun T kV doc pm an cdv ct us its ws l1 l2 l3 => match us, its, ws, l1, l2, l3 with | [_], [_], [_], _, _, _ => ⟨_, rfl, rfl⟩)
    exact ⟨_, b⟩
  · obtain ⟨its, b⟩ := F.kbindsD (ps := ["self", "first"]) 1 [] (fun us its _ => us ++ its) (by simp) (fun r d _ => r.append d) (fun T kV doc pm an cdv ct us its ws l1 l2 l3 => match us, its, ws, l1, l2, l3 with | [_], [_], [], _, _, _ => ⟨_, rfl, rfl⟩)
    exact ⟨_, b⟩
end
end Lw
set_option Elab.async false
set_option linter.all false
set_option maxRecDepth 100000
set_option maxHeartbeats 4000000
namespace Lw
open PySem PySem.Spec PyProof.Rows L2
/-- the classes' answers for one of their instances -/
def kl (b : Nat → Bool) : List V := (List.range 22).map fun j => V.bl (b j)
def spKinds (K : PySem.W.Frag) (C : Nat → Addr) : Sp := fun vs H Q _ => ∃ (a : Addr) (t : Value) (b : Nat → Bool), vs = [.ref a] ∧ ExV K H a t ∧ (∀ j, j < 22 → PySem.W.kitOne K t (.ref (C j)) = some (b j)) ∧ PySem.W.kitOne K t (.type "ValueError") = some true ∧
  ∀ p H', Same H H' → H' p = some (.lst (kl b)) → Q (.ref p) H'
def flds (C : Nat → Addr) : List (Addr × Str) := (List.range 13).map fun i => (C i, fldNames.getD i "")
def spMade (C : Nat → Addr) : Sp := fun vs H Q _ => ∃ v, vs = [v] ∧ ∀ p xs H', Same H H' → H' p = some (.lst xs) → Errs H' v (flds C) xs → Q (.ref p) H'
def spPlain (C : Nat → Addr) : Sp := fun vs H Q _ => vs = [] ∧ ∀ p xs H', Same H H' → H' p = some (.lst xs) → Bares H' ((List.range 8).map fun i => C (13 + i)) xs → Q (.ref p) H'
section
variable {P : Program} {w : World} {K : PySem.W.Frag} {mg : Str → Option Value} {base : Heap} {C : Nat → Addr}
theorem ok__law_kinds (T0 : Txt K mg) (T : Tc K mg C) (F : Fn K mg "_law_kinds" s__law_kinds) : Df P w K mg base "_law_kinds" 1 ["made"] (spKinds K C) := by
  have T_ := T0
  refine F.df (fun _ _ _ _ _ _ us hl => match us, hl with | [_], _ => rfl) fun f fd F => F.ok sc__law_kinds (fun vs H Q E h => ?_) (fun cdv A outer s H vs Q E hr h => ?_)
  · obtain ⟨a, t, b, rfl, _⟩ := h
    rfl
  · obtain ⟨a, t, b, rfl, hx, hb, hv, q⟩ := h
    refine ⟨_, pss_cons (ps_set (i := 1) sc__law_kinds.nd rfl (by first | exact Or.inl rfl | exact Or.inr rfl) (pe_lst (pa_cons (pe_callB call_isX (by rfl) T0.m_isinstance (by decide +kernel) (pa_cons (pv 0) (pa_cons (pe_glob (v := .ref (C 0)) (by rfl) (T.g 0 _ rfl) rfl) pa_nil))) (pa_cons (pe_callB call_isX (by rfl) T0.m_isinstance (by decide +kernel) (pa_cons (pv 0) (pa_cons (pe_glob (v := .ref (C 1)) (by rfl) (T.g 1 _ rfl) rfl) pa_nil))) (pa_cons (pe_callB call_isX (by rfl) T0.m_isinstance (by decide +kernel) (pa_cons (pv 0) (pa_cons (pe_glob (v := .ref (C 2)) (by rfl) (T.g 2 _ rfl) rfl) pa_nil))) (pa_nil))))))
    (pss_cons (ps_set (i := 1) sc__law_kinds.nd rfl (by first | exact Or.inl rfl | exact Or.inr rfl) (pe_op op_cat (pv 1) (pe_lst (pa_cons (pe_callB call_isX (by rfl) T0.m_isinstance (by decide +kernel) (pa_cons (pv 0) (pa_cons (pe_glob (v := .ref (C 3)) (by rfl) (T.g 3 _ rfl) rfl) pa_nil))) (pa_cons (pe_callB call_isX (by rfl) T0.m_isinstance (by decide +kernel) (pa_cons (pv 0) (pa_cons (pe_glob (v := .ref (C 4)) (by rfl) (T.g 4 _ rfl) rfl) pa_nil))) (pa_cons (pe_callB call_isX (by rfl) T0.m_isinstance (by decide +kernel) (pa_cons (pv 0) (pa_cons (pe_glob (v := .ref (C 5)) (by rfl) (T.g 5 _ rfl) rfl) pa_nil))) (pa_nil)))))))
    (pss_cons (ps_set (i := 1) sc__law_kinds.nd rfl (by first | exact Or.inl rfl | exact Or.inr rfl) (pe_op op_cat (pv 1) (pe_lst (pa_cons (pe_callB call_isX (by rfl) T0.m_isinstance (by decide +kernel) (pa_cons (pv 0) (pa_cons (pe_glob (v := .ref (C 6)) (by rfl) (T.g 6 _ rfl) rfl) pa_nil))) (pa_cons (pe_callB call_isX (by rfl) T0.m_isinstance (by decide +kernel) (pa_cons (pv 0) (pa_cons (pe_glob (v := .ref (C 7)) (by rfl) (T.g 7 _ rfl) rfl) pa_nil))) (pa_cons (pe_callB call_isX (by rfl) T0.m_isinstance (by decide +kernel) (pa_cons (pv 0) (pa_cons (pe_glob (v := .ref (C 8)) (by rfl) (T.g 8 _ rfl) rfl) pa_nil))) (pa_nil)))))))
    (pss_cons (ps_set (i := 1) sc__law_kinds.nd rfl (by first | exact Or.inl rfl | exact Or.inr rfl) (pe_op op_cat (pv 1) (pe_lst (pa_cons (pe_callB call_isX (by rfl) T0.m_isinstance (by decide +kernel) (pa_cons (pv 0) (pa_cons (pe_glob (v := .ref (C 9)) (by rfl) (T.g 9 _ rfl) rfl) pa_nil))) (pa_cons (pe_callB call_isX (by rfl) T0.m_isinstance (by decide +kernel) (pa_cons (pv 0) (pa_cons (pe_glob (v := .ref (C 10)) (by rfl) (T.g 10 _ rfl) rfl) pa_nil))) (pa_cons (pe_callB call_isX (by rfl) T0.m_isinstance (by decide +kernel) (pa_cons (pv 0) (pa_cons (pe_glob (v := .ref (C 11)) (by rfl) (T.g 11 _ rfl) rfl) pa_nil))) (pa_nil)))))))
    (pss_cons (ps_set (i := 1) sc__law_kinds.nd rfl (by first | exact Or.inl rfl | exact Or.inr rfl) (pe_op op_cat (pv 1) (pe_lst (pa_cons (pe_callB call_isX (by rfl) T0.m_isinstance (by decide +kernel) (pa_cons (pv 0) (pa_cons (pe_glob (v := .ref (C 12)) (by rfl) (T.g 12 _ rfl) rfl) pa_nil))) (pa_cons (pe_callB call_isX (by rfl) T0.m_isinstance (by decide +kernel) (pa_cons (pv 0) (pa_cons (pe_glob (v := .ref (C 13)) (by rfl) (T.g 13 _ rfl) rfl) pa_nil))) (pa_cons (pe_callB call_isX (by rfl) T0.m_isinstance (by decide +kernel) (pa_cons (pv 0) (pa_cons (pe_glob (v := .ref (C 14)) (by rfl) (T.g 14 _ rfl) rfl) pa_nil))) (pa_nil)))))))
    (pss_cons (ps_set (i := 1) sc__law_kinds.nd rfl (by first | exact Or.inl rfl | exact Or.inr rfl) (pe_op op_cat (pv 1) (pe_lst (pa_cons (pe_callB call_isX (by rfl) T0.m_isinstance (by decide +kernel) (pa_cons (pv 0) (pa_cons (pe_glob (v := .ref (C 15)) (by rfl) (T.g 15 _ rfl) rfl) pa_nil))) (pa_cons (pe_callB call_isX (by rfl) T0.m_isinstance (by decide +kernel) (pa_cons (pv 0) (pa_cons (pe_glob (v := .ref (C 16)) (by rfl) (T.g 16 _ rfl) rfl) pa_nil))) (pa_cons (pe_callB call_isX (by rfl) T0.m_isinstance (by decide +kernel) (pa_cons (pv 0) (pa_cons (pe_glob (v := .ref (C 17)) (by rfl) (T.g 17 _ rfl) rfl) pa_nil))) (pa_nil)))))))
    (pss_cons (ps_set (i := 1) sc__law_kinds.nd rfl (by first | exact Or.inl rfl | exact Or.inr rfl) (pe_op op_cat (pv 1) (pe_lst (pa_cons (pe_callB call_isX (by rfl) T0.m_isinstance (by decide +kernel) (pa_cons (pv 0) (pa_cons (pe_glob (v := .ref (C 18)) (by rfl) (T.g 18 _ rfl) rfl) pa_nil))) (pa_cons (pe_callB call_isX (by rfl) T0.m_isinstance (by decide +kernel) (pa_cons (pv 0) (pa_cons (pe_glob (v := .ref (C 19)) (by rfl) (T.g 19 _ rfl) rfl) pa_nil))) (pa_cons (pe_callB call_isX (by rfl) T0.m_isinstance (by decide +kernel) (pa_cons (pv 0) (pa_cons (pe_glob (v := .ref (C 20)) (by rfl) (T.g 20 _ rfl) rfl) pa_nil))) (pa_nil)))))))
    (pss_one (ps_ret (pe_op op_cat (pv 1) (pe_lst (pa_cons (pe_and (pe_callB call_isX (by rfl) T0.m_isinstance (by decide +kernel) (pa_cons (pv 0) (pa_cons (pe_glob (v := .ref (C 21)) (by rfl) (T.g 21 _ rfl) rfl) pa_nil))) (pe_one (pe_callB call_isX (by rfl) T0.m_isinstance (by decide +kernel) (pa_cons (pv 0) (pa_cons (pe_bltn (v := .ty "ValueError") (by rfl) T0.m_ValueError boot_ValueError rfl) pa_nil))))) (pa_nil)))))))))))), ?_⟩
    have M : ∀ (l : List Nat), (∀ j ∈ l, j < 22) → ∀ p ∈ l.map (fun j => (C j, b j)), PySem.W.kitOne K t (.ref p.1) = some p.2 := fun l hl p hp => by
      obtain ⟨j, hj, rfl⟩ := List.mem_map.mp hp
      exact hb j (hl j hj)
    refine iss_lst rfl hx [(C 0, b 0), (C 1, b 1), (C 2, b 2)] (M [0, 1, 2] (by decide)) (Nat.le_of_ble_eq_true rfl) fun p1 H1 s1 h1 => ?_
    have x2 := hx.same s1
    refine iss_cat (p := p1) rfl rfl x2 [(C 3, b 3), (C 4, b 4), (C 5, b 5)] (M [3, 4, 5] (by decide)) (Nat.le_of_ble_eq_true rfl) h1 (Nat.le_of_ble_eq_true rfl) fun p2 H2 s2 h2 => ?_
    have r2 := s1.trans s2
    have x3 := hx.same r2
    refine iss_cat (p := p2) rfl rfl x3 [(C 6, b 6), (C 7, b 7), (C 8, b 8)] (M [6, 7, 8] (by decide)) (Nat.le_of_ble_eq_true rfl) h2 (Nat.le_of_ble_eq_true rfl) fun p3 H3 s3 h3 => ?_
    have r3 := r2.trans s3
    have x4 := hx.same r3
    refine iss_cat (p := p3) rfl rfl x4 [(C 9, b 9), (C 10, b 10), (C 11, b 11)] (M [9, 10, 11] (by decide)) (Nat.le_of_ble_eq_true rfl) h3 (Nat.le_of_ble_eq_true rfl) fun p4 H4 s4 h4 => ?_
    have r4 := r3.trans s4
    have x5 := hx.same r4
    refine iss_cat (p := p4) rfl rfl x5 [(C 12, b 12), (C 13, b 13), (C 14, b 14)] (M [12, 13, 14] (by decide)) (Nat.le_of_ble_eq_true rfl) h4 (Nat.le_of_ble_eq_true rfl) fun p5 H5 s5 h5 => ?_
    have r5 := r4.trans s5
    have x6 := hx.same r5
    refine iss_cat (p := p5) rfl rfl x6 [(C 15, b 15), (C 16, b 16), (C 17, b 17)] (M [15, 16, 17] (by decide)) (Nat.le_of_ble_eq_true rfl) h5 (Nat.le_of_ble_eq_true rfl) fun p6 H6 s6 h6 => ?_
    have r6 := r5.trans s6
    have x7 := hx.same r6
    refine iss_cat (p := p6) rfl rfl x7 [(C 18, b 18), (C 19, b 19), (C 20, b 20)] (M [18, 19, 20] (by decide)) (Nat.le_of_ble_eq_true rfl) h6 (Nat.le_of_ble_eq_true rfl) fun p7 H7 s7 h7 => ?_
    have r7 := r6.trans s7
    refine ⟨_, rfl, .ref a, rfl, a, .ref (C 21), t, .ref (C 21), b 21, rfl, .own _, hx.same r7, hb 21 (by decide), b 21, rfl, ?_⟩
    have fin : ∀ (c : Bool), c = b 21 → [V.bl c].length ≤ sizeLine ∧ ∀ l, H7 l = none → rCat (.ref p7) (.ref l) (upd H7 l (.lst [V.bl c])) Q := fun c e => by
      refine cat_end (H := H) h7 (Nat.le_of_ble_eq_true rfl) (by decide : 1 ≤ 500) fun p8 H8 s8 h8 => q p8 H8 (r7.trans s8) ?_
      rw [h8, e]
      rfl
    refine ite2 (fun c => ?_) (fun c => fin false (by simpa using c))
    exact ⟨.ref a, rfl, a, .ty "ValueError", t, .type "ValueError", true, rfl, .ty _, hx.same r7, hv, fin true (by simpa using c.symm)⟩
theorem ok__law_placed (T0 : Txt K mg) (T : Tc K mg C) (J : ∀ (i : Nat) (f : Str), fldNames[i]? = some f → Ini P w K mg base (C i) f) (F : Fn K mg "_law_placed" s__law_placed) : Df P w K mg base "_law_placed" 3 ["value"] (spMade C) := by
  refine F.df (fun _ _ _ _ _ _ us hl => match us, hl with | [_], _ => rfl) fun f fd F => F.ok sc__law_placed (fun vs H Q E h => ?_) (fun cdv A outer s H vs Q E hr h => ?_)
  · obtain ⟨v, rfl, _⟩ := h
    rfl
  · obtain ⟨v, rfl, q⟩ := h
    refine ⟨_, pss_cons (ps_set (i := 1) sc__law_placed.nd rfl (by first | exact Or.inl rfl | exact Or.inr rfl) (pe_lst (pa_cons (pe_iniP (J 0 _ rfl) (T.o 0 (by decide)) (hr.mono (by decide)) (by rfl) (T.g 0 _ rfl) (pv 0)) (pa_cons (pe_iniP (J 1 _ rfl) (T.o 1 (by decide)) (hr.mono (by decide)) (by rfl) (T.g 1 _ rfl) (pv 0)) (pa_cons (pe_iniP (J 2 _ rfl) (T.o 2 (by decide)) (hr.mono (by decide)) (by rfl) (T.g 2 _ rfl) (pv 0)) (pa_cons (pe_iniP (J 3 _ rfl) (T.o 3 (by decide)) (hr.mono (by decide)) (by rfl) (T.g 3 _ rfl) (pv 0)) (pa_nil)))))))
    (pss_cons (ps_set (i := 1) sc__law_placed.nd rfl (by first | exact Or.inl rfl | exact Or.inr rfl) (pe_op op_cat (pv 1) (pe_lst (pa_cons (pe_iniP (J 4 _ rfl) (T.o 4 (by decide)) (hr.mono (by decide)) (by rfl) (T.g 4 _ rfl) (pv 0)) (pa_cons (pe_iniP (J 5 _ rfl) (T.o 5 (by decide)) (hr.mono (by decide)) (by rfl) (T.g 5 _ rfl) (pv 0)) (pa_cons (pe_iniP (J 6 _ rfl) (T.o 6 (by decide)) (hr.mono (by decide)) (by rfl) (T.g 6 _ rfl) (pv 0)) (pa_cons (pe_iniP (J 7 _ rfl) (T.o 7 (by decide)) (hr.mono (by decide)) (by rfl) (T.g 7 _ rfl) (pv 0)) (pa_nil))))))))
    (pss_cons (ps_set (i := 1) sc__law_placed.nd rfl (by first | exact Or.inl rfl | exact Or.inr rfl) (pe_op op_cat (pv 1) (pe_lst (pa_cons (pe_iniP (J 8 _ rfl) (T.o 8 (by decide)) (hr.mono (by decide)) (by rfl) (T.g 8 _ rfl) (pv 0)) (pa_cons (pe_iniP (J 9 _ rfl) (T.o 9 (by decide)) (hr.mono (by decide)) (by rfl) (T.g 9 _ rfl) (pv 0)) (pa_cons (pe_iniP (J 10 _ rfl) (T.o 10 (by decide)) (hr.mono (by decide)) (by rfl) (T.g 10 _ rfl) (pv 0)) (pa_cons (pe_iniP (J 11 _ rfl) (T.o 11 (by decide)) (hr.mono (by decide)) (by rfl) (T.g 11 _ rfl) (pv 0)) (pa_nil))))))))
    (pss_one (ps_ret (pe_op op_cat (pv 1) (pe_lst (pa_cons (pe_iniP (J 12 _ rfl) (T.o 12 (by decide)) (hr.mono (by decide)) (by rfl) (T.g 12 _ rfl) (pv 0)) (pa_nil)))))))), ?_⟩
    have hv : ∀ (y : Option V) (H : Hp) (Q : VK), Q v H → tVar 0 [some v, y] H Q := fun y H Q h => ⟨v, rfl, h⟩
    refine news_lst (te := tVar 0) (hv _) [(C 0, "problem"), (C 1, "problem"), (C 2, "problem"), (C 3, "problem")] (Nat.le_of_ble_eq_true rfl) fun p1 xs1 H1 s1 h1 e1 => ?_
    have r1 := s1
    have E1 := e1
    refine news_cat (p := p1) (te := tVar 0) rfl (hv _) [(C 4, "line"), (C 5, "name"), (C 6, "name"), (C 7, "ring")] (Nat.le_of_ble_eq_true rfl) h1 (by rw [E1.length]; exact Nat.le_of_ble_eq_true rfl) fun p2 xs2 H2 s2 h2 e2 => ?_
    have r2 := r1.trans s2
    have E2 := (E1.same s2).append e2
    refine news_cat (p := p2) (te := tVar 0) rfl (hv _) [(C 8, "count"), (C 9, "number"), (C 10, "number"), (C 11, "index")] (Nat.le_of_ble_eq_true rfl) h2 (by rw [E2.length]; exact Nat.le_of_ble_eq_true rfl) fun p3 xs3 H3 s3 h3 e3 => ?_
    have r3 := r2.trans s3
    have E3 := (E2.same s3).append e3
    refine news_ret (p := p3) (te := tVar 0) rfl (hv _) [(C 12, "first")] (Nat.le_of_ble_eq_true rfl) h3 (by rw [E3.length]; exact Nat.le_of_ble_eq_true rfl) fun p4 xs4 H4 s4 h4 e4 => ?_
    have r4 := r3.trans s4
    have E4 := (E3.same s4).append e4
    exact q p4 _ H4 r4 h4 E4
theorem ok__law_named (T0 : Txt K mg) (T : Tc K mg C) (J : ∀ (i : Nat) (f : Str), fldNames[i]? = some f → Ini P w K mg base (C i) f) (F : Fn K mg "_law_named" s__law_named) : Df P w K mg base "_law_named" 3 ["value"] (spMade C) := by
  refine F.df (fun _ _ _ _ _ _ us hl => match us, hl with | [_], _ => rfl) fun f fd F => F.ok sc__law_named (fun vs H Q E h => ?_) (fun cdv A outer s H vs Q E hr h => ?_)
  · obtain ⟨v, rfl, _⟩ := h
    rfl
  · obtain ⟨v, rfl, q⟩ := h
    refine ⟨_, pss_cons (ps_set (i := 1) sc__law_named.nd rfl (by first | exact Or.inl rfl | exact Or.inr rfl) (pe_lst (pa_cons (pe_iniK (J 0 _ rfl) (T.o 0 (by decide)) (hr.mono (by decide)) (by rfl) (T.g 0 _ rfl) (pv 0)) (pa_cons (pe_iniK (J 1 _ rfl) (T.o 1 (by decide)) (hr.mono (by decide)) (by rfl) (T.g 1 _ rfl) (pv 0)) (pa_cons (pe_iniK (J 2 _ rfl) (T.o 2 (by decide)) (hr.mono (by decide)) (by rfl) (T.g 2 _ rfl) (pv 0)) (pa_nil))))))
    (pss_cons (ps_set (i := 1) sc__law_named.nd rfl (by first | exact Or.inl rfl | exact Or.inr rfl) (pe_op op_cat (pv 1) (pe_lst (pa_cons (pe_iniK (J 3 _ rfl) (T.o 3 (by decide)) (hr.mono (by decide)) (by rfl) (T.g 3 _ rfl) (pv 0)) (pa_cons (pe_iniK (J 4 _ rfl) (T.o 4 (by decide)) (hr.mono (by decide)) (by rfl) (T.g 4 _ rfl) (pv 0)) (pa_cons (pe_iniK (J 5 _ rfl) (T.o 5 (by decide)) (hr.mono (by decide)) (by rfl) (T.g 5 _ rfl) (pv 0)) (pa_nil)))))))
    (pss_cons (ps_set (i := 1) sc__law_named.nd rfl (by first | exact Or.inl rfl | exact Or.inr rfl) (pe_op op_cat (pv 1) (pe_lst (pa_cons (pe_iniK (J 6 _ rfl) (T.o 6 (by decide)) (hr.mono (by decide)) (by rfl) (T.g 6 _ rfl) (pv 0)) (pa_cons (pe_iniK (J 7 _ rfl) (T.o 7 (by decide)) (hr.mono (by decide)) (by rfl) (T.g 7 _ rfl) (pv 0)) (pa_cons (pe_iniK (J 8 _ rfl) (T.o 8 (by decide)) (hr.mono (by decide)) (by rfl) (T.g 8 _ rfl) (pv 0)) (pa_nil)))))))
    (pss_cons (ps_set (i := 1) sc__law_named.nd rfl (by first | exact Or.inl rfl | exact Or.inr rfl) (pe_op op_cat (pv 1) (pe_lst (pa_cons (pe_iniK (J 9 _ rfl) (T.o 9 (by decide)) (hr.mono (by decide)) (by rfl) (T.g 9 _ rfl) (pv 0)) (pa_cons (pe_iniK (J 10 _ rfl) (T.o 10 (by decide)) (hr.mono (by decide)) (by rfl) (T.g 10 _ rfl) (pv 0)) (pa_cons (pe_iniK (J 11 _ rfl) (T.o 11 (by decide)) (hr.mono (by decide)) (by rfl) (T.g 11 _ rfl) (pv 0)) (pa_nil)))))))
    (pss_one (ps_ret (pe_op op_cat (pv 1) (pe_lst (pa_cons (pe_iniK (J 12 _ rfl) (T.o 12 (by decide)) (hr.mono (by decide)) (by rfl) (T.g 12 _ rfl) (pv 0)) (pa_nil))))))))), ?_⟩
    have hv : ∀ (y : Option V) (H : Hp) (Q : VK), Q v H → tVar 0 [some v, y] H Q := fun y H Q h => ⟨v, rfl, h⟩
    refine news_lst (te := tVar 0) (hv _) [(C 0, "problem"), (C 1, "problem"), (C 2, "problem")] (Nat.le_of_ble_eq_true rfl) fun p1 xs1 H1 s1 h1 e1 => ?_
    have r1 := s1
    have E1 := e1
    refine news_cat (p := p1) (te := tVar 0) rfl (hv _) [(C 3, "problem"), (C 4, "line"), (C 5, "name")] (Nat.le_of_ble_eq_true rfl) h1 (by rw [E1.length]; exact Nat.le_of_ble_eq_true rfl) fun p2 xs2 H2 s2 h2 e2 => ?_
    have r2 := r1.trans s2
    have E2 := (E1.same s2).append e2
    refine news_cat (p := p2) (te := tVar 0) rfl (hv _) [(C 6, "name"), (C 7, "ring"), (C 8, "count")] (Nat.le_of_ble_eq_true rfl) h2 (by rw [E2.length]; exact Nat.le_of_ble_eq_true rfl) fun p3 xs3 H3 s3 h3 e3 => ?_
    have r3 := r2.trans s3
    have E3 := (E2.same s3).append e3
    refine news_cat (p := p3) (te := tVar 0) rfl (hv _) [(C 9, "number"), (C 10, "number"), (C 11, "index")] (Nat.le_of_ble_eq_true rfl) h3 (by rw [E3.length]; exact Nat.le_of_ble_eq_true rfl) fun p4 xs4 H4 s4 h4 e4 => ?_
    have r4 := r3.trans s4
    have E4 := (E3.same s4).append e4
    refine news_ret (p := p4) (te := tVar 0) rfl (hv _) [(C 12, "first")] (Nat.le_of_ble_eq_true rfl) h4 (by rw [E4.length]; exact Nat.le_of_ble_eq_true rfl) fun p5 xs5 H5 s5 h5 e5 => ?_
    have r5 := r4.trans s5
    have E5 := (E4.same s5).append e5
    exact q p5 _ H5 r5 h5 E5
theorem ok__law_plain (T0 : Txt K mg) (T : Tc K mg C) (F : Fn K mg "_law_plain" s__law_plain) : Df P w K mg base "_law_plain" 1 [] (spPlain C) := by
  refine F.df (fun _ _ _ _ _ _ us hl => match us, hl with | [], _ => rfl) fun f fd F => F.ok sc__law_plain (fun vs H Q E h => ?_) (fun cdv A outer s H vs Q E hr h => ?_)
  · obtain ⟨rfl, _⟩ := h
    rfl
  · obtain ⟨rfl, q⟩ := h
    refine ⟨_, pss_cons (ps_set (i := 0) sc__law_plain.nd rfl (by first | exact Or.inl rfl | exact Or.inr rfl) (pe_lst (pa_cons (pe_exn PySem.F.excBase_ValueError (T.x 13 (by decide) (by decide)) (T.g 13 _ rfl) (T.o 13 (by decide)).kC (by rfl)) (pa_cons (pe_exn PySem.F.excBase_ValueError (T.x 14 (by decide) (by decide)) (T.g 14 _ rfl) (T.o 14 (by decide)).kC (by rfl)) (pa_cons (pe_exn PySem.F.excBase_ValueError (T.x 15 (by decide) (by decide)) (T.g 15 _ rfl) (T.o 15 (by decide)).kC (by rfl)) (pa_cons (pe_exn PySem.F.excBase_ValueError (T.x 16 (by decide) (by decide)) (T.g 16 _ rfl) (T.o 16 (by decide)).kC (by rfl)) (pa_cons (pe_exn PySem.F.excBase_ValueError (T.x 17 (by decide) (by decide)) (T.g 17 _ rfl) (T.o 17 (by decide)).kC (by rfl)) (pa_cons (pe_exn PySem.F.excBase_ValueError (T.x 18 (by decide) (by decide)) (T.g 18 _ rfl) (T.o 18 (by decide)).kC (by rfl)) (pa_nil)))))))))
    (pss_one (ps_ret (pe_op op_cat (pv 0) (pe_lst (pa_cons (pe_exn PySem.F.excBase_ValueError (T.x 19 (by decide) (by decide)) (T.g 19 _ rfl) (T.o 19 (by decide)).kC (by rfl)) (pa_cons (pe_exn PySem.F.excBase_ValueError (T.x 20 (by decide) (by decide)) (T.g 20 _ rfl) (T.o 20 (by decide)).kC (by rfl)) (pa_nil))))))), ?_⟩
    refine bares_lst [C 13, C 14, C 15, C 16, C 17, C 18] (Nat.le_of_ble_eq_true rfl) fun p1 xs1 H1 s1 h1 e1 => ?_
    refine bares_ret (p := p1) rfl [C 19, C 20] (Nat.le_of_ble_eq_true rfl) h1 (by rw [e1.length]; exact Nat.le_of_ble_eq_true rfl) fun p2 xs2 H2 s2 h2 e2 => ?_
    exact q p2 _ H2 (s1.trans s2) h2 ((e1.same s2).append e2)
end
end Lw
set_option Elab.async false
set_option linter.all false
set_option maxRecDepth 100000
set_option maxHeartbeats 4000000
namespace L2
open PySem PySem.Spec PyProof.Rows
/-- xs[i].f for several places, xs the list of slot 0 -/
def tFs (K : PySem.W.Frag) : List (Nat × Str) → TA
  | [] => tNil
  | c :: l => tCons (tExF K c.2 (tOp (rIxL K) (tVar 0) (tC (.int (c.1 : Nat))))) (tFs K l)
theorem fs_run {K : PySem.W.Frag} {σ : St} {p : Addr} {xs : List V} {v : V} {H : Hp} (hσ : σ[0]? = some (some (.ref p))) (h : H p = some (.lst xs)) : ∀ (l : List (Nat × Str)) {Q : List V → Hp → Prop},
    (∀ c ∈ l, ∃ x C, xs[c.1]? = some x ∧ Err H C c.2 v x ∧ XcA K C ∧ PySem.W.findIn K (.ref C) c.2 = some none) → Q (l.map fun _ => v) H → tFs K l σ H Q
  | [], _, _, q => q
  | c :: l, Q, hc, q => by
    obtain ⟨x, C, e1, ⟨a, d, rfl, e2, e3⟩, A, no⟩ := hc c (List.mem_cons_self ..)
    refine ⟨_, hσ, p, xs, _, .ref a, rfl, rfl, SqL.of h, atI_nat e1, a, C, d, [(c.2, v)], v, rfl, e2, e3, A, no, by simp [List.lookup], ?_⟩
    exact fs_run hσ h l (fun c' hc' => hc c' (List.mem_cons_of_mem _ hc')) q
section
variable {i j : Nat} {rest : TS} {D : Ends} {σ : St} {H : Hp} {p q : Addr} {xs zs : List V} {v : V} {K : PySem.W.Frag}
def FsOk (K : PySem.W.Frag) (H : Hp) (xs : List V) (v : V) (l : List (Nat × Str)) : Prop := ∀ c ∈ l, ∃ x C, xs[c.1]? = some x ∧ Err H C c.2 v x ∧ XcA K C ∧ PySem.W.findIn K (.ref C) c.2 = some none
theorem FsOk.same {H' : Hp} {l : List (Nat × Str)} (s : Same H H') (h : FsOk K H xs v l) : FsOk K H' xs v l := fun c hc => by
  obtain ⟨x, C, e1, e2, A, no⟩ := h c hc
  exact ⟨x, C, e1, e2.same s, A, no⟩
theorem fs_lst (hσ : σ[0]? = some (some (.ref p))) (h : H p = some (.lst xs)) (l : List (Nat × Str)) (ok : FsOk K H xs v l) (hl : l.length ≤ 500) (q : ∀ p2 H2, Same H H2 → H2 p2 = some (.lst (l.map fun _ => v)) → rest D (σ.set i (some (.ref p2))) H2) :
    tSeq (tAsg (tLst (tFs K l)) (gName i)) rest D σ H :=
  fs_run hσ h l ok (lst_end (Q := fun y H2 => rest D (σ.set i (some y)) H2) (by rw [List.length_map]; exact hl) q)
theorem fs_cat (hp : σ[j]? = some (some (.ref q))) (hσ : σ[0]? = some (some (.ref p))) (h : H p = some (.lst xs)) (hq : H q = some (.lst zs)) (hz : zs.length ≤ 500) (l : List (Nat × Str)) (ok : FsOk K H xs v l) (hl : l.length ≤ 500) (k : ∀ p2 H2, Same H H2 → H2 p2 = some (.lst (zs ++ l.map fun _ => v)) → rest D (σ.set i (some (.ref p2))) H2) :
    tSeq (tAsg (tOp rCat (tVar j) (tLst (tFs K l))) (gName i)) rest D σ H :=
  ⟨_, hp, fs_run hσ h l ok (cat_end (H := H) (Q := fun y H2 => rest D (σ.set i (some y)) H2) hq hz (by rw [List.length_map]; exact hl) k)⟩
theorem fs_ret (hp : σ[j]? = some (some (.ref q))) (hσ : σ[0]? = some (some (.ref p))) (h : H p = some (.lst xs)) (hq : H q = some (.lst zs)) (hz : zs.length ≤ 500) (l : List (Nat × Str)) (ok : FsOk K H xs v l) (hl : l.length ≤ 500) (k : ∀ p2 H2, Same H H2 → H2 p2 = some (.lst (zs ++ l.map fun _ => v)) → D.rt (.ref p2) H2) :
    tRet (tOp rCat (tVar j) (tLst (tFs K l))) D σ H :=
  ⟨_, hp, fs_run hσ h l ok (cat_end (H := H) (Q := D.rt) hq hz (by rw [List.length_map]; exact hl) k)⟩
end
end L2
namespace Lw
open PySem PySem.Spec PyProof.Rows L2
def bares (C : Nat → Addr) : List Addr := (List.range 8).map fun i => C (13 + i)
/-- what the law's lists of errors hold -/
def Made (H : Hp) (C : Nat → Addr) (v : V) (xs : List V) : Prop := ∃ ys zs, xs = ys ++ zs ∧ Errs H v (flds C) ys ∧ Bares H (bares C) zs
theorem Made.same {H H' : Hp} {C : Nat → Addr} {v : V} {xs : List V} (s : Same H H') (h : Made H C v xs) : Made H' C v xs := by
  obtain ⟨ys, zs, e, a, b⟩ := h
  exact ⟨ys, zs, e, a.same s, b.same s⟩
def spBare (C : Nat → Addr) : Sp := fun vs H Q _ => vs = [] ∧ ∀ p xs H', Same H H' → H' p = some (.lst xs) → Made H' C .non xs → Q (.ref p) H'
def spFields (C : Nat → Addr) : Sp := fun vs H Q _ => ∃ p xs v, vs = [.ref p] ∧ H p = some (.lst xs) ∧ Errs H v (flds C) xs ∧ ∀ p2 H2, Same H H2 → H2 p2 = some (.lst (List.replicate 13 v)) → Q (.ref p2) H2
section
variable {P : Program} {w : World} {K : PySem.W.Frag} {mg : Str → Option Value} {base : Heap} {C : Nat → Addr}
theorem ok__law_bare (T0 : Txt K mg) (T : Tc K mg C) (J : ∀ (i : Nat) (f : Str), fldNames[i]? = some f → Ini P w K mg base (C i) f) (F : Fn K mg "_law_bare" s__law_bare) (FP : Fn K mg "_law_plain" s__law_plain) : Df P w K mg base "_law_bare" 3 [] (spBare C) := by
  have G__law_plain : Df P w K mg base "_law_plain" 1 [] (spPlain C) := ok__law_plain T0 T FP
  refine F.df (fun _ _ _ _ _ _ us hl => match us, hl with | [], _ => rfl) fun f fd F => F.ok sc__law_bare (fun vs H Q E h => ?_) (fun cdv A outer s H vs Q E hr h => ?_)
  · obtain ⟨rfl, _⟩ := h
    rfl
  · obtain ⟨rfl, q⟩ := h
    refine ⟨_, pss_cons (ps_set (i := 0) sc__law_bare.nd rfl (by first | exact Or.inl rfl | exact Or.inr rfl) (pe_lst (pa_cons (pe_ini0 (J 0 _ rfl) (T.o 0 (by decide)) (hr.mono (by decide)) (by rfl) (T.g 0 _ rfl)) (pa_cons (pe_ini0 (J 1 _ rfl) (T.o 1 (by decide)) (hr.mono (by decide)) (by rfl) (T.g 1 _ rfl)) (pa_cons (pe_ini0 (J 2 _ rfl) (T.o 2 (by decide)) (hr.mono (by decide)) (by rfl) (T.g 2 _ rfl)) (pa_cons (pe_ini0 (J 3 _ rfl) (T.o 3 (by decide)) (hr.mono (by decide)) (by rfl) (T.g 3 _ rfl)) (pa_cons (pe_ini0 (J 4 _ rfl) (T.o 4 (by decide)) (hr.mono (by decide)) (by rfl) (T.g 4 _ rfl)) (pa_cons (pe_ini0 (J 5 _ rfl) (T.o 5 (by decide)) (hr.mono (by decide)) (by rfl) (T.g 5 _ rfl)) (pa_nil)))))))))
    (pss_cons (ps_set (i := 0) sc__law_bare.nd rfl (by first | exact Or.inl rfl | exact Or.inr rfl) (pe_op op_cat (pv 0) (pe_lst (pa_cons (pe_ini0 (J 6 _ rfl) (T.o 6 (by decide)) (hr.mono (by decide)) (by rfl) (T.g 6 _ rfl)) (pa_cons (pe_ini0 (J 7 _ rfl) (T.o 7 (by decide)) (hr.mono (by decide)) (by rfl) (T.g 7 _ rfl)) (pa_cons (pe_ini0 (J 8 _ rfl) (T.o 8 (by decide)) (hr.mono (by decide)) (by rfl) (T.g 8 _ rfl)) (pa_cons (pe_ini0 (J 9 _ rfl) (T.o 9 (by decide)) (hr.mono (by decide)) (by rfl) (T.g 9 _ rfl)) (pa_cons (pe_ini0 (J 10 _ rfl) (T.o 10 (by decide)) (hr.mono (by decide)) (by rfl) (T.g 10 _ rfl)) (pa_cons (pe_ini0 (J 11 _ rfl) (T.o 11 (by decide)) (hr.mono (by decide)) (by rfl) (T.g 11 _ rfl)) (pa_cons (pe_ini0 (J 12 _ rfl) (T.o 12 (by decide)) (hr.mono (by decide)) (by rfl) (T.g 12 _ rfl)) (pa_nil)))))))))))
    (pss_one (ps_ret (pe_op op_cat (pv 0) (pe_df0 G__law_plain (hr.mono (by decide)) (by rfl)))))), ?_⟩
    have hv : ∀ (σ : L2.St) (H : Hp) (Q : VK), Q .non H → tC .non σ H Q := fun σ H Q h => h
    refine news_lst (te := tC .non) (hv _) [(C 0, "problem"), (C 1, "problem"), (C 2, "problem"), (C 3, "problem"), (C 4, "line"), (C 5, "name")] (Nat.le_of_ble_eq_true rfl) fun p1 xs1 H1 s1 h1 e1 => ?_
    refine news_cat (p := p1) (te := tC .non) rfl (hv _) [(C 6, "name"), (C 7, "ring"), (C 8, "count"), (C 9, "number"), (C 10, "number"), (C 11, "index"), (C 12, "first")] (Nat.le_of_ble_eq_true rfl) h1 (by rw [e1.length]; exact Nat.le_of_ble_eq_true rfl) fun p2 xs2 H2 s2 h2 e2 => ?_
    have E2 := (e1.same s2).append e2
    refine ⟨.ref p2, rfl, rfl, fun p3 xs3 H3 s3 h3 e3 => ?_⟩
    refine ⟨p2, p3, _, _, rfl, rfl, s3 _ _ h2, h3, ?_, fun p4 n4 => ?_⟩
    · rw [E2.length, e3.length]
      exact Nat.le_of_ble_eq_true rfl
    · exact q p4 _ _ (((s1.trans s2).trans s3).trans (same_upd n4)) upd_same ⟨_, _, rfl, (E2.same s3).same (same_upd n4), e3.same (same_upd n4)⟩
theorem ok__law_fields (T0 : Txt K mg) (T : Tc K mg C) (J : ∀ (i : Nat) (f : Str), fldNames[i]? = some f → Ini P w K mg base (C i) f) (F : Fn K mg "_law_fields" s__law_fields) : Df P w K mg base "_law_fields" 1 ["made"] (spFields C) := by
  refine F.df (fun _ _ _ _ _ _ us hl => match us, hl with | [_], _ => rfl) fun f fd F => F.ok sc__law_fields (fun vs H Q E h => ?_) (fun cdv A outer s H vs Q E hr h => ?_)
  · obtain ⟨p, xs, v, rfl, _⟩ := h
    rfl
  · obtain ⟨p, xs, v, rfl, hp, he, q⟩ := h
    refine ⟨_, pss_cons (ps_set (i := 1) sc__law_fields.nd rfl (by first | exact Or.inl rfl | exact Or.inr rfl) (pe_lst (pa_cons (pe_exf (pe_ix ix_list (pv 0) (pe_int) (fun _ _ => rfl))) (pa_cons (pe_exf (pe_ix ix_list (pv 0) (pe_int) (fun _ _ => rfl))) (pa_cons (pe_exf (pe_ix ix_list (pv 0) (pe_int) (fun _ _ => rfl))) (pa_cons (pe_exf (pe_ix ix_list (pv 0) (pe_int) (fun _ _ => rfl))) (pa_cons (pe_exf (pe_ix ix_list (pv 0) (pe_int) (fun _ _ => rfl))) (pa_cons (pe_exf (pe_ix ix_list (pv 0) (pe_int) (fun _ _ => rfl))) (pa_nil)))))))))
    (pss_cons (ps_set (i := 1) sc__law_fields.nd rfl (by first | exact Or.inl rfl | exact Or.inr rfl) (pe_op op_cat (pv 1) (pe_lst (pa_cons (pe_exf (pe_ix ix_list (pv 0) (pe_int) (fun _ _ => rfl))) (pa_cons (pe_exf (pe_ix ix_list (pv 0) (pe_int) (fun _ _ => rfl))) (pa_cons (pe_exf (pe_ix ix_list (pv 0) (pe_int) (fun _ _ => rfl))) (pa_cons (pe_exf (pe_ix ix_list (pv 0) (pe_int) (fun _ _ => rfl))) (pa_cons (pe_exf (pe_ix ix_list (pv 0) (pe_int) (fun _ _ => rfl))) (pa_nil)))))))))
    (pss_one (ps_ret (pe_op op_cat (pv 1) (pe_lst (pa_cons (pe_exf (pe_ix ix_list (pv 0) (pe_int) (fun _ _ => rfl))) (pa_cons (pe_exf (pe_ix ix_list (pv 0) (pe_int) (fun _ _ => rfl))) (pa_nil)))))))), ?_⟩
    have ok : ∀ l : List (Nat × Str), (∀ c ∈ l, fldNames[c.1]? = some c.2 ∧ c.1 < 13) → FsOk K H xs v l := fun l hl c hc => by
      obtain ⟨i, f⟩ := c
      obtain ⟨h1, h2⟩ := hl _ hc
      have g : (flds C)[i]? = some (C i, f) := by
        unfold flds
        rw [List.getElem?_map, List.getElem?_range h2, Option.map_some, List.getD_eq_getElem?_getD, h1]
        rfl
      obtain ⟨x, e1, e2⟩ := he.get g
      exact ⟨x, C i, e1, e2, T.a i (by omega), (J i f h1).no⟩
    refine fs_lst (p := p) (xs := xs) (v := v) rfl hp [(0, "problem"), (1, "problem"), (2, "problem"), (3, "problem"), (4, "line"), (5, "name")] (ok _ (by decide)) (Nat.le_of_ble_eq_true rfl) fun p1 H1 s1 h1 => ?_
    refine fs_cat (p := p) (xs := xs) (v := v) (q := p1) rfl rfl (s1 _ _ hp) h1 (Nat.le_of_ble_eq_true rfl) [(6, "name"), (7, "ring"), (8, "count"), (9, "number"), (10, "number")] ((ok _ (by decide)).same s1) (Nat.le_of_ble_eq_true rfl) fun p2 H2 s2 h2 => ?_
    refine fs_ret (p := p) (xs := xs) (v := v) (q := p2) rfl rfl ((s1.trans s2) _ _ hp) h2 (Nat.le_of_ble_eq_true rfl) [(11, "index"), (12, "first")] ((ok _ (by decide)).same (s1.trans s2)) (Nat.le_of_ble_eq_true rfl) fun p3 H3 s3 h3 => ?_
    exact q p3 H3 ((s1.trans s2).trans s3) h3
end
end Lw
set_option Elab.async false
set_option linter.all false
set_option maxRecDepth 100000
set_option maxHeartbeats 4000000
namespace Lw
open PySem PySem.Spec PyProof.Rows L2
def spKR (K : PySem.W.Frag) (C : Nat → Addr) : Sp := fun vs H Q _ => ∃ (p : Addr) (xs : List V), vs = [.ref p] ∧ H p = some (.lst xs) ∧ (∀ (i : Nat) (x : V), xs[i]? = some x → i < 21 ∧ ∃ a, x = .ref a ∧ ExV K H a (.ref (C i))) ∧ ∀ H', Same H H' → Q (.bl true) H'
theorem made_ev {K : PySem.W.Frag} {mg : Str → Option Value} {C : Nat → Addr} {H : Hp} {v : V} {xs : List V} (T : Tc K mg C) (M : Made H C v xs) : ∀ (i : Nat) (x : V), xs[i]? = some x → i < 21 ∧ ∃ a, x = .ref a ∧ ExV K H a (.ref (C i)) := by
  intro i x hx
  obtain ⟨ys, zs, rfl, he, hb⟩ := M
  have l1 : ys.length = 13 := he.length
  have l2 : zs.length = 8 := hb.length
  by_cases h : i < 13
  · rw [List.getElem?_append_left (by omega)] at hx
    have g : (flds C)[i]? = some (C i, fldNames.getD i "") := by
      unfold flds
      rw [List.getElem?_map, List.getElem?_range h]
      rfl
    obtain ⟨y, e1, a, d, e2, h1, h2⟩ := he.get g
    rw [hx] at e1
    cases e1
    exact ⟨by omega, a, e2, .dict h1 h2 (T.a i (by omega))⟩
  · rw [List.getElem?_append_right (by omega)] at hx
    have hi : i - ys.length < 8 := by
      have := (List.getElem?_eq_some_iff.mp hx).1
      omega
    have g : (bares C)[i - ys.length]? = some (C i) := by
      unfold bares
      rw [List.getElem?_map, List.getElem?_range hi]
      have : 13 + (i - ys.length) = i := by omega
      rw [Option.map_some, this]
    obtain ⟨y, e1, a, e2, h1⟩ := hb.get g
    rw [hx] at e1
    cases e1
    exact ⟨by omega, a, e2, .own h1 (T.a i (by omega))⟩
section
variable {P : Program} {w : World} {K : PySem.W.Frag} {mg : Str → Option Value} {base : Heap} {C : Nat → Addr}
theorem ok__law_kinds_right (T0 : Txt K mg) (T : Tc K mg C) (F : Fn K mg "_law_kinds_right" s__law_kinds_right) (FK : Fn K mg "_law_kinds" s__law_kinds) : Df P w K mg base "_law_kinds_right" 2 ["made"] (spKR K C) := by
  have G__law_kinds : Df P w K mg base "_law_kinds" 1 ["made"] (spKinds K C) := ok__law_kinds T0 T FK
  refine F.df (fun _ _ _ _ _ _ us hl => match us, hl with | [_], _ => rfl) fun f fd F => F.ok sc__law_kinds_right (fun vs H Q E h => ?_) (fun cdv A outer s H vs Q E hr h => ?_)
  · obtain ⟨p, xs, rfl, _⟩ := h
    rfl
  · obtain ⟨p, xs, rfl, hp, hx, q⟩ := h
    refine ⟨_, pss_cons (ps_for PassesOwn.never rfl (pi_enum (by rfl) T0.m_enumerate (pa_cons (pv 0) (pa_nil))) (pg_tup (by rfl) (pgs_cons (pg_name (i := 1) sc__law_kinds_right.nd rfl (by first | exact Or.inl rfl | exact Or.inr rfl)) (pgs_cons (pg_name (i := 2) sc__law_kinds_right.nd rfl (by first | exact Or.inl rfl | exact Or.inr rfl)) (pgs_nil)))) (pss_one (ps_if (pt_cmpR (op_neD hr.units) (pe_df G__law_kinds (hr.mono (by decide)) (by rfl) (pa_cons (pv 2) (pa_nil))) (pe_lc (own := [("k", 3)]) rfl sc__law_kinds_right.nd (pi_range1 (by rfl) T0.m_range (pa_cons (pe_int) (pa_nil))) (blkOk_by (N := ["made", "at", "one", "k"]) (sc := defScope s__law_kinds_right) (by decide +kernel)) (fun _ _ _ _ _ => pg_name (i := 3) sc__law_kinds_right.nd rfl (by first | exact Or.inl rfl | exact Or.inr rfl)) (fun _ _ _ _ _ => pts_nil) (fun _ _ _ _ _ => pe_cmpR (show OpR _ _ (rIn K false) from op_in_seq) (pv 3) (pe_tup (pa_cons (pv 1) (pa_cons (pe_int) (pa_nil)))) (by rfl))) (nomark _)) (pss_one (ps_ret (pe_bl))) (pss_nil))))
    (pss_one (ps_ret (pe_bl))), ?_⟩
    refine ⟨.ref p, rfl, p, xs, rfl, SqL.of hp, for_it (walk_enum (K := K) (a := p) (xs := xs)) (fun i σ H' => ∃ y1 y2 y3, σ = [some (.ref p), y1, y2, y3] ∧ Same H H') ⟨none, none, none, rfl, Same.refl H⟩ (fun i σ H' _ h => h.elim fun y1 h => h.elim fun y2 h => h.elim fun y3 h => h.2.seq (SqL.of hp)) ?_ ?_⟩
    · rintro i x σ H1 H2 hi ⟨y1, y2, y3, rfl, s1⟩ ⟨T1, x1, x2, rfl, nT, rfl, e1, e2⟩
      cases (Option.some.inj e1)
      obtain ⟨hi21, a, rfl, hev⟩ := hx i x2 e2
      refine ⟨T1, [.int (i : Nat), .ref a], rfl, .inl (.inl upd_same), rfl, _, [.ref a], rfl, _, [], rfl, rfl, ?_⟩
      have s2 := s1.trans (same_upd nT (o := .tup [.int (i : Nat), .ref a]))
      refine ⟨.ref a, rfl, a, .ref (C i), fun j => decide (i = j) || decide (j = 21), rfl, hev.same s2, fun j hj => T.k i j (by omega) hj, T.kv i (by omega), fun p2 H3 s3 h3 => ?_⟩
      refine ⟨22, rfl, by decide, by decide, fun D nD => lc_range (lo := 0) (n := 22) (fun k H' => Same H3 H' ∧ H' D = some (.lst ((List.range k).map fun j => V.bl (decide (i = j) || decide (j = 21))))) ⟨same_upd nD, upd_same⟩ ?_ ?_⟩
      · rintro k H4 hk ⟨s4, h4⟩
        refine ⟨rfl, yes_run ?_⟩
        refine ⟨_, rfl, _, rfl, (by show 2 ≤ sizeLine; decide), fun t nt => ⟨t, _, rfl, .inr (SqT.of upd_same), rfl, rfl, _, (by rw [upd_ne (ne_of_none h4 nt)]; exact h4), ?_, ?_, ?_⟩⟩
        · rw [List.length_map, List.length_range]
          exact small1000 (by omega)
        · refine fun b o e => ?_
          have hb : b ≠ D := ne_of_none e nD
          rw [upd_ne hb, (same_upd nt) b o (s4 b o e)]
        · rw [upd_same, List.range_succ, List.map_append]
          have e : inV (.int (0 + (k : Nat))) [.int (i : Nat), .int 21] = (decide (i = k) || decide (k = 21)) := by
            show (((i : Nat) : Int) == 0 + (k : Nat) || ((21 : Int) == 0 + (k : Nat) || false)) = _
            rw [Bool.eq_iff_iff]
            simp only [Bool.or_eq_true, beq_iff_eq, decide_eq_true_eq, Bool.or_false]
            omega
          show some (HO.lst (_ ++ [V.bl (inV (.int (0 + (k : Nat))) [.int (i : Nat), .int 21])])) = _
          rw [e]
          rfl
      · rintro H4 ⟨s4, h4⟩
        have sh : SeqAt.shaped (.list (((List.range 22).map fun j => decide (i = j) || decide (j = 21)).map PyData.bool)) = true := rfl
        refine ⟨_, _, .lst (SqL.of (s4 _ _ h3)) (dp_bools ((List.range 22).map fun j => decide (i = j) || decide (j = 21))), .lst (SqL.of h4) (dp_bools ((List.range 22).map fun j => decide (i = j) || decide (j = 21))), sh, sh, _, rfl, ?_⟩
        rw [SeqAt.eqv_refl _ (SeqAt.canLay_of_shaped sh)]
        exact iteF ⟨_, _, _, rfl, (s2.trans s3).trans s4⟩
    · rintro σ H' ⟨y1, y2, y3, rfl, s1⟩
      exact q H' s1
end
end Lw
set_option Elab.async false
set_option linter.all false
set_option maxRecDepth 100000
set_option maxHeartbeats 4000000
namespace Lw
open PySem PySem.Spec PyProof.Rows L2
/-- the objects among the law's values -/
structure Objs (H : Hp) (t1 t2 t3 l1 l2 t4 t5 t6 : Addr) : Prop where
  h1 : H t1 = some (.tup [])
  h2 : H t2 = some (.tup [.str "a"])
  h3 : H t3 = some (.tup [.str "a", .str "b"])
  h4 : H l1 = some (.lst [.str "a"])
  h5 : H l2 = some (.lst [])
  h6 : H t4 = some (.tup [.str "ana", .int 1])
  h7 : H t5 = some (.tup [.str "bo", .int 1])
  h8 : H t6 = some (.tup [.ref t4, .ref t5])
def vals (t1 t2 t3 l1 l2 t6 : Addr) : List V := [.non, .bl true, .int 0, .int 7, .int (10 ^ (30 : Int).toNat), .str "", .str "zz", .str "a {0}", .ref t1, .ref t2, .ref t3, .ref l1, .ref l2, .ref t6]
theorem Objs.same {H H' : Hp} {t1 t2 t3 l1 l2 t4 t5 t6 : Addr} (s : Same H H') (o : Objs H t1 t2 t3 l1 l2 t4 t5 t6) : Objs H' t1 t2 t3 l1 l2 t4 t5 t6 :=
  ⟨s _ _ o.h1, s _ _ o.h2, s _ _ o.h3, s _ _ o.h4, s _ _ o.h5, s _ _ o.h6, s _ _ o.h7, s _ _ o.h8⟩
/-- one list of another kind of items is changed -/
theorem Objs.but {H : Hp} {p : Addr} {u : HO} {x : V} {xs : List V} {t1 t2 t3 l1 l2 t4 t5 t6 : Addr} (hp : H p = some (.lst (x :: xs))) (hx : x ≠ .str "a") (o : Objs H t1 t2 t3 l1 l2 t4 t5 t6) : Objs (upd H p u) t1 t2 t3 l1 l2 t4 t5 t6 := by
  have k : ∀ {b : Addr} {v : HO}, H b = some v → v ≠ .lst (x :: xs) → upd H p u b = some v := fun {b v} e n => by rw [upd_ne (ne_of e hp n)]; exact e
  exact ⟨k o.h1 (fun z => nomatch z), k o.h2 (fun z => nomatch z), k o.h3 (fun z => nomatch z), k o.h4 (fun z => hx (List.cons.inj (HO.lst.inj z)).1.symm), k o.h5 (fun z => nomatch z), k o.h6 (fun z => nomatch z), k o.h7 (fun z => nomatch z), k o.h8 (fun z => nomatch z)⟩
theorem vals_dp {K : PySem.W.Frag} {H : Hp} {t1 t2 t3 l1 l2 t4 t5 t6 : Addr} (o : Objs H t1 t2 t3 l1 l2 t4 t5 t6) (d : Int) (h0 : 0 ≤ d) (h1 : d < 14) :
    ∃ v dd, atI (vals t1 t2 t3 l1 l2 t6) d = some v ∧ Dp K H v dd ∧ SeqAt.shaped (.list (List.replicate 13 dd)) = true := by
  have a : Dp K H (.str "a") (.str "a") := .str _
  have b : Dp K H (.str "b") (.str "b") := .str _
  have c : d = 0 ∨ d = 1 ∨ d = 2 ∨ d = 3 ∨ d = 4 ∨ d = 5 ∨ d = 6 ∨ d = 7 ∨ d = 8 ∨ d = 9 ∨ d = 10 ∨ d = 11 ∨ d = 12 ∨ d = 13 := by omega
  rcases c with rfl | rfl | rfl | rfl | rfl | rfl | rfl | rfl | rfl | rfl | rfl | rfl | rfl | rfl
  · exact ⟨_, _, rfl, .non, rfl⟩
  · exact ⟨_, _, rfl, .bl _, rfl⟩
  · exact ⟨_, _, rfl, .int _, rfl⟩
  · exact ⟨_, _, rfl, .int _, rfl⟩
  · exact ⟨_, _, rfl, .int _, rfl⟩
  · exact ⟨_, _, rfl, .str _, by decide +kernel⟩
  · exact ⟨_, _, rfl, .str _, by decide +kernel⟩
  · exact ⟨_, _, rfl, .str _, by decide +kernel⟩
  · exact ⟨_, _, rfl, .tup (SqT.of o.h1) .nil, by decide +kernel⟩
  · exact ⟨_, _, rfl, .tup (SqT.of o.h2) (.cons a .nil), by decide +kernel⟩
  · exact ⟨_, _, rfl, .tup (SqT.of o.h3) (.cons a (.cons b .nil)), by decide +kernel⟩
  · exact ⟨_, _, rfl, .lst (SqL.of o.h4) (.cons a .nil), by decide +kernel⟩
  · exact ⟨_, _, rfl, .lst (SqL.of o.h5) .nil, by decide +kernel⟩
  · exact ⟨_, _, rfl, .tup (SqT.of o.h8) (.cons (.tup (SqT.of o.h6) (.cons (.str _) (.cons (.int _) .nil))) (.cons (.tup (SqT.of o.h7) (.cons (.str _) (.cons (.int _) .nil))) .nil)), by decide +kernel⟩
def spLaw (K : PySem.W.Frag) : Sp := fun vs H Q _ => ∃ (a : Addr) (ns : List Int), vs = [.ref a] ∧ SqL K H a (ns.map V.int) ∧ ns.length ≤ 63 ∧ ∀ H', Q (.bl true) H'
/-- the defs of the law's text -/
structure Defs (K : PySem.W.Frag) (mg : Str → Option Value) : Prop where
  f1 : Fn K mg "_law_at" s__law_at
  f2 : Fn K mg "_law_mixed" s__law_mixed
  f3 : Fn K mg "_law_purse" s__law_purse
  f4 : Fn K mg "_law_draw" s__law_draw
  f5 : Fn K mg "_law_kinds" s__law_kinds
  f6 : Fn K mg "_law_placed" s__law_placed
  f7 : Fn K mg "_law_named" s__law_named
  f8 : Fn K mg "_law_bare" s__law_bare
  f9 : Fn K mg "_law_plain" s__law_plain
  f10 : Fn K mg "_law_fields" s__law_fields
  f11 : Fn K mg "_law_kinds_right" s__law_kinds_right
section
variable {P : Program} {w : World} {K : PySem.W.Frag} {mg : Str → Option Value} {base : Heap} {C : Nat → Addr} {f : Addr} {fd : FuncData}
theorem ok_law (T0 : Txt K mg) (T : Tc K mg C) (J : ∀ (i : Nat) (f : Str), fldNames[i]? = some f → Ini P w K mg base (C i) f) (D : Defs K mg) (F : Fun K "law" "law" s_law f fd) : FnOk P w K mg base CX0 4 f fd ["script"] (spLaw K) := by
  have G__law_purse : Df P w K mg base "_law_purse" 2 ["script", "at"] (spPurse K) := ok__law_purse T0 D.f3 D.f1
  have G__law_draw : Df P w K mg base "_law_draw" 2 ["purse", "out_of"] spDraw := ok__law_draw T0 D.f4 D.f2
  have G__law_placed : Df P w K mg base "_law_placed" 3 ["value"] (spMade C) := ok__law_placed T0 T J D.f6
  have G__law_named : Df P w K mg base "_law_named" 3 ["value"] (spMade C) := ok__law_named T0 T J D.f7
  have G__law_plain : Df P w K mg base "_law_plain" 1 [] (spPlain C) := ok__law_plain T0 T D.f9
  have G__law_bare : Df P w K mg base "_law_bare" 3 [] (spBare C) := ok__law_bare T0 T J D.f8 D.f9
  have G__law_fields : Df P w K mg base "_law_fields" 1 ["made"] (spFields C) := ok__law_fields T0 T J D.f10
  have G__law_kinds : Df P w K mg base "_law_kinds" 1 ["made"] (spKinds K C) := ok__law_kinds T0 T D.f5
  have G__law_kinds_right : Df P w K mg base "_law_kinds_right" 2 ["made"] (spKR K C) := ok__law_kinds_right T0 T D.f11 D.f5
  refine F.ok sc_law (fun vs H Q E h => ?_) (fun cdv A outer s H vs Q E hr h => ?_)
  · obtain ⟨a, ns, rfl, _⟩ := h
    rfl
  · obtain ⟨a, ns, rfl, hS, hlen, q⟩ := h
    refine ⟨_, pss_cons (ps_for PassesOwn.never rfl (pi_range1 (by rfl) T0.m_range (pa_cons (pe_op op_add (pe_int) (pe_callB (call_min2 rfl) (by rfl) T0.m_min (by decide +kernel) (pa_cons (pe_int) (pa_cons (pe_callB call_len_seq (by rfl) T0.m_len (by decide +kernel) (pa_cons (pv 0) (pa_nil))) (pa_nil))))) (pa_nil))) (pg_name (i := 1) sc_law.nd rfl (by first | exact Or.inl rfl | exact Or.inr rfl)) (pss_cons (ps_set (i := 2) sc_law.nd rfl (by first | exact Or.inl rfl | exact Or.inr rfl) (pe_df G__law_purse (hr.mono (by decide)) (by rfl) (pa_cons (pv 0) (pa_cons (pv 1) (pa_nil)))))
    (pss_cons (ps_set (i := 3) sc_law.nd rfl (by first | exact Or.inl rfl | exact Or.inr rfl) (pe_lst (pa_cons (pe_non) (pa_cons (pe_bl) (pa_cons (pe_int) (pa_cons (pe_int) (pa_cons (pe_op op_powB (pe_int) (pe_int)) (pa_cons (pe_str) (pa_cons (pe_str) (pa_cons (pe_str) (pa_cons (pe_tup (pa_nil)) (pa_cons (pe_tup (pa_cons (pe_str) (pa_nil))) (pa_cons (pe_tup (pa_cons (pe_str) (pa_cons (pe_str) (pa_nil)))) (pa_cons (pe_lst (pa_cons (pe_str) (pa_nil))) (pa_cons (pe_lst (pa_nil)) (pa_nil))))))))))))))))
    (pss_cons (ps_expr (pe_bm PySem.F.plainAttrs_list PySem.F.slot_list_append PySem.F.type_list_append mt_append (pv 3) (pa_cons (pe_tup (pa_cons (pe_tup (pa_cons (pe_str) (pa_cons (pe_int) (pa_nil)))) (pa_cons (pe_tup (pa_cons (pe_str) (pa_cons (pe_int) (pa_nil)))) (pa_nil)))) (pa_nil))))
    (pss_cons (ps_set (i := 4) sc_law.nd rfl (by first | exact Or.inl rfl | exact Or.inr rfl) (pe_ix ix_list (pv 3) (pe_df G__law_draw (hr.mono (by decide)) (by rfl) (pa_cons (pv 2) (pa_cons (pe_int) (pa_nil)))) (fun _ _ => rfl)))
    (pss_one (ps_for PassesOwn.never rfl (pi_list (pe_lst (pa_cons (pe_df G__law_placed (hr.mono (by decide)) (by rfl) (pa_cons (pv 4) (pa_nil))) (pa_cons (pe_df G__law_named (hr.mono (by decide)) (by rfl) (pa_cons (pv 4) (pa_nil))) (pa_nil))))) (pg_name (i := 5) sc_law.nd rfl (by first | exact Or.inl rfl | exact Or.inr rfl)) (pss_one (ps_if (PW.pt (pw_or (pt_cmpR (op_neD hr.units) (pe_df G__law_fields (hr.mono (by decide)) (by rfl) (pa_cons (pv 5) (pa_nil))) (pe_op op_rep (pe_lst (pa_cons (pv 4) (pa_nil))) (pe_int)) (nomark _)) (pw_or1 (pt_not (pt_val (pe_df G__law_kinds_right (hr.mono (by decide)) (by rfl) (pa_cons (pe_op op_cat (pv 5) (pe_df0 G__law_plain (hr.mono (by decide)) (by rfl))) (pa_nil)))))))) (pss_one (ps_ret (pe_bl))) (pss_nil))))))))))
    (pss_cons (ps_set (i := 6) sc_law.nd rfl (by first | exact Or.inl rfl | exact Or.inr rfl) (pe_exn PySem.F.excBase_ValueError (T.x 21 (by decide) (by decide)) (T.g 21 _ rfl) (T.o 21 (by decide)).kC (by rfl)))
    (pss_cons (ps_if (PW.pt (pw_or (pt_not (pt_val (pe_callB call_isX (by rfl) T0.m_isinstance (by decide +kernel) (pa_cons (pv 6) (pa_cons (pe_bltn (v := .ty "ValueError") (by rfl) T0.m_ValueError boot_ValueError rfl) pa_nil))))) (pw_or (pt_val (pe_callB call_isX (by rfl) T0.m_isinstance (by decide +kernel) (pa_cons (pe_exb exb_ValueError (by rfl) T0.m_ValueError boot_ValueError) (pa_cons (pe_glob (v := .ref (C 21)) (by rfl) (T.g 21 _ rfl) rfl) pa_nil)))) (pw_or1 (pt_cmpR op_in_seq (pe_bl) (pe_slice sl_list (pe_df G__law_kinds (hr.mono (by decide)) (by rfl) (pa_cons (pv 6) (pa_nil))) (po_none) (po_some (pe_int))) (by rfl)))))) (pss_one (ps_ret (pe_bl))) (pss_nil))
    (pss_one (ps_ret (pe_df G__law_kinds_right (hr.mono (by decide)) (by rfl) (pa_cons (pe_df0 G__law_bare (hr.mono (by decide)) (by rfl)) (pa_nil))))))), ?_⟩
    -- for at in range(1 + min(5, len(script)))
    refine ⟨.ref a, rfl, a, _, rfl, .inl hS, _, _, rfl, _, _, rfl, rfl, _, rfl, (by split <;> omega), (by split <;> omega), for_range (lo := 0) (fun i σ H' => ∃ y1 y2 y3 y4 y5, σ = [some (.ref a), y1, y2, y3, y4, y5, none] ∧ Same H H') ⟨none, none, none, none, none, rfl, Same.refl H⟩ ?_ ?_⟩
    · rintro i σ H1 hi ⟨y1, y2, y3, y4, y5, rfl, s1⟩
      have hi63 : i ≤ 63 := by
        have hle : (1 + if ((ns.map V.int).length : Int) < 5 then ((ns.map V.int).length : Int) else 5) ≤ 6 := by split <;> omega
        omega
      -- the purse, the values
      refine ⟨.ref a, rfl, _, rfl, a, ns, i, (by rw [Int.zero_add]; rfl), s1.seq hS, hi63, fun p p0 p1 p2 np B => ?_⟩
      have f1 : (upd H1 p (.lst [.int p0, .int p1, .int p2])) p = some (.lst [.int p0, .int p1, .int p2]) := upd_same
      have k1 : Same H1 (upd H1 p (.lst [.int p0, .int p1, .int p2])) := same_upd np
      generalize upd H1 p (.lst [.int p0, .int p1, .int p2]) = H2 at f1 k1 ⊢
      refine ⟨_, _, rfl, rfl, ⟨by decide, by decide +kernel⟩, ?_⟩
      refine ⟨(by decide), fun t1 n1 => ?_⟩
      have f2 : (upd H2 t1 (.tup [])) t1 = some (.tup []) := upd_same
      have k2 : Same H2 (upd H2 t1 (.tup [])) := same_upd n1
      generalize upd H2 t1 (.tup []) = H3 at f2 k2 ⊢
      refine ⟨(by decide), fun t2 n2 => ?_⟩
      have f3 : (upd H3 t2 (.tup [.str "a"])) t2 = some (.tup [.str "a"]) := upd_same
      have k3 : Same H3 (upd H3 t2 (.tup [.str "a"])) := same_upd n2
      generalize upd H3 t2 (.tup [.str "a"]) = H4 at f3 k3 ⊢
      refine ⟨(by decide), fun t3 n3 => ?_⟩
      have f4 : (upd H4 t3 (.tup [.str "a", .str "b"])) t3 = some (.tup [.str "a", .str "b"]) := upd_same
      have k4 : Same H4 (upd H4 t3 (.tup [.str "a", .str "b"])) := same_upd n3
      generalize upd H4 t3 (.tup [.str "a", .str "b"]) = H5 at f4 k4 ⊢
      refine ⟨(by decide), fun l1 n4 => ?_⟩
      have f5 : (upd H5 l1 (.lst [.str "a"])) l1 = some (.lst [.str "a"]) := upd_same
      have k5 : Same H5 (upd H5 l1 (.lst [.str "a"])) := same_upd n4
      generalize upd H5 l1 (.lst [.str "a"]) = H6 at f5 k5 ⊢
      refine ⟨(by decide), fun l2 n5 => ?_⟩
      have f6 : (upd H6 l2 (.lst [])) l2 = some (.lst []) := upd_same
      have k6 : Same H6 (upd H6 l2 (.lst [])) := same_upd n5
      generalize upd H6 l2 (.lst []) = H7 at f6 k6 ⊢
      refine ⟨(by show 13 ≤ sizeLine; decide), fun S nS => ?_⟩
      have f7 : (upd H7 S (.lst [.non, .bl true, .int 0, .int 7, .int (10 ^ (30 : Int).toNat), .str "", .str "zz", .str "a {0}", .ref t1, .ref t2, .ref t3, .ref l1, .ref l2])) S = some (.lst [.non, .bl true, .int 0, .int 7, .int (10 ^ (30 : Int).toNat), .str "", .str "zz", .str "a {0}", .ref t1, .ref t2, .ref t3, .ref l1, .ref l2]) := upd_same
      have k7 : Same H7 (upd H7 S (.lst [.non, .bl true, .int 0, .int 7, .int (10 ^ (30 : Int).toNat), .str "", .str "zz", .str "a {0}", .ref t1, .ref t2, .ref t3, .ref l1, .ref l2])) := same_upd nS
      generalize (upd H7 S (.lst [.non, .bl true, .int 0, .int 7, .int (10 ^ (30 : Int).toNat), .str "", .str "zz", .str "a {0}", .ref t1, .ref t2, .ref t3, .ref l1, .ref l2])) = H8 at f7 k7 ⊢
      -- some.append(..)
      refine ⟨.ref S, rfl, .inl ⟨rfl, _, SqL.of f7⟩, (by decide), fun t4 n6 => ?_⟩
      have f8 : (upd H8 t4 (.tup [.str "ana", .int 1])) t4 = some (.tup [.str "ana", .int 1]) := upd_same
      have k8 : Same H8 (upd H8 t4 (.tup [.str "ana", .int 1])) := same_upd n6
      generalize upd H8 t4 (.tup [.str "ana", .int 1]) = H9 at f8 k8 ⊢
      refine ⟨(by decide), fun t5 n7 => ?_⟩
      have f9 : (upd H9 t5 (.tup [.str "bo", .int 1])) t5 = some (.tup [.str "bo", .int 1]) := upd_same
      have k9 : Same H9 (upd H9 t5 (.tup [.str "bo", .int 1])) := same_upd n7
      generalize upd H9 t5 (.tup [.str "bo", .int 1]) = H10 at f9 k9 ⊢
      refine ⟨(by show 2 ≤ sizeLine; decide), fun t6 n8 => ?_⟩
      have f10 : (upd H10 t6 (.tup [.ref t4, .ref t5])) t6 = some (.tup [.ref t4, .ref t5]) := upd_same
      have k10 : Same H10 (upd H10 t6 (.tup [.ref t4, .ref t5])) := same_upd n8
      generalize upd H10 t6 (.tup [.ref t4, .ref t5]) = H11 at f10 k10 ⊢
      have f7' := k10 _ _ (k9 _ _ (k8 _ _ f7))
      refine ⟨S, _, _, rfl, rfl, f7', (by show 13 < sizeLine; decide), ?_⟩
      have j27 : Same H2 H7 := ((((k2.trans k3).trans k4).trans k5).trans k6)
      have j8 : Same H8 H11 := (k8.trans k9).trans k10
      have j11 : Same H1 H11 := (((k1.trans j27).trans k7).trans j8)
      have nS1 : H1 S = none := (k1.trans j27).free nS
      have o11 : Objs H11 t1 t2 t3 l1 l2 t4 t5 t6 := ⟨j8 _ _ (k7 _ _ (k6 _ _ (k5 _ _ (k4 _ _ (k3 _ _ f2))))), j8 _ _ (k7 _ _ (k6 _ _ (k5 _ _ (k4 _ _ f3)))), j8 _ _ (k7 _ _ (k6 _ _ (k5 _ _ f4))), j8 _ _ (k7 _ _ (k6 _ _ f5)), j8 _ _ (k7 _ _ f6), k10 _ _ (k9 _ _ f8), k10 _ _ f9, f10⟩
      have p11 : H11 p = some (.lst [.int p0, .int p1, .int p2]) := j8 _ _ (k7 _ _ (j27 _ _ f1))
      have nePS : p ≠ S := ne_of p11 f7' (fun z => nomatch z)
      have o12 : Objs (upd H11 S (.lst (vals t1 t2 t3 l1 l2 t6))) t1 t2 t3 l1 l2 t4 t5 t6 := o11.but f7' (fun z => nomatch z)
      have p12 : (upd H11 S (.lst (vals t1 t2 t3 l1 l2 t6))) p = some (.lst [.int p0, .int p1, .int p2]) := by rw [upd_ne nePS]; exact p11
      have j12 : Same H1 (upd H11 S (.lst (vals t1 t2 t3 l1 l2 t6))) := fun b o e => by rw [upd_ne (ne_of_none e nS1)]; exact j11 b o e
      have S12 : (upd H11 S (.lst (vals t1 t2 t3 l1 l2 t6))) S = some (.lst (vals t1 t2 t3 l1 l2 t6)) := upd_same
      change tSeq _ _ _ _ (upd H11 S (.lst (vals t1 t2 t3 l1 l2 t6)))
      generalize upd H11 S (.lst (vals t1 t2 t3 l1 l2 t6)) = H12 at o12 p12 j12 S12 ⊢
      -- value = some[..]
      refine ⟨.ref S, rfl, .ref p, rfl, p, p0, p1, p2, 63000, 14, rfl, p12, B, by decide, by decide, by decide, fun d q0 q1 q2 d0 d1 B' => ?_⟩
      have o13 : Objs (upd H12 p (.lst [.int q0, .int q1, .int q2])) t1 t2 t3 l1 l2 t4 t5 t6 := o12.but p12 (fun z => nomatch z)
      have S13 : (upd H12 p (.lst [.int q0, .int q1, .int q2])) S = some (.lst (vals t1 t2 t3 l1 l2 t6)) := by rw [upd_ne nePS.symm]; exact S12
      have j13 : Same H1 (upd H12 p (.lst [.int q0, .int q1, .int q2])) := fun b o e => by rw [upd_ne (ne_of_none e np)]; exact j12 b o e
      generalize upd H12 p (.lst [.int q0, .int q1, .int q2]) = H13 at o13 S13 j13 ⊢
      obtain ⟨v, dd, e1, e2, e3⟩ := vals_dp (K := K) o13 d d0 d1
      refine ⟨S, _, d, v, rfl, rfl, SqL.of S13, e1, ?_⟩
      -- for made in [placed, named]
      refine ⟨v, rfl, v, rfl, fun pa xs1 G1 r1 h1 m1 => ⟨v, rfl, v, rfl, fun pb xs2 G2 r2 h2 m2 => ⟨(by show 2 ≤ sizeLine; decide), fun L nL => ?_⟩⟩⟩
      have g1 : Same H13 (upd G2 L (.lst [.ref pa, .ref pb])) := (r1.trans r2).trans (same_upd nL)
      have g2 := (r2.trans (same_upd nL (o := .lst [.ref pa, .ref pb])))
      have ha := g2 _ _ h1
      have hb := (same_upd nL (o := .lst [.ref pa, .ref pb])) _ _ h2
      have ma := m1.same g2
      have mb := m2.same (same_upd nL (o := .lst [.ref pa, .ref pb]))
      have hL : (upd G2 L (.lst [.ref pa, .ref pb])) L = some (.lst [.ref pa, .ref pb]) := upd_same
      generalize upd G2 L (.lst [.ref pa, .ref pb]) = G3 at g1 g2 ha hb ma mb hL ⊢
      refine ⟨L, rfl, ⟨_, SqL.of hL⟩, for_list (K := K) (a := L) (xs := [.ref pa, .ref pb]) (fun _ σ H' => ∃ y5, σ = [some (.ref a), some (.int (0 + (i : Nat))), some (.ref p), some (.ref S), some v, y5, none] ∧ Same G3 H') ⟨_, rfl, Same.refl _⟩ (fun _ σ H' _ h => h.elim fun _ h => h.2.seq (SqL.of hL)) ?_ ?_⟩
      · rintro j y σ H' hj ⟨y5', rfl, s3⟩
        obtain ⟨q0, xs0, rfl, hq, he⟩ : ∃ q0 xs0, y = .ref q0 ∧ H' q0 = some (.lst xs0) ∧ Errs H' v (flds C) xs0 := by
          match j, hj with
          | 0, hj => exact ⟨pa, xs1, (Option.some.inj hj).symm, s3 _ _ ha, ma.same s3⟩
          | 1, hj => exact ⟨pb, xs2, (Option.some.inj hj).symm, s3 _ _ hb, mb.same s3⟩
        refine ⟨.ref q0, rfl, q0, xs0, v, rfl, hq, he, fun pf Hf sf hf => ⟨v, rfl, (by show 1 ≤ sizeLine; decide), fun l nl => ⟨l, 13, [v], rfl, rfl, upd_same, by decide, by decide, (by show 13 ≤ sizeLine; decide), fun r nr => ?_⟩⟩⟩
        have u1 := ((sf.trans (same_upd nl (o := .lst [v]))).trans (same_upd nr (o := .lst (List.replicate (13 : Int).toNat [v]).flatten)))
        have u2 := ((same_upd nl (o := .lst [v])).trans (same_upd nr (o := .lst (List.replicate (13 : Int).toNat [v]).flatten)))
        have ee := ((e2.same g1).same s3).same u1
        refine ⟨_, _, .lst (SqL.of (u2 _ _ hf)) (dp_all_map ee 13), .lst (SqL.of upd_same) (dp_all_map ee 13), e3, e3, _, rfl, ?_⟩
        rw [SeqAt.eqv_refl _ (SeqAt.canLay_of_shaped e3)]
        refine iteF ⟨.ref q0, rfl, rfl, fun pp zs H5 s5 h5 b5 => ⟨q0, pp, xs0, zs, rfl, rfl, s5 _ _ (u1 _ _ hq), h5, ?_, fun pc nc => ?_⟩⟩
        · rw [he.length, b5.length]
          exact Nat.le_of_ble_eq_true rfl
        · refine ⟨pc, xs0 ++ zs, rfl, upd_same, made_ev T ⟨xs0, zs, rfl, ((he.same u1).same s5).same (same_upd nc), b5.same (same_upd nc)⟩, fun H6 s6 => ⟨true, rfl, iteF ⟨_, rfl, ?_⟩⟩⟩
          exact ((s3.trans u1).trans s5).trans ((same_upd nc).trans s6)
      · rintro σ H' ⟨y5', rfl, s3⟩
        exact ⟨_, _, _, _, _, rfl, ((s1.trans j13).trans g1).trans s3⟩
    · rintro σ H1 ⟨y1, y2, y3, y4, y5, rfl, s1⟩
      -- base = TaleError()
      intro b nb
      have e21 : (upd H1 b (ExO (.ref (C 21)) b)) b = some (ExO (.ref (C 21)) b) := upd_same
      have hev : ExV K (upd H1 b (ExO (.ref (C 21)) b)) b (.ref (C 21)) := .own e21 (T.a 21 (by decide))
      refine ⟨.ref b, rfl, b, .ty "ValueError", _, .type "ValueError", true, rfl, .ty _, hev, T.kv 21 (by decide), true, rfl, iteF ?_⟩
      intro e ne
      refine ⟨e, .ref (C 21), .type "ValueError", .ref (C 21), false, rfl, .own _, .blt upd_same PySem.F.excAttr_ValueError (by kernel_rfl) (by kernel_rfl) (by decide +kernel), T.ve, false, rfl, iteF ?_⟩
      refine ⟨.ref b, rfl, b, .ref (C 21), fun j => decide (21 = j) || decide (j = 21), rfl, hev.same (same_upd ne), fun j hj => T.k 21 j (by decide) hj, T.kv 21 (by decide), fun pk Hk sk hk => ⟨21, rfl, pk, _, rfl, SqL.of hk, fun c nc => ?_⟩⟩
      refine ⟨c, _, rfl, .inl (SqL.of upd_same), rfl, (by decide +kernel), _, rfl, ?_⟩
      have z : inV (.bl true) (cutV (kl fun j => decide (21 = j) || decide (j = 21)) none (some 21)) = false := by decide +kernel
      show if (if false = true then _ else inV (.bl true) (cutV (kl fun j => decide (21 = j) || decide (j = 21)) none (some 21))) = true then _ else _
      rw [if_neg Bool.false_ne_true, z]
      exact iteF ⟨rfl, fun p xs H5 s5 h5 m5 => ⟨p, xs, rfl, h5, made_ev T m5, fun H6 s6 => q H6⟩⟩
end
end Lw
set_option Elab.async false
set_option linter.all false
set_option maxRecDepth 100000
set_option maxHeartbeats 4000000
namespace Lw
open PySem PySem.Spec PyProof.Rows L2
/-- what is asked of the written part for one class -/
structure Cl (K : PySem.W.Frag) (mg : Str → Option Value) (x : Str) (C : Addr) : Prop where
  g : mg x = some (.ref C)
  o : OexC K C
  a : XcA K C
section
variable {K : PySem.W.Frag} {mg : Str → Option Value} {h : Heap} {P : Program} {w : World} {base : Heap}
theorem cl_mk {x : Str} {C N : Addr} {nm q : Str} {bs bm : List Value} {sn : List Str} {sub : List Value} {ab : Bool} {col : Option Bool} {dd : Option Addr} {k0 k1 k2 k3 k5 : Option Value} (X : K.In h) (G : h.Ns mainGlobals mg)
    (h1 : PySem.W.nsIn K mainGlobals x = some (some (.ref C))) (h2 : K.lookup C = some (excClassObj nm q C N bs bm true sn sub ab col dd k0 k1 k2 k3 k5 "ValueError.__new__")) (h3 : PySem.HandSPX.refsVE bm = true)
    (h4 : PySem.W.findIn K (.ref C) "__setattr__" = some (some (.builtin "object.__setattr__"))) (h5 : PySem.W.subIn K (.ref C) (.type "BaseException") = some true) (h6 : PySem.W.typeIn K (.ref C) = some (.type "type")) (h7 : PySem.W.keepIn K (.ref C) = true)
    (h8 : PySem.W.findIn K (.ref C) "__getattribute__" = some (some (.builtin "BaseException.__getattribute__"))) (h9 : PySem.W.findIn K (.ref C) "__getattr__" = some none) (h10 : PySem.W.hasDictIn K C = true)
    (h11 : PySem.W.findIn K (.ref C) "__class__" = some (some (.builtin "object.__class__"))) (h12 : PySem.W.specialIn K (.builtin "object.__class__") "__get__" = some (some (.builtin "getset_descriptor.__get__")))
    (h13 : PySem.W.takesIn K (.builtin "object.__class__") = some true) (h14 : PySem.W.mroIn K C (.type "object") = some true) : Cl K mg x C :=
  ⟨PySem.W.mg_of X G h1, ⟨⟨nm, q, N, bs, bm, sn, sub, ab, col, dd, k0, k1, k2, k3, k5, h2, h3⟩, h4, h5, h6, h7⟩, ⟨h8, h9, h5, h10, h11, h12, h13, h14⟩⟩
theorem fnD_mk {x qual : Str} {st : Stmt} {f T : Addr} {oc : Value} {od an odT : Option Addr} {osl oslT : Array (Option Value)} {kV doc pm cdv ct ocT : Value} {n : Nat}
    (l : K.lookup f = some ⟨oc, od, .func (PySem.W.fnOf x qual (defArgs st) (defBody st) (defScope st) (.ref T) kV doc pm an cdv ct), osl⟩) (c : PySem.W.codeIn K cdv qual = true) (k : PySem.W.keepIn K (.ref f) = true)
    (lT : K.lookup T = some ⟨ocT, odT, .seq #[.none] n, oslT⟩) : FunD K x qual (defArgs st) (defBody st) (defScope st) [.non] [] f (PySem.W.fnOf x qual (defArgs st) (defBody st) (defScope st) (.ref T) kV doc pm an cdv ct) :=
  ⟨⟨oc, od, .ref T, kV, doc, pm, an, cdv, ct, osl, rfl, l, c, .inr ⟨by simp, T, _, [.none], n, rfl, lT, rfl, .cons rfl .nil⟩, .inl rfl⟩, k⟩
theorem fn_mk {x : Str} {st : Stmt} {f : Addr} {oc : Value} {od an : Option Addr} {osl : Array (Option Value)} {kV doc pm cdv ct : Value} (X : K.In h) (G : h.Ns mainGlobals mg) (a : PySem.W.nsIn K mainGlobals x = some (some (.ref f)))
    (l : K.lookup f = some ⟨oc, od, .func (PySem.W.fnOf x x (defArgs st) (defBody st) (defScope st) .none kV doc pm an cdv ct), osl⟩) (c : PySem.W.codeIn K cdv x = true) (k : PySem.W.keepIn K (.ref f) = true) : Fn K mg x st :=
  ⟨_, _, fun_mk l c k, PySem.W.mg_of X G a⟩
/-- the classes at the places of a list: what isinstance says of all of them, in one look -/
def kitAll (K : PySem.W.Frag) (cs : List Addr) : Bool :=
  (List.range 22).all fun i => (List.range 22).all fun j => decide (PySem.W.kitOne K (.ref (cs.getD i 0)) (.ref (cs.getD j 0)) = some (decide (i = j) || decide (j = 21)))
theorem kitAll_of {cs : List Addr} (e : kitAll K cs = true) (i j : Nat) (hi : i < 22) (hj : j < 22) : PySem.W.kitOne K (.ref (cs.getD i 0)) (.ref (cs.getD j 0)) = some (decide (i = j) || decide (j = 21)) := by
  unfold kitAll at e
  rw [List.all_eq_true] at e
  have e1 := e i (List.mem_range.mpr hi)
  rw [List.all_eq_true] at e1
  exact of_decide_eq_true (e1 j (List.mem_range.mpr hj))
/-- an __init__ as it stands behind the top -/
structure InF (K : PySem.W.Frag) (C : Addr) (qual fld : Str) (st : Stmt) (fI : Addr) (fd : FuncData) : Prop where
  iC : PySem.W.findIn K (.ref C) "__init__" = some (some (.ref fI))
  tI : PySem.W.typeIn K (.ref fI) = some (.type "function")
  no : PySem.W.findIn K (.ref C) fld = some none
  F : FunD K "__init__" qual (defArgs st) (defBody st) (defScope st) [.non] [] fI fd
theorem inF_mk {qual fld : Str} {C : Addr} {st : Stmt} {f T : Addr} {oc : Value} {od an odT : Option Addr} {osl oslT : Array (Option Value)} {kV doc pm cdv ct ocT : Value} {n : Nat} (_X : K.In h)
    (iC : PySem.W.findIn K (.ref C) "__init__" = some (some (.ref f))) (tI : PySem.W.typeIn K (.ref f) = some (.type "function")) (no : PySem.W.findIn K (.ref C) fld = some none)
    (l : K.lookup f = some ⟨oc, od, .func (PySem.W.fnOf "__init__" qual (defArgs st) (defBody st) (defScope st) (.ref T) kV doc pm an cdv ct), osl⟩) (c : PySem.W.codeIn K cdv qual = true) (k : PySem.W.keepIn K (.ref f) = true)
    (lT : K.lookup T = some ⟨ocT, odT, .seq #[.none] n, oslT⟩) : InF K C qual fld st f (PySem.W.fnOf "__init__" qual (defArgs st) (defBody st) (defScope st) (.ref T) kV doc pm an cdv ct) :=
  ⟨iC, tI, no, fnD_mk l c k lT⟩
theorem law_mk {C : Nat → Addr} {f fa : Addr} {oc : Value} {od an : Option Addr} {osl : Array (Option Value)} {kV doc pm cdv ct : Value} (X : K.In h) (G : h.Ns mainGlobals mg) (hfa : mg "law" = some (.ref fa)) (a : PySem.W.nsIn K mainGlobals "law" = some (some (.ref f)))
    (l : K.lookup f = some ⟨oc, od, .func (PySem.W.fnOf "law" "law" (defArgs s_law) (defBody s_law) (defScope s_law) .none kV doc pm an cdv ct), osl⟩) (c : PySem.W.codeIn K cdv "law" = true) (k : PySem.W.keepIn K (.ref f) = true)
    (T0 : Txt K mg) (T : Tc K mg C) (J : ∀ (base : Heap) (i : Nat) (f : Str), fldNames[i]? = some f → Ini P w K mg base (C i) f) (D : Defs K mg) :
    ∃ fd : FuncData, (∀ (s : Shared) (v : Value), BindsTo s fd ⟨[v], []⟩ [("script", v)]) ∧ ∀ base : Heap, K.In base → base.Ns mainGlobals mg → FnOk P w K mg base CX0 4 fa fd ["script"] (spLaw K) := by
  have e := hfa.symm.trans (PySem.W.mg_of X G a)
  cases e
  exact ⟨_, fun s v => .of_eq rfl, fun base _ _ => ok_law T0 T (J base) D (fun_mk l c k)⟩
def veBases : List Value := [.type "ValueError", .type "Exception", .type "BaseException", .type "object"]
def exAll (K : PySem.W.Frag) (cs : List Addr) : Bool := (List.range 22).all fun i => decide (i < 13) || PySem.W.excIn K (cs.getD i 0) veBases "ValueError.__new__"
theorem exAll_of {cs : List Addr} (e : exAll K cs = true) (i : Nat) (h1 : 13 ≤ i) (h2 : i < 22) : PySem.W.excIn K (cs.getD i 0) veBases "ValueError.__new__" = true := by
  unfold exAll at e
  rw [List.all_eq_true] at e
  have e1 := e i (List.mem_range.mpr h2)
  rw [decide_eq_false (by omega)] at e1
  exact e1
def kvAll (K : PySem.W.Frag) (cs : List Addr) : Bool := (List.range 22).all fun i => decide (PySem.W.kitOne K (.ref (cs.getD i 0)) (.type "ValueError") = some true)
theorem kvAll_of {cs : List Addr} (e : kvAll K cs = true) (i : Nat) (h2 : i < 22) : PySem.W.kitOne K (.ref (cs.getD i 0)) (.type "ValueError") = some true := by
  unfold kvAll at e
  rw [List.all_eq_true] at e
  exact of_decide_eq_true (e i (List.mem_range.mpr h2))
def ca : List Addr := [45, 65, 85, 105, 125, 145, 165, 185, 205, 225, 245, 265, 285, 297, 309, 321, 333, 345, 357, 369, 381, 24]
theorem tc_mk (_X : K.In h) (c0 : Cl K mg "InvalidTale" 45) (c1 : Cl K mg "InvalidTimeline" 65) (c2 : Cl K mg "InvalidTellers" 85) (c3 : Cl K mg "InvalidReport" 105) (c4 : Cl K mg "InvalidText" 125) (c5 : Cl K mg "UnknownMoment" 145) (c6 : Cl K mg "InvalidName" 165) (c7 : Cl K mg "Conflict" 185) (c8 : Cl K mg "OutOfRange" 205) (c9 : Cl K mg "NoFit" 225) (c10 : Cl K mg "Mismatch" 245) (c11 : Cl K mg "InvalidPlace" 265) (c12 : Cl K mg "InvalidAnswer" 285) (c13 : Cl K mg "NoRoad" 297) (c14 : Cl K mg "NoConflict" 309) (c15 : Cl K mg "TooManyTellers" 321) (c16 : Cl K mg "NothingToUndo" 333) (c17 : Cl K mg "TooLarge" 345) (c18 : Cl K mg "NotForest" 357) (c19 : Cl K mg "NothingKnown" 369) (c20 : Cl K mg "NoQuestion" 381) (c21 : Cl K mg "TaleError" 24)
    (h1 : exAll K ca = true) (h2 : kitAll K ca = true) (h3 : kvAll K ca = true) (h4 : PySem.W.kitOne K (.type "ValueError") (.ref 24) = some false) : Tc K mg (fun i => ca.getD i 0) := by
  refine ⟨fun i x h => ?_, fun i h => ?_, fun i h => ?_, exAll_of h1, kitAll_of h2, kvAll_of h3, h4⟩
  · match i, h with
    | 0, h => exact (Option.some.inj h) ▸ c0.g
    | 1, h => exact (Option.some.inj h) ▸ c1.g
    | 2, h => exact (Option.some.inj h) ▸ c2.g
    | 3, h => exact (Option.some.inj h) ▸ c3.g
    | 4, h => exact (Option.some.inj h) ▸ c4.g
    | 5, h => exact (Option.some.inj h) ▸ c5.g
    | 6, h => exact (Option.some.inj h) ▸ c6.g
    | 7, h => exact (Option.some.inj h) ▸ c7.g
    | 8, h => exact (Option.some.inj h) ▸ c8.g
    | 9, h => exact (Option.some.inj h) ▸ c9.g
    | 10, h => exact (Option.some.inj h) ▸ c10.g
    | 11, h => exact (Option.some.inj h) ▸ c11.g
    | 12, h => exact (Option.some.inj h) ▸ c12.g
    | 13, h => exact (Option.some.inj h) ▸ c13.g
    | 14, h => exact (Option.some.inj h) ▸ c14.g
    | 15, h => exact (Option.some.inj h) ▸ c15.g
    | 16, h => exact (Option.some.inj h) ▸ c16.g
    | 17, h => exact (Option.some.inj h) ▸ c17.g
    | 18, h => exact (Option.some.inj h) ▸ c18.g
    | 19, h => exact (Option.some.inj h) ▸ c19.g
    | 20, h => exact (Option.some.inj h) ▸ c20.g
    | 21, h => exact (Option.some.inj h) ▸ c21.g
    | n + 22, h => exact absurd h (by simp [clsNames])
  · match i, h with
    | 0, h => exact c0.o
    | 1, h => exact c1.o
    | 2, h => exact c2.o
    | 3, h => exact c3.o
    | 4, h => exact c4.o
    | 5, h => exact c5.o
    | 6, h => exact c6.o
    | 7, h => exact c7.o
    | 8, h => exact c8.o
    | 9, h => exact c9.o
    | 10, h => exact c10.o
    | 11, h => exact c11.o
    | 12, h => exact c12.o
    | 13, h => exact c13.o
    | 14, h => exact c14.o
    | 15, h => exact c15.o
    | 16, h => exact c16.o
    | 17, h => exact c17.o
    | 18, h => exact c18.o
    | 19, h => exact c19.o
    | 20, h => exact c20.o
    | 21, h => exact c21.o
    | n + 22, h => exact absurd h (by omega)
  · match i, h with
    | 0, h => exact c0.a
    | 1, h => exact c1.a
    | 2, h => exact c2.a
    | 3, h => exact c3.a
    | 4, h => exact c4.a
    | 5, h => exact c5.a
    | 6, h => exact c6.a
    | 7, h => exact c7.a
    | 8, h => exact c8.a
    | 9, h => exact c9.a
    | 10, h => exact c10.a
    | 11, h => exact c11.a
    | 12, h => exact c12.a
    | 13, h => exact c13.a
    | 14, h => exact c14.a
    | 15, h => exact c15.a
    | 16, h => exact c16.a
    | 17, h => exact c17.a
    | 18, h => exact c18.a
    | 19, h => exact c19.a
    | 20, h => exact c20.a
    | 21, h => exact c21.a
    | n + 22, h => exact absurd h (by omega)
theorem ini_mk (_X : K.In h) {g0 : Addr} {d0 : FuncData} (f0 : InF K 45 "InvalidTale.__init__" "problem" s_ini0 g0 d0) {g1 : Addr} {d1 : FuncData} (f1 : InF K 65 "InvalidTimeline.__init__" "problem" s_ini1 g1 d1) {g2 : Addr} {d2 : FuncData} (f2 : InF K 85 "InvalidTellers.__init__" "problem" s_ini2 g2 d2) {g3 : Addr} {d3 : FuncData} (f3 : InF K 105 "InvalidReport.__init__" "problem" s_ini3 g3 d3) {g4 : Addr} {d4 : FuncData} (f4 : InF K 125 "InvalidText.__init__" "line" s_ini4 g4 d4) {g5 : Addr} {d5 : FuncData} (f5 : InF K 145 "UnknownMoment.__init__" "name" s_ini5 g5 d5) {g6 : Addr} {d6 : FuncData} (f6 : InF K 165 "InvalidName.__init__" "name" s_ini6 g6 d6) {g7 : Addr} {d7 : FuncData} (f7 : InF K 185 "Conflict.__init__" "ring" s_ini7 g7 d7) {g8 : Addr} {d8 : FuncData} (f8 : InF K 205 "OutOfRange.__init__" "count" s_ini8 g8 d8) {g9 : Addr} {d9 : FuncData} (f9 : InF K 225 "NoFit.__init__" "number" s_ini9 g9 d9) {g10 : Addr} {d10 : FuncData} (f10 : InF K 245 "Mismatch.__init__" "number" s_ini10 g10 d10) {g11 : Addr} {d11 : FuncData} (f11 : InF K 265 "InvalidPlace.__init__" "index" s_ini11 g11 d11) {g12 : Addr} {d12 : FuncData} (f12 : InF K 285 "InvalidAnswer.__init__" "first" s_ini12 g12 d12) (i : Nat) (f : Str) (h : fldNames[i]? = some f) : Ini P w K mg base (ca.getD i 0) f := by
  match i, h with
  | 0, h => exact (Option.some.inj h) ▸ ini0 f0.F f0.iC f0.tI f0.no
  | 1, h => exact (Option.some.inj h) ▸ ini1 f1.F f1.iC f1.tI f1.no
  | 2, h => exact (Option.some.inj h) ▸ ini2 f2.F f2.iC f2.tI f2.no
  | 3, h => exact (Option.some.inj h) ▸ ini3 f3.F f3.iC f3.tI f3.no
  | 4, h => exact (Option.some.inj h) ▸ ini4 f4.F f4.iC f4.tI f4.no
  | 5, h => exact (Option.some.inj h) ▸ ini5 f5.F f5.iC f5.tI f5.no
  | 6, h => exact (Option.some.inj h) ▸ ini6 f6.F f6.iC f6.tI f6.no
  | 7, h => exact (Option.some.inj h) ▸ ini7 f7.F f7.iC f7.tI f7.no
  | 8, h => exact (Option.some.inj h) ▸ ini8 f8.F f8.iC f8.tI f8.no
  | 9, h => exact (Option.some.inj h) ▸ ini9 f9.F f9.iC f9.tI f9.no
  | 10, h => exact (Option.some.inj h) ▸ ini10 f10.F f10.iC f10.tI f10.no
  | 11, h => exact (Option.some.inj h) ▸ ini11 f11.F f11.iC f11.tI f11.no
  | 12, h => exact (Option.some.inj h) ▸ ini12 f12.F f12.iC f12.tI f12.no
  | n + 13, h => exact absurd h (by simp [fldNames])
end
end Lw
open PySem PySem.W PyProof.Rows
set_option maxHeartbeats 0 in
theorem PySem.Challenge.cw_backthen_k04_errors_and_their_fields_holds : PySem.Challenge.rw_backthen_k04_errors_and_their_fields.Holds := by
  w_on; o_law; k_head; (case hw => w_witness2)
  k_fill
  refine L2.walk_of (l := PySem.Challenge.rw_backthen_k04_errors_and_their_fields) (n := 63) (k := 4) (x := "script") (CX := fun _ => L2.CX0) (sp := fun w => Lw.spLaw _) rfl (by decide) rfl ⟨rfl, by decide, by decide⟩ (fun w h Y => PySem.W.kIn_of Y) ?F (fun _ _ a ns hl _ hS => ⟨a, ns, rfl, hS, hl, fun _ => rfl⟩) (fun _ _ _ _ _ h => h)
  case F =>
    intro w mg fa h KX G hmg
    have c0 := Lw.cl_mk (x := "InvalidTale") KX G (by k_is) (by k_is) (by decide +kernel) (by k_is) (by k_is) (by k_is) (by k_is) (by k_is) (by k_is) (by k_is) (by k_is) (by k_is) (by k_is) (by k_is)
    have c1 := Lw.cl_mk (x := "InvalidTimeline") KX G (by k_is) (by k_is) (by decide +kernel) (by k_is) (by k_is) (by k_is) (by k_is) (by k_is) (by k_is) (by k_is) (by k_is) (by k_is) (by k_is) (by k_is)
    have c2 := Lw.cl_mk (x := "InvalidTellers") KX G (by k_is) (by k_is) (by decide +kernel) (by k_is) (by k_is) (by k_is) (by k_is) (by k_is) (by k_is) (by k_is) (by k_is) (by k_is) (by k_is) (by k_is)
    have c3 := Lw.cl_mk (x := "InvalidReport") KX G (by k_is) (by k_is) (by decide +kernel) (by k_is) (by k_is) (by k_is) (by k_is) (by k_is) (by k_is) (by k_is) (by k_is) (by k_is) (by k_is) (by k_is)
    have c4 := Lw.cl_mk (x := "InvalidText") KX G (by k_is) (by k_is) (by decide +kernel) (by k_is) (by k_is) (by k_is) (by k_is) (by k_is) (by k_is) (by k_is) (by k_is) (by k_is) (by k_is) (by k_is)
    have c5 := Lw.cl_mk (x := "UnknownMoment") KX G (by k_is) (by k_is) (by decide +kernel) (by k_is) (by k_is) (by k_is) (by k_is) (by k_is) (by k_is) (by k_is) (by k_is) (by k_is) (by k_is) (by k_is)
    have c6 := Lw.cl_mk (x := "InvalidName") KX G (by k_is) (by k_is) (by decide +kernel) (by k_is) (by k_is) (by k_is) (by k_is) (by k_is) (by k_is) (by k_is) (by k_is) (by k_is) (by k_is) (by k_is)
    have c7 := Lw.cl_mk (x := "Conflict") KX G (by k_is) (by k_is) (by decide +kernel) (by k_is) (by k_is) (by k_is) (by k_is) (by k_is) (by k_is) (by k_is) (by k_is) (by k_is) (by k_is) (by k_is)
    have c8 := Lw.cl_mk (x := "OutOfRange") KX G (by k_is) (by k_is) (by decide +kernel) (by k_is) (by k_is) (by k_is) (by k_is) (by k_is) (by k_is) (by k_is) (by k_is) (by k_is) (by k_is) (by k_is)
    have c9 := Lw.cl_mk (x := "NoFit") KX G (by k_is) (by k_is) (by decide +kernel) (by k_is) (by k_is) (by k_is) (by k_is) (by k_is) (by k_is) (by k_is) (by k_is) (by k_is) (by k_is) (by k_is)
    have c10 := Lw.cl_mk (x := "Mismatch") KX G (by k_is) (by k_is) (by decide +kernel) (by k_is) (by k_is) (by k_is) (by k_is) (by k_is) (by k_is) (by k_is) (by k_is) (by k_is) (by k_is) (by k_is)
    have c11 := Lw.cl_mk (x := "InvalidPlace") KX G (by k_is) (by k_is) (by decide +kernel) (by k_is) (by k_is) (by k_is) (by k_is) (by k_is) (by k_is) (by k_is) (by k_is) (by k_is) (by k_is) (by k_is)
    have c12 := Lw.cl_mk (x := "InvalidAnswer") KX G (by k_is) (by k_is) (by decide +kernel) (by k_is) (by k_is) (by k_is) (by k_is) (by k_is) (by k_is) (by k_is) (by k_is) (by k_is) (by k_is) (by k_is)
    have c13 := Lw.cl_mk (x := "NoRoad") KX G (by k_is) (by k_is) (by decide +kernel) (by k_is) (by k_is) (by k_is) (by k_is) (by k_is) (by k_is) (by k_is) (by k_is) (by k_is) (by k_is) (by k_is)
    have c14 := Lw.cl_mk (x := "NoConflict") KX G (by k_is) (by k_is) (by decide +kernel) (by k_is) (by k_is) (by k_is) (by k_is) (by k_is) (by k_is) (by k_is) (by k_is) (by k_is) (by k_is) (by k_is)
    have c15 := Lw.cl_mk (x := "TooManyTellers") KX G (by k_is) (by k_is) (by decide +kernel) (by k_is) (by k_is) (by k_is) (by k_is) (by k_is) (by k_is) (by k_is) (by k_is) (by k_is) (by k_is) (by k_is)
    have c16 := Lw.cl_mk (x := "NothingToUndo") KX G (by k_is) (by k_is) (by decide +kernel) (by k_is) (by k_is) (by k_is) (by k_is) (by k_is) (by k_is) (by k_is) (by k_is) (by k_is) (by k_is) (by k_is)
    have c17 := Lw.cl_mk (x := "TooLarge") KX G (by k_is) (by k_is) (by decide +kernel) (by k_is) (by k_is) (by k_is) (by k_is) (by k_is) (by k_is) (by k_is) (by k_is) (by k_is) (by k_is) (by k_is)
    have c18 := Lw.cl_mk (x := "NotForest") KX G (by k_is) (by k_is) (by decide +kernel) (by k_is) (by k_is) (by k_is) (by k_is) (by k_is) (by k_is) (by k_is) (by k_is) (by k_is) (by k_is) (by k_is)
    have c19 := Lw.cl_mk (x := "NothingKnown") KX G (by k_is) (by k_is) (by decide +kernel) (by k_is) (by k_is) (by k_is) (by k_is) (by k_is) (by k_is) (by k_is) (by k_is) (by k_is) (by k_is) (by k_is)
    have c20 := Lw.cl_mk (x := "NoQuestion") KX G (by k_is) (by k_is) (by decide +kernel) (by k_is) (by k_is) (by k_is) (by k_is) (by k_is) (by k_is) (by k_is) (by k_is) (by k_is) (by k_is) (by k_is)
    have c21 := Lw.cl_mk (x := "TaleError") KX G (by k_is) (by k_is) (by decide +kernel) (by k_is) (by k_is) (by k_is) (by k_is) (by k_is) (by k_is) (by k_is) (by k_is) (by k_is) (by k_is) (by k_is)
    have f0 := Lw.inF_mk (C := 45) (qual := "InvalidTale.__init__") (fld := "problem") (st := Lw.s_ini0) KX (by k_is) (by k_is) (by k_is) (by k_is) (by k_is) (by k_is) (by k_is)
    have f1 := Lw.inF_mk (C := 65) (qual := "InvalidTimeline.__init__") (fld := "problem") (st := Lw.s_ini1) KX (by k_is) (by k_is) (by k_is) (by k_is) (by k_is) (by k_is) (by k_is)
    have f2 := Lw.inF_mk (C := 85) (qual := "InvalidTellers.__init__") (fld := "problem") (st := Lw.s_ini2) KX (by k_is) (by k_is) (by k_is) (by k_is) (by k_is) (by k_is) (by k_is)
    have f3 := Lw.inF_mk (C := 105) (qual := "InvalidReport.__init__") (fld := "problem") (st := Lw.s_ini3) KX (by k_is) (by k_is) (by k_is) (by k_is) (by k_is) (by k_is) (by k_is)
    have f4 := Lw.inF_mk (C := 125) (qual := "InvalidText.__init__") (fld := "line") (st := Lw.s_ini4) KX (by k_is) (by k_is) (by k_is) (by k_is) (by k_is) (by k_is) (by k_is)
    have f5 := Lw.inF_mk (C := 145) (qual := "UnknownMoment.__init__") (fld := "name") (st := Lw.s_ini5) KX (by k_is) (by k_is) (by k_is) (by k_is) (by k_is) (by k_is) (by k_is)
    have f6 := Lw.inF_mk (C := 165) (qual := "InvalidName.__init__") (fld := "name") (st := Lw.s_ini6) KX (by k_is) (by k_is) (by k_is) (by k_is) (by k_is) (by k_is) (by k_is)
    have f7 := Lw.inF_mk (C := 185) (qual := "Conflict.__init__") (fld := "ring") (st := Lw.s_ini7) KX (by k_is) (by k_is) (by k_is) (by k_is) (by k_is) (by k_is) (by k_is)
    have f8 := Lw.inF_mk (C := 205) (qual := "OutOfRange.__init__") (fld := "count") (st := Lw.s_ini8) KX (by k_is) (by k_is) (by k_is) (by k_is) (by k_is) (by k_is) (by k_is)
    have f9 := Lw.inF_mk (C := 225) (qual := "NoFit.__init__") (fld := "number") (st := Lw.s_ini9) KX (by k_is) (by k_is) (by k_is) (by k_is) (by k_is) (by k_is) (by k_is)
    have f10 := Lw.inF_mk (C := 245) (qual := "Mismatch.__init__") (fld := "number") (st := Lw.s_ini10) KX (by k_is) (by k_is) (by k_is) (by k_is) (by k_is) (by k_is) (by k_is)
    have f11 := Lw.inF_mk (C := 265) (qual := "InvalidPlace.__init__") (fld := "index") (st := Lw.s_ini11) KX (by k_is) (by k_is) (by k_is) (by k_is) (by k_is) (by k_is) (by k_is)
    have f12 := Lw.inF_mk (C := 285) (qual := "InvalidAnswer.__init__") (fld := "first") (st := Lw.s_ini12) KX (by k_is) (by k_is) (by k_is) (by k_is) (by k_is) (by k_is) (by k_is)
    have T0 : Lw.Txt (L2.KOf KX) mg := ⟨PySem.W.mg_none_of KX G (by k_is), PySem.W.mg_none_of KX G (by k_is), PySem.W.mg_none_of KX G (by k_is), PySem.W.mg_none_of KX G (by k_is), PySem.W.mg_none_of KX G (by k_is), PySem.W.mg_none_of KX G (by k_is), PySem.W.mg_none_of KX G (by k_is)⟩
    have D := Lw.Defs.mk (Lw.fn_mk KX G (by k_is) (by k_is) (by k_is) (by k_is)) (Lw.fn_mk KX G (by k_is) (by k_is) (by k_is) (by k_is)) (Lw.fn_mk KX G (by k_is) (by k_is) (by k_is) (by k_is)) (Lw.fn_mk KX G (by k_is) (by k_is) (by k_is) (by k_is)) (Lw.fn_mk KX G (by k_is) (by k_is) (by k_is) (by k_is)) (Lw.fn_mk KX G (by k_is) (by k_is) (by k_is) (by k_is)) (Lw.fn_mk KX G (by k_is) (by k_is) (by k_is) (by k_is)) (Lw.fn_mk KX G (by k_is) (by k_is) (by k_is) (by k_is)) (Lw.fn_mk KX G (by k_is) (by k_is) (by k_is) (by k_is)) (Lw.fn_mk KX G (by k_is) (by k_is) (by k_is) (by k_is)) (Lw.fn_mk KX G (by k_is) (by k_is) (by k_is) (by k_is))
    have T := Lw.tc_mk (mg := mg) KX c0 c1 c2 c3 c4 c5 c6 c7 c8 c9 c10 c11 c12 c13 c14 c15 c16 c17 c18 c19 c20 c21 (by kernel_rfl) (by kernel_rfl) (by kernel_rfl) (by kernel_rfl)
    exact Lw.law_mk KX G hmg (by k_is) (by k_is) (by k_is) (by k_is) T0 T (fun base i f h => Lw.ini_mk KX f0 f1 f2 f3 f4 f5 f6 f7 f8 f9 f10 f11 f12 i f h) D
