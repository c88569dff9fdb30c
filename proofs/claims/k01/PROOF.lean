import PyProof.Rows.All
import Wide.All
import OpenK.AllK
import Wide.FinOn
import HandS.ForMost
import HandS.Wide
import HandS.IsInst
import HandS.Defaults
import HandS.TupAny
import HandS.MakeKw
import HandS.Walk
import HandS.Deep
import HandS.Dict
import PyProof.ZipIter
import HandS.Zip
import PyProof.EnumMake
import PyProof.EnumFor
import HandS.Iter
import HandS.Comp
import PyProof.DictCompW
import HandS.DictComp
import HandS.Call
import HandS.List
import HandS.Text
import HandS.WideBits
import HandS.Style
import HandS.TupMul
import HandS.StrMore
import HandS.Conv
import HandS.Star
import HandS.TupSets
import HandS.SetBool
import HandS.SortOrd
import KE.KSortTup
import PyProof.Rows.SortKeyStr
import PyProof.Rows.TmSorted
import PyProof.Rows.StrMeet
import PyProof.WalkInts
import PyProof.MinMaxWalk
import HandS.DictTup
import HandS.SetFor
import HandS.Strs
import PyProof.Rows.SortShellAny
import HandS.SortInts
import PyProof.DictUpdate
import PyProof.FactsAll.dict_4
import HandS.Small
import HandS.Words
import HandS.Ends
import PyProof.CallStr
import PyProof.ReprRoads
import PyProof.P3Eq
import HandS.ExcInit
import HandS.ExcValue
import HandS.ExcBuiltin
import HandS.ExcIs
import KE.KExcIs
import PySem.Challenge.RW_backthen_k01_tales_checked
set_option Elab.async false
set_option linter.all false
set_option maxRecDepth 100000
set_option maxHeartbeats 4000000
namespace L2
open PySem PySem.Spec PyProof.Rows
/-- a def of the module's top that keeps its promise -/
structure Df (P : Program) (w : World) (K : PySem.W.Frag) (mg : Str → Option Value) (base : Heap) (x : Str) (k : Nat) (ps : List Str) (sp : Sp) : Prop where
  ex : ∃ (f : Addr) (fd : FuncData), FnOk P w K mg base CX0 k f fd ps sp ∧ mg x = some (.ref f) ∧ PySem.W.keepIn K (.ref f) = true ∧ Binds K fd ps []
/-- where a def stands behind the top -/
def Fn (K : PySem.W.Frag) (mg : Str → Option Value) (x : Str) (st : Stmt) : Prop := ∃ (f : Addr) (fd : FuncData), Fun K x x st f fd ∧ mg x = some (.ref f)
section
variable {P : Program} {w : World} {K : PySem.W.Frag} {mg : Str → Option Value} {base : Heap}
theorem Fn.df {x : Str} {st : Stmt} {k : Nat} {ps : List Str} {sp : Sp} (F : Fn K mg x st)
    (hb : ∀ (kV doc pm : Value) (an : Option Addr) (cdv ct : Value) (us : List Value), us.length = ps.length → bindArgs (PySem.W.fnOf x x (defArgs st) (defBody st) (defScope st) .none kV doc pm an cdv ct) ⟨us, []⟩ = pure (ps.zip us))
    (ok : ∀ (f : Addr) (fd : FuncData), Fun K x x st f fd → FnOk P w K mg base CX0 k f fd ps sp) : Df P w K mg base x k ps sp := by
  obtain ⟨f, fd, F, m⟩ := F
  exact ⟨f, fd, ok f fd F, m, F.kp, F.binds hb⟩
theorem Df.mono {x : Str} {j k : Nat} {ps : List Str} {sp : Sp} (G : Df P w K mg base x j ps sp) (h : j ≤ k) : Df P w K mg base x k ps sp := by
  obtain ⟨f, fd, o, m, kp, b⟩ := G.ex
  exact ⟨f, fd, o.mono h, m, kp, b⟩
theorem Df.imp {x : Str} {k : Nat} {ps : List Str} {sp sp' : Sp} (G : Df P w K mg base x k ps sp) (h : ∀ vs H Q E, sp' vs H Q E → sp vs H Q E) : Df P w K mg base x k ps sp' := by
  obtain ⟨f, fd, o, m, kp, b⟩ := G.ex
  exact ⟨f, fd, o.imp h, m, kp, b⟩
end
section
variable {X : Cx} {k : Nat} {ps : List Str} {sp : Sp} {x : Str} {p pos : Pos} {e : Expr} {es : List Expr} {t : TA}
theorem pe_df (G : Df X.prog X.w X.K X.mg X.base x k ps sp) (hr : Room k X.A) (hg : Gl X x) (ha : PA X (e :: es) t) (hdb : (x == ("__debug__" : Str)) = false := by decide)
    (he : starEach (e :: es) X.env = (false, eval e X.env) :: starEach es X.env := by rfl) (hpl : (backTo pos (starEach es X.env)).any (·.1) = false := by rfl) :
    PE X (.Call (.Name x p) (e :: es) [] pos) (tCall sp [] E0 t) := by
  obtain ⟨f, fd, o, m, kp, b⟩ := G.ex
  exact pe_call o hr hg m kp b .nil pass0 ha hdb he hpl
theorem pe_df0 (G : Df X.prog X.w X.K X.mg X.base x k ps sp) (hr : Room k X.A) (hg : Gl X x) (hdb : (x == ("__debug__" : Str)) = false := by decide) :
    PE X (.Call (.Name x p) [] [] pos) (tCall sp [] E0 tNil) := by
  obtain ⟨f, fd, o, m, kp, b⟩ := G.ex
  exact pe_call0 o hr hg m kp b .nil pass0 hdb
theorem op_powB : OpR X (binaryOp .Pow) (rI (fun i j => 0 ≤ j ∧ (Builtin.Int.intBits i : Int) * j ≤ 2 ^ 27) fun i j => .int (i ^ j.toNat)) := opI fun _ _ _ _ _ _ _ hc q => pow_int hc.1 hc.2 q
end
theorem same_upd {H : Hp} {p : Addr} {o : HO} (h : H p = none) : Same H (upd H p o) := fun b x e => by
  rw [upd_ne (ne_of_none e h)]
  exact e
theorem Same.seqT {K : PySem.W.Frag} {H H' : Hp} {a : Addr} {xs : List V} (e : Same H H') (h : SqT K H a xs) : SqT K H' a xs := by
  rcases h with (h | ⟨o, h⟩) | h
  · exact .inl (.inl (e _ _ h))
  · exact .inl (.inr ⟨o, e _ _ h⟩)
  · exact .inr h
mutual
theorem Dp.same {K : PySem.W.Frag} {H H' : Hp} (s : Same H H') : ∀ {v : V} {d : PyData}, Dp K H v d → Dp K H' v d
  | _, _, .non => .non
  | _, _, .bl b => .bl b
  | _, _, .int i => .int i
  | _, _, .str x => .str x
  | _, _, .lst h hs => .lst (s.seq h) (DpAll.same s hs)
  | _, _, .tup h hs => .tup (s.seqT h) (DpAll.same s hs)
theorem DpAll.same {K : PySem.W.Frag} {H H' : Hp} (s : Same H H') : ∀ {vs : List V} {ds : List PyData}, DpAll K H vs ds → DpAll K H' vs ds
  | _, _, .nil => .nil
  | _, _, .cons h hs => .cons (h.same s) (hs.same s)
end
theorem yes_run {σ : St} {H : Hp} {A B : Hp → Prop} (h : A H) : tYes σ H (fun b H3 => if b = true then A H3 else B H3) := by
  show if true = true then A H else B H
  rw [if_pos rfl]
  exact h
/-- what stood at the call stands, but for the object at p -/
def SameB (p : Addr) (H H' : Hp) : Prop := ∀ b o, b ≠ p → H b = some o → H' b = some o
theorem Same.but {p : Addr} {H H' : Hp} (s : Same H H') : SameB p H H' := fun b o _ e => s b o e
theorem SameB.upd {p : Addr} {H : Hp} {o : HO} : SameB p H (upd H p o) := fun b x n e => by rw [upd_ne n]; exact e
theorem SameB.trans {p : Addr} {H H1 H2 : Hp} (a : SameB p H H1) (b : SameB p H1 H2) : SameB p H H2 := fun c o n h => b c o n (a c o n h)
theorem SameB.refl {p : Addr} {H : Hp} : SameB p H H := fun _ _ _ h => h
/-- three ints: what is left of a cell, the cell, the turn -/
structure PurseOk (p0 p1 p2 : Int) (n : Nat) : Prop where
  a0 : 0 ≤ p0
  b0 : p0 < 10 ^ 600
  a1 : 0 ≤ p1
  b1 : p1 < 2147483647
  a2 : 0 ≤ p2
  b2 : p2 ≤ (n : Int)
theorem PurseOk.mono {p0 p1 p2 : Int} {n m : Nat} (h : PurseOk p0 p1 p2 n) (l : n ≤ m) : PurseOk p0 p1 p2 m := ⟨h.a0, h.b0, h.a1, h.b1, h.a2, by have := h.b2; omega⟩
/-- at p: a purse of at most n turns -/
def Purse (H : Hp) (p : Addr) (n : Nat) : Prop := ∃ p0 p1 p2, H p = some (.lst [.int p0, .int p1, .int p2]) ∧ PurseOk p0 p1 p2 n
theorem Purse.mono {H : Hp} {p : Addr} {n m : Nat} (h : Purse H p n) (l : n ≤ m) : Purse H p m := by
  obtain ⟨a, b, c, e, o⟩ := h
  exact ⟨a, b, c, e, o.mono l⟩
def spAt (K : PySem.W.Frag) : Sp := fun vs H Q _ => ∃ (a : Addr) (ns : List Int) (k : Nat), vs = [.ref a, .int k] ∧ SqL K H a (ns.map V.int) ∧ ∀ c, Q (.int c) H
def spMixed : Sp := fun vs H Q _ => ∃ (c k : Int), vs = [.int c, .int k] ∧ 0 ≤ c ∧ c < 2147483647 ∧ 0 ≤ k ∧ k < 2 ^ 40 ∧ ∀ m, 0 ≤ m → m < 2147483587 → Q (.int m) H
def spPurse (K : PySem.W.Frag) : Sp := fun vs H Q _ => ∃ (a : Addr) (ns : List Int) (k : Nat), vs = [.ref a, .int k] ∧ SqL K H a (ns.map V.int) ∧ k ≤ 63 ∧
  ∀ p p0 p1 p2, H p = none → PurseOk p0 p1 p2 63000 → Q (.ref p) (upd H p (.lst [.int p0, .int p1, .int p2]))
def spDraw : Sp := fun vs H Q _ => ∃ (p : Addr) (p0 p1 p2 : Int) (n : Nat) (m : Int), vs = [.ref p, .int m] ∧ H p = some (.lst [.int p0, .int p1, .int p2]) ∧ PurseOk p0 p1 p2 n ∧ n < 2 ^ 39 ∧ 1 ≤ m ∧ m < 2 ^ 62 ∧
  ∀ d q0 q1 q2, 0 ≤ d → d < m → PurseOk q0 q1 q2 (n + 1) → Q (.int d) (upd H p (.lst [.int q0, .int q1, .int q2]))
theorem pow600 : (((10 : Int) ^ (60 : Int).toNat) ^ (10 : Int).toNat) = 10 ^ 600 := by decide +kernel
theorem pow600_pos : (0 : Int) < 10 ^ 600 := by decide +kernel
end L2
set_option Elab.async false
set_option linter.all false
set_option maxRecDepth 100000
set_option maxHeartbeats 4000000
/-! data of any depth: its type by name; x in a tuple of such; isinstance of such -/
namespace L2
open PySem PySem.Spec PyProof.Rows
section
variable {X : Cx}
def rInDT (K : PySem.W.Frag) (neg : Bool) : R2 := fun x y H Q => ∃ d ds, Dp K H x d ∧ Dp K H y (.tuple ds) ∧ SeqAt.shaped d = true ∧ SeqAt.shaped (.tuple ds) = true ∧ Q (.bl (if neg then !ds.any (fun z => PyData.eqv z d) else ds.any fun z => PyData.eqv z d)) H
theorem op_inDT (hu : X.A.units + 65 < cLine) : OpR X (compareOp .In) (rInDT X.K false) := by
  intro pins s σ H x y v u Q I rx ry h
  obtain ⟨d, ds, hd, he, sd, se, q⟩ := h
  obtain ⟨as, r1⟩ := Dp.reads I d x v hd rx
  obtain ⟨bs, r2⟩ := Dp.reads I (.tuple ds) y u he ry
  exact SeqAt.in_tuple_reads r2 r1 (SeqAt.canLay_of_shaped se) (SeqAt.canLay_of_shaped sd) (room_in_shaped sd hu) ⟨.bl _, H, I, rfl, q⟩
theorem op_notInDT (hu : X.A.units + 65 < cLine) : OpR X (compareOp .NotIn) (rInDT X.K true) := by
  intro pins s σ H x y v u Q I rx ry h
  obtain ⟨d, ds, hd, he, sd, se, q⟩ := h
  obtain ⟨as, r1⟩ := Dp.reads I d x v hd rx
  obtain ⟨bs, r2⟩ := Dp.reads I (.tuple ds) y u he ry
  exact SeqAt.notIn_tuple_reads r2 r1 (SeqAt.canLay_of_shaped se) (SeqAt.canLay_of_shaped sd) (room_in_shaped sd hu) ⟨.bl _, H, I, rfl, q⟩
end
theorem unit65 {k : Nat} {A : Around} (r : Room k A) : A.units + 65 < cLine := by have := r.un; omega
def tyN : PyData → String
  | .none => "NoneType" | .bool _ => "bool" | .int _ => "int" | .str _ => "str" | .list _ => "list" | .tuple _ => "tuple" | .dict _ => "dict"
theorem take_snoc {α : Type} {l : List α} {i : Nat} {x : α} (h : l[i]? = some x) : l.take (i + 1) = l.take i ++ [x] := by
  rw [List.take_add_one, h]
  rfl
theorem tyOfT {K : PySem.W.Frag} {H : Hp} {t : Addr} {xs : List V} (h : SqT K H t xs) : TyX K H (.ref t) (.type "tuple") := by
  rcases h with (h | ⟨o, h⟩) | ⟨o, its, n, h, c, _⟩
  · exact .base (.tup h)
  · exact .fTuple h
  · exact .kTuple h c
theorem tyOfL {K : PySem.W.Frag} {H : Hp} {t : Addr} {xs : List V} (h : SqL K H t xs) : TyX K H (.ref t) (.type "list") := by
  rcases h with (h | ⟨o, h⟩) | ⟨o, its, n, h, c, _⟩
  · exact .base (.lst h)
  · exact .base (.frz h)
  · exact .kList h c
theorem Dp.ty {K : PySem.W.Frag} {H : Hp} {v : V} {d : PyData} (h : Dp K H v d) : TyX K H v (.type (tyN d)) := by
  cases h with
  | non => exact .base .non
  | bl b => exact .base (.bl b)
  | int i => exact .base (.int i)
  | str x => exact .base (.str x)
  | lst h _ => exact tyOfL h
  | tup h _ => exact tyOfT h
def isTup : PyData → Bool | .tuple _ => true | _ => false
def isLst : PyData → Bool | .list _ => true | _ => false
def isTxt : PyData → Bool | .str _ => true | _ => false
def isNum : PyData → Bool | .int _ => true | .bool _ => true | _ => false
def isBl : PyData → Bool | .bool _ => true | _ => false
theorem Dp.kTup {K : PySem.W.Frag} {H : Hp} {v : V} {d : PyData} (h : Dp K H v d) : PySem.W.kitOne K (.type (tyN d)) (.type "tuple") = some (isTup d) := by cases h <;> rfl
theorem Dp.kLst {K : PySem.W.Frag} {H : Hp} {v : V} {d : PyData} (h : Dp K H v d) : PySem.W.kitOne K (.type (tyN d)) (.type "list") = some (isLst d) := by cases h <;> rfl
theorem Dp.kTxt {K : PySem.W.Frag} {H : Hp} {v : V} {d : PyData} (h : Dp K H v d) : PySem.W.kitOne K (.type (tyN d)) (.type "str") = some (isTxt d) := by cases h <;> rfl
theorem Dp.kNum {K : PySem.W.Frag} {H : Hp} {v : V} {d : PyData} (h : Dp K H v d) : PySem.W.kitOne K (.type (tyN d)) (.type "int") = some (isNum d) := by cases h <;> rfl
theorem Dp.kBl {K : PySem.W.Frag} {H : Hp} {v : V} {d : PyData} (h : Dp K H v d) : PySem.W.kitOne K (.type (tyN d)) (.type "bool") = some (isBl d) := by cases h <;> rfl
/-- isinstance of data: the reading's tail -/
theorem isi_tup {K : PySem.W.Frag} {H : Hp} {v : V} {d : PyData} {Q : VK} (h : Dp K H v d) (q : Q (.bl (isTup d)) H) : rIsi K [v, .ty "tuple"] H Q := ⟨v, _, _, _, _, rfl, .ty "tuple", h.ty, h.kTup, q⟩
theorem isi_lst {K : PySem.W.Frag} {H : Hp} {v : V} {d : PyData} {Q : VK} (h : Dp K H v d) (q : Q (.bl (isLst d)) H) : rIsi K [v, .ty "list"] H Q := ⟨v, _, _, _, _, rfl, .ty "list", h.ty, h.kLst, q⟩
theorem isi_txt {K : PySem.W.Frag} {H : Hp} {v : V} {d : PyData} {Q : VK} (h : Dp K H v d) (q : Q (.bl (isTxt d)) H) : rIsi K [v, .ty "str"] H Q := ⟨v, _, _, _, _, rfl, .ty "str", h.ty, h.kTxt, q⟩
theorem isi_num {K : PySem.W.Frag} {H : Hp} {v : V} {d : PyData} {Q : VK} (h : Dp K H v d) (q : Q (.bl (isNum d)) H) : rIsi K [v, .ty "int"] H Q := ⟨v, _, _, _, _, rfl, .ty "int", h.ty, h.kNum, q⟩
theorem isi_bl {K : PySem.W.Frag} {H : Hp} {v : V} {d : PyData} {Q : VK} (h : Dp K H v d) (q : Q (.bl (isBl d)) H) : rIsi K [v, .ty "bool"] H Q := ⟨v, _, _, _, _, rfl, .ty "bool", h.ty, h.kBl, q⟩
theorem Dp.tup_of {K : PySem.W.Frag} {H : Hp} {v : V} {d : PyData} (h : Dp K H v d) (t : isTup d = true) : ∃ a xs ds, v = .ref a ∧ d = .tuple ds ∧ SqT K H a xs ∧ DpAll K H xs ds := by
  cases h with
  | tup h hs => exact ⟨_, _, _, rfl, rfl, h, hs⟩
  | _ => cases t
theorem Dp.lst_of {K : PySem.W.Frag} {H : Hp} {v : V} {d : PyData} (h : Dp K H v d) (t : isLst d = true) : ∃ a xs ds, v = .ref a ∧ d = .list ds ∧ SqL K H a xs ∧ DpAll K H xs ds := by
  cases h with
  | lst h hs => exact ⟨_, _, _, rfl, rfl, h, hs⟩
  | _ => cases t
theorem Dp.str_of {K : PySem.W.Frag} {H : Hp} {v : V} {d : PyData} (h : Dp K H v d) (t : isTxt d = true) : ∃ z, v = .str z ∧ d = .str z := by
  cases h with
  | str z => exact ⟨_, rfl, rfl⟩
  | _ => cases t
theorem DpAll.len {K : PySem.W.Frag} {H : Hp} : ∀ {vs : List V} {ds : List PyData}, DpAll K H vs ds → vs.length = ds.length
  | _, _, .nil => rfl
  | _, _, .cons _ h => congrArg Nat.succ h.len
theorem DpAll.get {K : PySem.W.Frag} {H : Hp} : ∀ {vs : List V} {ds : List PyData} {i : Nat} {v : V}, DpAll K H vs ds → vs[i]? = some v → ∃ d, ds[i]? = some d ∧ Dp K H v d
  | _, _, 0, _, .cons h _, e => ⟨_, rfl, by cases e; exact h⟩
  | _, _, i + 1, _, .cons _ h, e => DpAll.get (i := i) h e
theorem DpAll.get' {K : PySem.W.Frag} {H : Hp} : ∀ {vs : List V} {ds : List PyData} {i : Nat} {d : PyData}, DpAll K H vs ds → ds[i]? = some d → ∃ v, vs[i]? = some v ∧ Dp K H v d
  | _, _, 0, _, .cons h _, e => ⟨_, rfl, by cases e; exact h⟩
  | _, _, i + 1, _, .cons _ h, e => DpAll.get' (i := i) h e
theorem lay_mem {d : PyData} : ∀ {ds : List PyData}, PyData.canLayAll0 ds = true → d ∈ ds → d.canLay0 = true
  | x :: xs, h, m => by
    have h : (x.canLay0 && PyData.canLayAll0 xs) = true := by simpa only [PyData.canLayAll0] using h
    rw [Bool.and_eq_true] at h
    rcases List.mem_cons.mp m with rfl | m
    · exact h.1
    · exact lay_mem h.2 m
theorem depth_mem {d : PyData} : ∀ {ds : List PyData}, d ∈ ds → d.depth ≤ PyData.depthAll ds
  | x :: xs, m => by
    simp only [PyData.depthAll]
    rcases List.mem_cons.mp m with rfl | m
    · omega
    · have := depth_mem m
      omega
theorem shaped_tup {d : PyData} {ds : List PyData} (h : SeqAt.shaped (.tuple ds) = true) (m : d ∈ ds) : SeqAt.shaped d = true := by
  have h := Bool.and_eq_true_iff.mp h
  have h1 : PyData.canLayAll0 ds = true := by simpa only [PyData.canLay0] using h.1
  have h2 : PyData.depth (.tuple ds) ≤ 64 := of_decide_eq_true h.2
  simp only [PyData.depth] at h2
  have := depth_mem m
  exact Bool.and_eq_true_iff.mpr ⟨lay_mem h1 m, decide_eq_true (by omega)⟩
theorem shaped_lst {d : PyData} {ds : List PyData} (h : SeqAt.shaped (.list ds) = true) (m : d ∈ ds) : SeqAt.shaped d = true := by
  have h := Bool.and_eq_true_iff.mp h
  have h1 : PyData.canLayAll0 ds = true := by simpa only [PyData.canLay0] using h.1
  have h2 : PyData.depth (.list ds) ≤ 64 := of_decide_eq_true h.2
  simp only [PyData.depth] at h2
  have := depth_mem m
  exact Bool.and_eq_true_iff.mpr ⟨lay_mem h1 m, decide_eq_true (by omega)⟩
end L2
namespace L2
open PySem PySem.Spec PyProof.Rows
mutual
/-- texts and sequences of at most a thousand -/
def sized : PyData → Bool
  | .str z => decide (z.length ≤ 1000)
  | .list xs => decide (xs.length ≤ 1000) && sizedAll xs
  | .tuple xs => decide (xs.length ≤ 1000) && sizedAll xs
  | _ => true
def sizedAll : List PyData → Bool
  | [] => true
  | x :: xs => sized x && sizedAll xs
end
theorem sizedAll_mem {d : PyData} : ∀ {ds : List PyData}, sizedAll ds = true → d ∈ ds → sized d = true
  | x :: xs, h, m => by
    simp only [sizedAll, Bool.and_eq_true] at h
    rcases List.mem_cons.mp m with rfl | m
    · exact h.1
    · exact sizedAll_mem h.2 m
theorem sizedAll_of {ds : List PyData} (h : ∀ d ∈ ds, sized d = true) : sizedAll ds = true := by
  induction ds with
  | nil => rfl
  | cons x xs ih =>
    simp only [sizedAll, Bool.and_eq_true]
    exact ⟨h x List.mem_cons_self, ih fun d m => h d (List.mem_cons_of_mem _ m)⟩
theorem sized_tup {d : PyData} {ds : List PyData} (h : sized (.tuple ds) = true) (m : d ∈ ds) : sized d = true := by
  simp only [sized, Bool.and_eq_true] at h
  exact sizedAll_mem h.2 m
theorem sized_lst {d : PyData} {ds : List PyData} (h : sized (.list ds) = true) (m : d ∈ ds) : sized d = true := by
  simp only [sized, Bool.and_eq_true] at h
  exact sizedAll_mem h.2 m
theorem sized_str {z : Str} (h : sized (.str z) = true) : z.length ≤ 1000 := by
  simp only [sized] at h
  exact of_decide_eq_true h
theorem sized_len {ds : List PyData} (h : sized (.tuple ds) = true) : ds.length ≤ 1000 := by
  simp only [sized, Bool.and_eq_true] at h
  exact of_decide_eq_true h.1
/-- data that every rule takes -/
structure Gd (d : PyData) : Prop where
  sh : SeqAt.shaped d = true
  sz : sized d = true
theorem Gd.tup {d : PyData} {ds : List PyData} (h : Gd (.tuple ds)) (m : d ∈ ds) : Gd d := ⟨shaped_tup h.sh m, sized_tup h.sz m⟩
theorem Gd.lst {d : PyData} {ds : List PyData} (h : Gd (.list ds)) (m : d ∈ ds) : Gd d := ⟨shaped_lst h.sh m, sized_lst h.sz m⟩
end L2
set_option Elab.async false
set_option linter.all false
set_option maxRecDepth 100000
set_option maxHeartbeats 4000000
/-! data that a def works on: values without a heap; what stands at a slot, shared or owned; the heap that holds both -/
namespace DN
open PySem PySem.Spec PyProof.Rows L2
inductive D where
  | non | bl (b : Bool) | int (i : Int) | str (z : Str) | lst (xs : List D) | tup (xs : List D) | dic (kvs : List (Key × D)) | dit (kvs : List (List Key × D)) | obj (C : Addr) (fs : List (Str × D)) | scr (ns : List Int)
deriving Inhabited
mutual
/-- v reads as d -/
inductive Dq (K : PySem.W.Frag) (H : Hp) : V → D → Prop
  | non : Dq K H .non .non
  | bl (b : Bool) : Dq K H (.bl b) (.bl b)
  | int (i : Int) : Dq K H (.int i) (.int i)
  | str (x : Str) : Dq K H (.str x) (.str x)
  | lst {a : Addr} {xs : List V} {ds : List D} : H a = some (.lst xs) → DqL K H xs ds → Dq K H (.ref a) (.lst ds)
  | tup {a : Addr} {xs : List V} {ds : List D} : SqT K H a xs → DqL K H xs ds → Dq K H (.ref a) (.tup ds)
  | dic {a : Addr} {xs : List (Key × V)} {ds : List (Key × D)} : Rd H a (.dK xs) → DqP K H xs ds → Dq K H (.ref a) (.dic ds)
  | dit {a : Addr} {xs : List (List Key × V)} {ds : List (List Key × D)} : Rd H a (.dT xs) → DqP K H xs ds → Dq K H (.ref a) (.dit ds)
  | obj {a C dx : Addr} {xs : List (Str × V)} {ds : List (Str × D)} : H a = some (.ins C dx xs) → DqP K H xs ds → Dq K H (.ref a) (.obj C ds)
  /-- the script: it may be locked, or one of the written part -/
  | scr {a : Addr} {ns : List Int} : SqL K H a (ns.map V.int) → Dq K H (.ref a) (.scr ns)
inductive DqL (K : PySem.W.Frag) (H : Hp) : List V → List D → Prop
  | nil : DqL K H [] []
  | cons {v : V} {vs : List V} {d : D} {ds : List D} : Dq K H v d → DqL K H vs ds → DqL K H (v :: vs) (d :: ds)
inductive DqP (K : PySem.W.Frag) (H : Hp) : {κ : Type} → List (κ × V) → List (κ × D) → Prop
  | nil {κ : Type} : DqP K H (κ := κ) [] []
  | cons {κ : Type} {k : κ} {v : V} {vs : List (κ × V)} {d : D} {ds : List (κ × D)} : Dq K H v d → DqP K H vs ds → DqP K H ((k, v) :: vs) ((k, d) :: ds)
end
def isDct : HO → Bool | .dK _ => true | .dT _ => true | _ => false
/-- what stands in H stands in H', perhaps locked if it is a dict -/
def Le (H H' : Hp) : Prop := ∀ b o, H b = some o → H' b = some o ∨ (isDct o = true ∧ ∃ ob, H' b = some (.frz ob o))
theorem Le.refl (H : Hp) : Le H H := fun _ _ e => .inl e
theorem Le.of {H H' : Hp} (s : Same H H') : Le H H' := fun b o e => .inl (s b o e)
theorem Le.trans {A B C : Hp} (h : Le A B) (g : Le B C) : Le A C := fun b o e => by
  rcases h b o e with h | ⟨h, ob, e⟩
  · exact g b o h
  · rcases g b _ e with e' | ⟨e', _⟩
    · exact .inr ⟨h, ob, e'⟩
    · cases e'
theorem Le.seq {K : PySem.W.Frag} {H H' : Hp} {a : Addr} {xs : List V} (e : Le H H') (h : SqL K H a xs) : SqL K H' a xs := by
  rcases h with (h | ⟨o, h⟩) | h
  · rcases e _ _ h with h | ⟨z, _⟩
    · exact .inl (.inl h)
    · cases z
  · rcases e _ _ h with h | ⟨z, _⟩
    · exact .inl (.inr ⟨o, h⟩)
    · cases z
  · exact .inr h
theorem Le.seqT {K : PySem.W.Frag} {H H' : Hp} {a : Addr} {xs : List V} (e : Le H H') (h : SqT K H a xs) : SqT K H' a xs := by
  rcases h with (h | ⟨o, h⟩) | h
  · rcases e _ _ h with h | ⟨z, _⟩
    · exact .inl (.inl h)
    · cases z
  · rcases e _ _ h with h | ⟨z, _⟩
    · exact .inl (.inr ⟨o, h⟩)
    · cases z
  · exact .inr h
theorem Le.rdD {H H' : Hp} {a : Addr} {o : HO} (e : Le H H') (d : isDct o = true) (h : Rd H a o) : Rd H' a o := by
  rcases h with h | ⟨ob, h⟩
  · rcases e _ _ h with h | ⟨_, ob, h⟩
    · exact .inl h
    · exact .inr ⟨ob, h⟩
  · rcases e _ _ h with h | ⟨z, _⟩
    · exact .inr ⟨ob, h⟩
    · cases z
theorem Le.lst {H H' : Hp} {a : Addr} {xs : List V} (e : Le H H') (h : H a = some (.lst xs)) : H' a = some (.lst xs) := by
  rcases e _ _ h with h | ⟨z, _⟩
  · exact h
  · cases z
theorem Le.tup {H H' : Hp} {a : Addr} {xs : List V} (e : Le H H') (h : H a = some (.tup xs)) : H' a = some (.tup xs) := by
  rcases e _ _ h with h | ⟨z, _⟩
  · exact h
  · cases z
theorem Le.ins {H H' : Hp} {a C dx : Addr} {fs : List (Str × V)} (e : Le H H') (h : H a = some (.ins C dx fs)) : H' a = some (.ins C dx fs) := by
  rcases e _ _ h with h | ⟨z, _⟩
  · exact h
  · cases z
mutual
theorem Dq.le {K : PySem.W.Frag} {H H' : Hp} (s : Le H H') : ∀ {v : V} {d : D}, Dq K H v d → Dq K H' v d
  | _, _, .non => .non
  | _, _, .bl b => .bl b
  | _, _, .int i => .int i
  | _, _, .str x => .str x
  | _, _, .lst h hs => .lst (s.lst h) (hs.le s)
  | _, _, .tup h hs => .tup (s.seqT h) (hs.le s)
  | _, _, .dic h hs => .dic (s.rdD rfl h) (hs.le s)
  | _, _, .dit h hs => .dit (s.rdD rfl h) (hs.le s)
  | _, _, .obj h hs => .obj (s.ins h) (hs.le s)
  | _, _, .scr h => .scr (s.seq h)
theorem DqL.le {K : PySem.W.Frag} {H H' : Hp} (s : Le H H') : ∀ {vs : List V} {ds : List D}, DqL K H vs ds → DqL K H' vs ds
  | _, _, .nil => .nil
  | _, _, .cons h hs => .cons (h.le s) (hs.le s)
theorem DqP.le {K : PySem.W.Frag} {H H' : Hp} (s : Le H H') : ∀ {κ : Type} {vs : List (κ × V)} {ds : List (κ × D)}, DqP K H vs ds → DqP K H' vs ds
  | _, _, _, .nil => .nil
  | _, _, _, .cons h hs => .cons (h.le s) (hs.le s)
end
section
variable {K : PySem.W.Frag} {H : Hp}
theorem DqL.len : ∀ {vs : List V} {ds : List D}, DqL K H vs ds → vs.length = ds.length
  | _, _, .nil => rfl
  | _, _, .cons _ h => congrArg Nat.succ h.len
theorem DqP.len : ∀ {κ : Type} {vs : List (κ × V)} {ds : List (κ × D)}, DqP K H vs ds → vs.length = ds.length
  | _, _, _, .nil => rfl
  | _, _, _, .cons _ h => congrArg Nat.succ h.len
theorem DqP.keys : ∀ {κ : Type} {vs : List (κ × V)} {ds : List (κ × D)}, DqP K H vs ds → vs.map (·.1) = ds.map (·.1)
  | _, _, _, .nil => rfl
  | _, _, _, .cons _ h => congrArg (_ :: ·) h.keys
theorem DqL.get : ∀ {vs : List V} {ds : List D} {i : Nat} {v : V}, DqL K H vs ds → vs[i]? = some v → ∃ d, ds[i]? = some d ∧ Dq K H v d
  | _, _, 0, _, .cons h _, e => ⟨_, rfl, by cases e; exact h⟩
  | _, _, i + 1, _, .cons _ h, e => DqL.get (i := i) h e
theorem DqL.get' : ∀ {vs : List V} {ds : List D} {i : Nat} {d : D}, DqL K H vs ds → ds[i]? = some d → ∃ v, vs[i]? = some v ∧ Dq K H v d
  | _, _, 0, _, .cons h _, e => ⟨_, rfl, by cases e; exact h⟩
  | _, _, i + 1, _, .cons _ h, e => DqL.get' (i := i) h e
theorem DqL.app : ∀ {vs ws : List V} {ds es : List D}, DqL K H vs ds → DqL K H ws es → DqL K H (vs ++ ws) (ds ++ es)
  | _, _, _, _, .nil, g => g
  | _, _, _, _, .cons h hs, g => .cons h (hs.app g)
theorem DqL.drop : ∀ {vs : List V} {ds : List D} (n : Nat), DqL K H vs ds → DqL K H (vs.drop n) (ds.drop n)
  | _, _, 0, h => h
  | _, _, n + 1, .nil => .nil
  | _, _, n + 1, .cons _ h => DqL.drop n h
theorem DqL.take : ∀ {vs : List V} {ds : List D} (n : Nat), DqL K H vs ds → DqL K H (vs.take n) (ds.take n)
  | _, _, 0, h => .nil
  | _, _, n + 1, .nil => .nil
  | _, _, n + 1, .cons a h => .cons a (DqL.take n h)
theorem DqL.rev : ∀ {vs : List V} {ds : List D}, DqL K H vs ds → DqL K H vs.reverse ds.reverse
  | _, _, .nil => .nil
  | _, _, .cons a h => by
    rw [List.reverse_cons, List.reverse_cons]
    exact h.rev.app (.cons a .nil)
theorem DqL.setAt : ∀ {vs : List V} {ds : List D} {v : V} {d : D} (n : Nat), DqL K H vs ds → Dq K H v d → DqL K H (vs.set n v) (ds.set n d)
  | _, _, _, _, _, .nil, _ => .nil
  | _, _, _, _, 0, .cons _ h, g => .cons g h
  | _, _, _, _, n + 1, .cons a h, g => .cons a (DqL.setAt n h g)
theorem DqL.ints : ∀ ns : List Int, DqL K H (ns.map V.int) (ns.map D.int)
  | [] => .nil
  | n :: r => .cons (.int n) (DqL.ints r)
theorem DqL.strs : ∀ ns : List Str, DqL K H (ns.map V.str) (ns.map D.str)
  | [] => .nil
  | n :: r => .cons (.str n) (DqL.strs r)
theorem DqL.bls : ∀ ns : List Bool, DqL K H (ns.map V.bl) (ns.map D.bl)
  | [] => .nil
  | n :: r => .cons (.bl n) (DqL.bls r)
theorem DqL.rep {v : V} {d : D} (h : Dq K H v d) : ∀ n : Nat, DqL K H (List.replicate n v) (List.replicate n d)
  | 0 => .nil
  | n + 1 => .cons h (DqL.rep h n)
theorem DqL.of_ints : ∀ {ns : List Int} {vs : List V}, DqL K H vs (ns.map D.int) → vs = ns.map V.int
  | [], _, .nil => rfl
  | n :: r, _, .cons (.int _) h => by rw [h.of_ints]; rfl
theorem DqL.of_strs : ∀ {ns : List Str} {vs : List V}, DqL K H vs (ns.map D.str) → vs = ns.map V.str
  | [], _, .nil => rfl
  | n :: r, _, .cons (.str _) h => by rw [h.of_strs]; rfl
theorem DqL.of_bls : ∀ {ns : List Bool} {vs : List V}, DqL K H vs (ns.map D.bl) → vs = ns.map V.bl
  | [], _, .nil => rfl
  | n :: r, _, .cons (.bl _) h => by rw [h.of_bls]; rfl
end
/-! ### owned things: lists, dicts, instances that one slot alone holds -/
inductive O where
  | lst (xs : List D) | dic (kvs : List (Key × D)) | dit (kvs : List (List Key × D)) | obj (C : Addr) (fs : List (Str × D))
  | pur (n : Nat)
deriving Inhabited
/-- at v: the owned o, of the objects at g; what it holds stands in the mask -/
inductive OwAt (K : PySem.W.Frag) (Hm H : Hp) : V → O → List Addr → Prop
  | lst {p : Addr} {xs : List V} {ds : List D} : Hm p = none → H p = some (.lst xs) → DqL K Hm xs ds → OwAt K Hm H (.ref p) (.lst ds) [p]
  | dic {p : Addr} {xs : List (Key × V)} {ds : List (Key × D)} : Hm p = none → H p = some (.dK xs) → DqP K Hm xs ds → OwAt K Hm H (.ref p) (.dic ds) [p]
  | dit {p : Addr} {xs : List (List Key × V)} {ds : List (List Key × D)} : Hm p = none → H p = some (.dT xs) → DqP K Hm xs ds → OwAt K Hm H (.ref p) (.dit ds) [p]
  | obj {p C dx : Addr} {xs : List (Str × V)} {ds : List (Str × D)} : Hm p = none → Hm dx = none → dx ≠ p → H p = some (.ins C dx xs) → H dx = some (.own p) → DqP K Hm xs ds → OwAt K Hm H (.ref p) (.obj C ds) [p, dx]
  | pur {p : Addr} {n : Nat} {p0 p1 p2 : Int} : Hm p = none → H p = some (.lst [.int p0, .int p1, .int p2]) → PurseOk p0 p1 p2 n → OwAt K Hm H (.ref p) (.pur n) [p]
theorem OwAt.msk {K : PySem.W.Frag} {Hm H : Hp} {v : V} {o : O} {g : List Addr} (h : OwAt K Hm H v o g) : ∀ p ∈ g, Hm p = none := by
  cases h with
  | lst h _ _ => exact fun q hq => by rw [List.mem_singleton.mp hq]; exact h
  | dic h _ _ => exact fun q hq => by rw [List.mem_singleton.mp hq]; exact h
  | dit h _ _ => exact fun q hq => by rw [List.mem_singleton.mp hq]; exact h
  | pur h _ _ => exact fun q hq => by rw [List.mem_singleton.mp hq]; exact h
  | obj h h2 _ _ _ _ =>
      intro q hq
      rcases List.mem_cons.mp hq with rfl | hq
      · exact h
      · rw [List.mem_singleton.mp hq]; exact h2
theorem OwAt.live {K : PySem.W.Frag} {Hm H : Hp} {v : V} {o : O} {g : List Addr} (h : OwAt K Hm H v o g) : ∀ p ∈ g, ∃ u, H p = some u := by
  cases h with
  | lst _ h _ => exact fun q hq => by rw [List.mem_singleton.mp hq]; exact ⟨_, h⟩
  | dic _ h _ => exact fun q hq => by rw [List.mem_singleton.mp hq]; exact ⟨_, h⟩
  | dit _ h _ => exact fun q hq => by rw [List.mem_singleton.mp hq]; exact ⟨_, h⟩
  | pur _ h _ => exact fun q hq => by rw [List.mem_singleton.mp hq]; exact ⟨_, h⟩
  | obj _ _ _ h h2 _ =>
      intro q hq
      rcases List.mem_cons.mp hq with rfl | hq
      · exact ⟨_, h⟩
      · rw [List.mem_singleton.mp hq]; exact ⟨_, h2⟩
theorem OwAt.frame {K : PySem.W.Frag} {Hm H Hm' H' : Hp} {v : V} {o : O} {g : List Addr} (h : OwAt K Hm H v o g) (l : Le Hm Hm') (m : ∀ p ∈ g, Hm' p = none) (e : ∀ p ∈ g, ∀ u, H p = some u → H' p = some u) : OwAt K Hm' H' v o g := by
  cases h with
  | lst h1 h2 h3 => exact .lst (m _ (by simp)) (e _ (by simp) _ h2) (h3.le l)
  | dic h1 h2 h3 => exact .dic (m _ (by simp)) (e _ (by simp) _ h2) (h3.le l)
  | dit h1 h2 h3 => exact .dit (m _ (by simp)) (e _ (by simp) _ h2) (h3.le l)
  | pur h1 h2 h3 => exact .pur (m _ (by simp)) (e _ (by simp) _ h2) h3
  | obj h1 h2 n h3 h4 h5 => exact .obj (m _ (by simp)) (m _ (by simp)) n (e _ (by simp) _ h3) (e _ (by simp) _ h4) (h5.le l)
theorem OwAt.lst_inv {K : PySem.W.Frag} {Hm H : Hp} {v : V} {ds : List D} {g : List Addr} (h : OwAt K Hm H v (.lst ds) g) : ∃ p xs, v = .ref p ∧ g = [p] ∧ Hm p = none ∧ H p = some (.lst xs) ∧ DqL K Hm xs ds := by
  cases h with
  | lst a b c => exact ⟨_, _, rfl, rfl, a, b, c⟩
theorem OwAt.dic_inv {K : PySem.W.Frag} {Hm H : Hp} {v : V} {ds : List (Key × D)} {g : List Addr} (h : OwAt K Hm H v (.dic ds) g) : ∃ p xs, v = .ref p ∧ g = [p] ∧ Hm p = none ∧ H p = some (.dK xs) ∧ DqP K Hm xs ds := by
  cases h with
  | dic a b c => exact ⟨_, _, rfl, rfl, a, b, c⟩
theorem OwAt.dit_inv {K : PySem.W.Frag} {Hm H : Hp} {v : V} {ds : List (List Key × D)} {g : List Addr} (h : OwAt K Hm H v (.dit ds) g) : ∃ p xs, v = .ref p ∧ g = [p] ∧ Hm p = none ∧ H p = some (.dT xs) ∧ DqP K Hm xs ds := by
  cases h with
  | dit a b c => exact ⟨_, _, rfl, rfl, a, b, c⟩
theorem OwAt.obj_inv {K : PySem.W.Frag} {Hm H : Hp} {v : V} {C : Addr} {ds : List (Str × D)} {g : List Addr} (h : OwAt K Hm H v (.obj C ds) g) : ∃ p dx xs, v = .ref p ∧ g = [p, dx] ∧ Hm p = none ∧ Hm dx = none ∧ dx ≠ p ∧ H p = some (.ins C dx xs) ∧ H dx = some (.own p) ∧ DqP K Hm xs ds := by
  cases h with
  | obj a b c d e f => exact ⟨_, _, _, rfl, rfl, a, b, c, d, e, f⟩
theorem OwAt.pur_inv {K : PySem.W.Frag} {Hm H : Hp} {v : V} {n : Nat} {g : List Addr} (h : OwAt K Hm H v (.pur n) g) : ∃ p p0 p1 p2, v = .ref p ∧ g = [p] ∧ Hm p = none ∧ H p = some (.lst [.int p0, .int p1, .int p2]) ∧ PurseOk p0 p1 p2 n := by
  cases h with
  | pur a b c => exact ⟨_, _, _, _, rfl, rfl, a, b, c⟩
/-! ### slots -/
inductive Sl where
  | no | sh (d : D) | ow (o : O)
deriving Inhabited
abbrev Env := List Sl
def slot : Env → Nat → Sl
  | [], _ => .no
  | x :: _, 0 => x
  | _ :: r, i + 1 => slot r i
def put : Env → Nat → Sl → Env
  | [], _, _ => []
  | _ :: r, 0, s => s :: r
  | x :: r, i + 1, s => x :: put r i s
theorem put_len : ∀ (δ : Env) (i : Nat) (s : Sl), (put δ i s).length = δ.length
  | [], _, _ => rfl
  | _ :: _, 0, _ => rfl
  | _ :: r, i + 1, s => congrArg Nat.succ (put_len r i s)
theorem slot_put : ∀ (δ : Env) (i j : Nat) (s : Sl), slot (put δ i s) j = if i = j ∧ i < δ.length then s else slot δ j
  | [], i, j, s => by
    rw [if_neg fun h => absurd h.2 (Nat.not_lt_zero _)]
    rfl
  | x :: r, 0, 0, s => (if_pos ⟨rfl, Nat.succ_pos _⟩).symm
  | x :: r, 0, j + 1, s => (if_neg fun h => absurd h.1 (by omega)).symm
  | x :: r, i + 1, 0, s => (if_neg fun h => absurd h.1 (by omega)).symm
  | x :: r, i + 1, j + 1, s => by
    show slot (put r i s) j = if i + 1 = j + 1 ∧ i + 1 < r.length + 1 then s else slot r j
    rw [slot_put r i j s]
    by_cases h : i = j ∧ i < r.length
    · rw [if_pos h, if_pos ⟨by omega, by omega⟩]
    · rw [if_neg h, if_neg fun z => h ⟨by omega, by omega⟩]
theorem slot_lt : ∀ {δ : Env} {i : Nat}, slot δ i ≠ .no → i < δ.length
  | [], _, h => absurd rfl h
  | _ :: _, 0, _ => Nat.succ_pos _
  | _ :: r, i + 1, h => Nat.succ_lt_succ (slot_lt (δ := r) h)
abbrev Fp := Nat → List Addr
structure EnvOk (K : PySem.W.Frag) (Hm H : Hp) (σ : L2.St) (δ : Env) (fp : Fp) : Prop where
  len : σ.length = δ.length
  sub : Le Hm H
  sh : ∀ i d, slot δ i = .sh d → ∃ v, σ[i]? = some (some v) ∧ Dq K Hm v d
  ow : ∀ i o, slot δ i = .ow o → ∃ v, σ[i]? = some (some v) ∧ OwAt K Hm H v o (fp i)
  non : ∀ i, (∀ o, slot δ i ≠ .ow o) → fp i = []
  dis : ∀ i j p, p ∈ fp i → p ∈ fp j → i = j
/-- from H to H': the mask grows, what is not owned stands, what is owned behind was owned or is new -/
structure Step (Hm H : Hp) (fp : Fp) (Hm' H' : Hp) (fp' : Fp) : Prop where
  mask : Same Hm Hm'
  keep : ∀ p o, H p = some o → (∀ i, p ∉ fp i) → H' p = some o
  new : ∀ i p, p ∈ fp' i → (∃ j, p ∈ fp j) ∨ H p = none
  only : ∀ p o, Hm' p = some o → (∃ u, Hm p = some u) ∨ (∃ j, p ∈ fp j) ∨ H p = none
  dom : ∀ p, H' p = none → H p = none
theorem sm_dom {H H' : Hp} (s : Same H H') (p : Addr) (h : H' p = none) : H p = none := by
  cases e : H p with
  | none => rfl
  | some o => rw [s p o e] at h; cases h
theorem Step.refl (Hm H : Hp) (fp : Fp) : Step Hm H fp Hm H fp := ⟨Same.refl _, fun _ _ e _ => e, fun i _ h => .inl ⟨i, h⟩, fun p o e => .inl ⟨o, e⟩, fun _ h => h⟩
theorem Step.trans {A a B b C c : Hp} {f g h : Fp} (s : Step A a f B b g) (t : Step B b g C c h) : Step A a f C c h := by
  have back : ∀ p, b p = none → (∃ j, p ∈ f j) ∨ a p = none := fun p z => by
    by_cases q : ∃ j, p ∈ f j
    · exact .inl q
    · refine .inr ?_
      cases e : a p with
      | none => rfl
      | some o =>
        rw [s.keep p o e fun i hi => q ⟨i, hi⟩] at z
        cases z
  refine ⟨s.mask.trans t.mask, fun p o e n => t.keep p o (s.keep p o e n) fun i hi => ?_, fun i p hp => ?_, fun p o e => ?_, fun p h => s.dom p (t.dom p h)⟩
  · rcases s.new i p hi with ⟨j, hj⟩ | z
    · exact n j hj
    · rw [e] at z; cases z
  · rcases t.new i p hp with ⟨j, hj⟩ | z
    · exact s.new j p hj
    · exact back p z
  · rcases t.only p o e with ⟨u, q⟩ | ⟨j, hj⟩ | z
    · exact s.only p u q
    · exact .inr (s.new j p hj)
    · exact .inr (back p z)
/-- new objects alone -/
structure New (Hm H Hm' H' : Hp) : Prop where
  mask : Same Hm Hm'
  keep : Same H H'
  sub : Le Hm' H'
  only : ∀ p o, Hm' p = some o → (∃ u, Hm p = some u) ∨ H p = none
theorem New.refl {Hm H : Hp} (l : Le Hm H) : New Hm H Hm H := ⟨Same.refl _, Same.refl _, l, fun p o e => .inl ⟨o, e⟩⟩
theorem none_of_le {Hm H : Hp} (l : Le Hm H) {p : Addr} (h : H p = none) : Hm p = none := by
  cases e : Hm p with
  | none => rfl
  | some o =>
    rcases l p o e with z | ⟨_, ob, z⟩
    · rw [h] at z; cases z
    · rw [h] at z; cases z
theorem New.one {Hm H : Hp} (l : Le Hm H) {p : Addr} {o : HO} (h : H p = none) : New Hm H (upd Hm p o) (upd H p o) := by
  refine ⟨same_upd (none_of_le l h), same_upd h, fun b u e => ?_, fun q u e => ?_⟩
  · by_cases z : b = p
    · subst z
      rw [upd_same] at e ⊢
      exact .inl e
    · rw [upd_ne z] at e ⊢
      exact l b u e
  · by_cases z : q = p
    · subst z; exact .inr h
    · rw [upd_ne z] at e; exact .inl ⟨u, e⟩
theorem New.trans {A a B b C c : Hp} (s : New A a B b) (t : New B b C c) : New A a C c := by
  refine ⟨s.mask.trans t.mask, s.keep.trans t.keep, t.sub, fun p o e => ?_⟩
  rcases t.only p o e with ⟨u, h⟩ | z
  · exact s.only p u h
  · refine .inr ?_
    cases e : a p with
    | none => rfl
    | some o => rw [s.keep p o e] at z; cases z
theorem New.step {Hm H Hm' H' : Hp} (n : New Hm H Hm' H') (fp : Fp) : Step Hm H fp Hm' H' fp := ⟨n.mask, fun p o e _ => n.keep p o e, fun i p h => .inl ⟨i, h⟩, fun p o e => (n.only p o e).imp_right .inr, sm_dom n.keep⟩
section
variable {K : PySem.W.Frag} {Hm H Hm' H' : Hp} {σ : L2.St} {δ : Env} {fp : Fp}
theorem EnvOk.new (E : EnvOk K Hm H σ δ fp) (n : New Hm H Hm' H') : EnvOk K Hm' H' σ δ fp := by
  refine ⟨E.len, n.sub, fun i d e => ?_, fun i o e => ?_, E.non, E.dis⟩
  · obtain ⟨v, a, b⟩ := E.sh i d e
    exact ⟨v, a, b.le (.of n.mask)⟩
  · obtain ⟨v, a, b⟩ := E.ow i o e
    refine ⟨v, a, b.frame (.of n.mask) (fun p hp => ?_) fun p _ u e => n.keep p u e⟩
    cases z : Hm' p with
    | none => rfl
    | some o' =>
      rcases n.only p o' z with ⟨u, q⟩ | q
      · rw [b.msk p hp] at q; cases q
      · obtain ⟨u, hu⟩ := b.live p hp
        rw [hu] at q; cases q
theorem EnvOk.put_no (E : EnvOk K Hm H σ δ fp) (i : Nat) (x : Option V) : EnvOk K Hm H (σ.set i x) (put δ i .no) fun j => if j = i then [] else fp j := by
  refine ⟨by rw [List.length_set, put_len]; exact E.len, E.sub, fun j d e => ?_, fun j o e => ?_, fun j h => ?_, fun j k p hj hk => ?_⟩
  · rw [slot_put] at e
    split at e
    · cases e
    · rename_i n
      obtain ⟨v, a, b⟩ := E.sh j d e
      have : i ≠ j := fun z => by
        subst z
        have := slot_lt (δ := δ) (i := i) (by rw [e]; nofun)
        exact n ⟨rfl, this⟩
      exact ⟨v, by rw [List.getElem?_set_ne this]; exact a, b⟩
  · rw [slot_put] at e
    split at e
    · cases e
    · rename_i n
      obtain ⟨v, a, b⟩ := E.ow j o e
      have : i ≠ j := fun z => by
        subst z
        have := slot_lt (δ := δ) (i := i) (by rw [e]; nofun)
        exact n ⟨rfl, this⟩
      refine ⟨v, by rw [List.getElem?_set_ne this]; exact a, ?_⟩
      rw [if_neg (Ne.symm this)]
      exact b
  · by_cases z : j = i
    · exact if_pos z
    · refine (if_neg z).trans (E.non j fun o q => h o ?_)
      rw [slot_put, if_neg fun y => z y.1.symm]
      exact q
  · by_cases z : j = i
    · rw [if_pos z] at hj; cases hj
    · by_cases y : k = i
      · rw [if_pos y] at hk; cases hk
      · rw [if_neg z] at hj
        rw [if_neg y] at hk
        exact E.dis j k p hj hk
theorem EnvOk.put_sh (E : EnvOk K Hm H σ δ fp) (i : Nat) {v : V} {d : D} (h : Dq K Hm v d) : EnvOk K Hm H (σ.set i (some v)) (put δ i (.sh d)) fun j => if j = i then [] else fp j := by
  have N := E.put_no i (some v)
  refine ⟨by rw [List.length_set, put_len]; exact E.len, E.sub, fun j d' e => ?_, fun j o e => ?_, fun j hj => ?_, N.dis⟩
  · rw [slot_put] at e
    split at e
    · rename_i z
      cases e
      rw [← z.1]
      exact ⟨v, by rw [List.getElem?_set_self (by rw [E.len]; exact z.2)], h⟩
    · rename_i z
      refine N.sh j d' ?_
      rw [slot_put, if_neg z]
      exact e
  · rw [slot_put] at e
    split at e
    · cases e
    · rename_i z
      refine N.ow j o ?_
      rw [slot_put, if_neg z]
      exact e
  · refine N.non j fun o q => hj o ?_
    rw [slot_put] at q ⊢
    split at q
    · cases q
    · rename_i z
      rw [if_neg z]
      exact q
theorem step_less (Hm H : Hp) (fp : Fp) (i : Nat) : Step Hm H fp Hm H fun j => if j = i then [] else fp j :=
  ⟨Same.refl _, fun _ _ e _ => e, fun j p h => by
    by_cases z : j = i
    · rw [if_pos z] at h; cases h
    · rw [if_neg z] at h; exact .inl ⟨j, h⟩, fun p o e => .inl ⟨o, e⟩, fun _ h => h⟩
theorem EnvOk.forget (E : EnvOk K Hm H σ δ fp) (i : Nat) : EnvOk K Hm H σ (put δ i .no) fun j => if j = i then [] else fp j := by
  have lt : ∀ {j : Nat} {s : Sl}, slot δ j = s → s ≠ .no → ¬ (i = j ∧ i < δ.length) → i ≠ j := fun {j s} e h n z => by
    subst z
    exact n ⟨rfl, slot_lt (δ := δ) (i := i) (by rw [e]; exact h)⟩
  refine ⟨by rw [put_len]; exact E.len, E.sub, fun j d e => ?_, fun j o e => ?_, fun j h => ?_, fun j k p hj hk => ?_⟩
  · rw [slot_put] at e
    split at e
    · cases e
    · exact E.sh j d e
  · rw [slot_put] at e
    split at e
    · cases e
    · rename_i n
      rw [if_neg (Ne.symm (lt e (by nofun) n))]
      exact E.ow j o e
  · by_cases z : j = i
    · exact if_pos z
    · refine (if_neg z).trans (E.non j fun o q => h o ?_)
      rw [slot_put, if_neg fun y => z y.1.symm]
      exact q
  · by_cases z : j = i
    · rw [if_pos z] at hj; cases hj
    · by_cases y : k = i
      · rw [if_pos y] at hk; cases hk
      · rw [if_neg z] at hj
        rw [if_neg y] at hk
        exact E.dis j k p hj hk
/-- a slot is given an owned thing at g -/
theorem EnvOk.put_ow (E : EnvOk K Hm H σ δ fp) (i : Nat) (hi : i < δ.length) {v : V} {o : O} {g : List Addr} (h : OwAt K Hm H v o g) (a : ∀ j p, p ∈ fp j → p ∈ g → j = i) : EnvOk K Hm H (σ.set i (some v)) (put δ i (.ow o)) fun j => if j = i then g else fp j := by
  have N := E.put_no i (some v)
  refine ⟨by rw [List.length_set, put_len]; exact E.len, E.sub, fun j d' e => ?_, fun j o' e => ?_, fun j hj => ?_, fun j k p hj hk => ?_⟩
  · rw [slot_put] at e
    split at e
    · cases e
    · rename_i z
      refine N.sh j d' ?_
      rw [slot_put, if_neg z]
      exact e
  · rw [slot_put] at e
    split at e
    · rename_i z
      cases e
      rw [← z.1]
      exact ⟨v, by rw [List.getElem?_set_self (by rw [E.len]; exact z.2)], by rw [if_pos rfl]; exact h⟩
    · rename_i z
      have ji : j ≠ i := fun y => z ⟨y.symm, hi⟩
      obtain ⟨w, p, q⟩ := E.ow j o' e
      refine ⟨w, by rw [List.getElem?_set_ne (Ne.symm ji)]; exact p, ?_⟩
      rw [if_neg ji]
      exact q
  · by_cases z : j = i
    · subst z
      exact absurd (by rw [slot_put, if_pos ⟨rfl, hi⟩]) (hj o)
    · refine (if_neg z).trans (E.non j fun o' q => hj o' ?_)
      rw [slot_put, if_neg fun y => z y.1.symm]
      exact q
  · by_cases z : j = i
    · rw [if_pos z] at hj
      by_cases y : k = i
      · rw [z, y]
      · rw [if_neg y] at hk
        exact absurd (a k p hk hj) y
    · rw [if_neg z] at hj
      by_cases y : k = i
      · rw [if_pos y] at hk
        exact absurd (a j p hj hk) z
      · rw [if_neg y] at hk
        exact E.dis j k p hj hk
end
end DN
set_option Elab.async false
set_option linter.all false
set_option maxRecDepth 100000
set_option maxHeartbeats 4000000
/-! what an expression does to data, as a condition on what is wanted behind it -/
namespace DN
open PySem PySem.Spec PyProof.Rows L2
/-- an exception: its class, its fields (none: it has no dict) -/
abbrev Er := Addr × Option (List (Str × D))
abbrev W (α : Type) := Env → (α → Env → Prop) → (Er → Prop) → Prop
def XOk (K : PySem.W.Frag) (E : XK) (Hm H : Hp) (fp : Fp) (e : Er) : Prop := ∀ Hm' H' fp', Step Hm H fp Hm' H' fp' → Le Hm' H' →
  match e.2 with
  | some fs => ∀ dd xs, H' dd = some (.xd xs) → DqP K Hm' xs fs → E (.ref e.1) (some dd) H'
  | none => E (.ref e.1) none H'
theorem XOk.step {K : PySem.W.Frag} {E : XK} {Hm H Hm' H' : Hp} {fp fp' : Fp} {e : Er} (s : Step Hm H fp Hm' H' fp') (h : XOk K E Hm H fp e) : XOk K E Hm' H' fp' e := fun Hm2 H2 fp2 t l => h Hm2 H2 fp2 (s.trans t) l
/-- values of the kind β read as data of the kind α -/
abbrev Rdg (α β : Type) := Hp → β → α → Prop
def tG {α β : Type} (K : PySem.W.Frag) (E : XK) (rd : Rdg α β) (F : W α) : L2.St → Hp → (β → Hp → Prop) → Prop := fun σ H Q => ∃ Hm δ fp P R, EnvOk K Hm H σ δ fp ∧ F δ P R ∧
  (∀ d δ', P d δ' → ∀ v Hm' H' fp', Step Hm H fp Hm' H' fp' → EnvOk K Hm' H' σ δ' fp' → rd Hm' v d → Q v H') ∧ ∀ e, R e → XOk K E Hm H fp e
abbrev tE (K : PySem.W.Frag) (E : XK) (F : W D) : TE := tG K E (Dq K) F
abbrev tL (K : PySem.W.Frag) (E : XK) (F : W (List D)) : TA := tG K E (DqL K) F
abbrev tT (K : PySem.W.Frag) (E : XK) (F : W Bool) : TT := tG K E (fun _ b c => b = c) F
abbrev tS1 (K : PySem.W.Frag) (E : XK) (F : W Unit) : L2.St → Hp → (Unit → Hp → Prop) → Prop := tG K E (fun _ _ _ => True) F
theorem peI {X : Cx} {e : Expr} {t t' : TE} (h : PE X e t) (m : ∀ σ H Q, t' σ H Q → t σ H Q) : PE X e t' := ⟨fun pins s σ H Q I q => h.run pins s σ H Q I (m σ H Q q)⟩
theorem ptI {X : Cx} {e : Expr} {t t' : TT} (h : PT X e t) (m : ∀ σ H Q, t' σ H Q → t σ H Q) : PT X e t' := ⟨fun pins s σ H Q I q => h.run pins s σ H Q I (m σ H Q q)⟩
theorem pwI {X : Cx} {e : Expr} {t t' : TT} (h : PW X e t) (m : ∀ σ H Q, t' σ H Q → t σ H Q) : PW X e t' := ⟨fun wh pins s σ H Q I q => h.run wh pins s σ H Q I (m σ H Q q)⟩
theorem paI {X : Cx} {e : List Expr} {t t' : TA} (h : PA X e t) (m : ∀ σ H Q, t' σ H Q → t σ H Q) : PA X e t' := ⟨fun pos pins s σ H Q I q => h.run pos pins s σ H Q I (m σ H Q q)⟩
/-! ### words -/
def ret {α : Type} (d : α) : W α := fun δ P _ => P d δ
def bnd {α β : Type} (F : W α) (G : α → W β) : W β := fun δ P R => F δ (fun x δ1 => G x δ1 P R) R
def var (i : Nat) : W D := fun δ P _ => match slot δ i with
  | .sh d => P d δ
  | _ => False
/-- what an operation on data asks and gives -/
abbrev G1 := D → (D → Prop) → Prop
abbrev G2 := D → D → (D → Prop) → Prop
abbrev GN := List D → (D → Prop) → Prop
def ap1 (g : G1) (F : W D) : W D := fun δ P R => F δ (fun x δ1 => g x fun d => P d δ1) R
def ap2 (g : G2) (F G : W D) : W D := fun δ P R => F δ (fun x δ1 => G δ1 (fun y δ2 => g x y fun d => P d δ2) R) R
def apN (g : GN) (F : W (List D)) : W D := fun δ P R => F δ (fun xs δ1 => g xs fun d => P d δ1) R
def nilW : W (List D) := ret []
def consW (F : W D) (G : W (List D)) : W (List D) := fun δ P R => F δ (fun x δ1 => G δ1 (fun xs δ2 => P (x :: xs) δ2) R) R
section
variable {K : PySem.W.Frag} {E : XK} {α β γ ε : Type} {rd : Rdg α β} {rd' : Rdg γ ε} {F : W α} {σ : L2.St} {H : Hp}
/-- the first part runs; what is wanted behind it is told at the heap that it leaves -/
theorem tG.bind {T : (β → Hp → Prop) → Prop} {G : α → W γ} {Q : ε → Hp → Prop} (h : tG K E rd' (bnd F G) σ H Q) {Q' : β → Hp → Prop}
    (m : ∀ v d Hm' H' δ' fp' P R, EnvOk K Hm' H' σ δ' fp' → rd Hm' v d → G d δ' P R → (∀ d2 δ2, P d2 δ2 → ∀ v2 Hm2 H2 fp2, Step Hm' H' fp' Hm2 H2 fp2 → EnvOk K Hm2 H2 σ δ2 fp2 → rd' Hm2 v2 d2 → Q v2 H2) → (∀ e, R e → XOk K E Hm' H' fp' e) → Q' v H') : tG K E rd F σ H Q' := by
  obtain ⟨Hm, δ, fp, P, R, env, hF, hP, hR⟩ := h
  exact ⟨Hm, δ, fp, _, R, env, hF, fun d δ' hG v Hm' H' fp' s env' r => m v d Hm' H' δ' fp' P R env' r hG (fun d2 δ2 p v2 Hm2 H2 fp2 s2 e2 r2 => hP d2 δ2 p v2 Hm2 H2 fp2 (s.trans s2) e2 r2) fun e he => (hR e he).step s, hR⟩
end
def Prim1 (K : PySem.W.Frag) (r : V → Hp → VK → Prop) (g : G1) : Prop := ∀ Hm H v x P Q, Le Hm H → Dq K Hm v x → g x P → (∀ d u Hm' H', P d → New Hm H Hm' H' → Dq K Hm' u d → Q u H') → r v H Q
def Prim2 (K : PySem.W.Frag) (r : R2) (g : G2) : Prop := ∀ Hm H v w x y P Q, Le Hm H → Dq K Hm v x → Dq K Hm w y → g x y P → (∀ d u Hm' H', P d → New Hm H Hm' H' → Dq K Hm' u d → Q u H') → r v w H Q
def PrimN (K : PySem.W.Frag) (r : List V → Hp → VK → Prop) (g : GN) : Prop := ∀ Hm H vs ds P Q, Le Hm H → DqL K Hm vs ds → g ds P → (∀ d u Hm' H', P d → New Hm H Hm' H' → Dq K Hm' u d → Q u H') → r vs H Q
section
variable {X : Cx} {E : XK} {e : Expr} {es : List Expr} {F Fa Fb Fc : W D} {FL : W (List D)} {FB FC : W Bool}
theorem m_var {i : Nat} (h : PE X e (tVar i)) : PE X e (tE X.K E (var i)) := peI h fun σ H Q ⟨Hm, δ, fp, P, R, env, hF, hP, hR⟩ => by
  unfold var at hF
  cases s : slot δ i with
  | no => rw [s] at hF; exact hF.elim
  | ow o => rw [s] at hF; exact hF.elim
  | sh d =>
    rw [s] at hF
    obtain ⟨v, a, b⟩ := env.sh i d s
    exact ⟨v, a, hP d δ hF v Hm H fp (.refl ..) env b⟩
theorem m_c {v : V} {d : D} (h : PE X e (tC v)) (r : ∀ H, Dq X.K H v d) : PE X e (tE X.K E (ret d)) := peI h fun σ H Q ⟨Hm, δ, fp, P, R, env, hF, hP, hR⟩ => hP d δ hF v Hm H fp (.refl ..) env (r _)
theorem m_op {r : R2} {g : G2} (h : PE X e (tOp r (tE X.K E Fa) (tE X.K E Fb))) (p : Prim2 X.K r g) : PE X e (tE X.K E (ap2 g Fa Fb)) := peI h fun σ H Q ⟨Hm, δ, fp, P, R, env, hF, hP, hR⟩ =>
  ⟨Hm, δ, fp, _, R, env, hF, fun x δ1 h1 v Hm1 H1 fp1 s1 e1 dv => ⟨Hm1, δ1, fp1, _, R, e1, h1, fun y δ2 h2 w Hm2 H2 fp2 s2 e2 dw =>
    p Hm2 H2 v w x y _ Q e2.sub (dv.le (.of s2.mask)) dw h2 fun d u Hm3 H3 hp n du => hP d δ2 hp u Hm3 H3 fp2 ((s1.trans s2).trans (n.step _)) (e2.new n) du, fun e he => (hR e he).step s1⟩, hR⟩
theorem m_un {r : V → Hp → VK → Prop} {g : G1} (h : PE X e (tUn r (tE X.K E Fa))) (p : Prim1 X.K r g) : PE X e (tE X.K E (ap1 g Fa)) := peI h fun σ H Q ⟨Hm, δ, fp, P, R, env, hF, hP, hR⟩ =>
  ⟨Hm, δ, fp, _, R, env, hF, fun x δ1 h1 v Hm1 H1 fp1 s1 e1 dv => p Hm1 H1 v x _ Q e1.sub dv h1 fun d u Hm3 H3 hp n du => hP d δ1 hp u Hm3 H3 fp1 (s1.trans (n.step _)) (e1.new n) du, hR⟩
theorem m_cb {r : List V → Hp → VK → Prop} {g : GN} (h : PE X e (tCB r (tL X.K E FL))) (p : PrimN X.K r g) : PE X e (tE X.K E (apN g FL)) := peI h fun σ H Q ⟨Hm, δ, fp, P, R, env, hF, hP, hR⟩ =>
  ⟨Hm, δ, fp, _, R, env, hF, fun x δ1 h1 v Hm1 H1 fp1 s1 e1 dv => p Hm1 H1 v x _ Q e1.sub dv h1 fun d u Hm3 H3 hp n du => hP d δ1 hp u Hm3 H3 fp1 (s1.trans (n.step _)) (e1.new n) du, hR⟩
theorem m_nil (h : PA X es tNil) : PA X es (tL X.K E nilW) := paI h fun σ H Q ⟨Hm, δ, fp, P, R, env, hF, hP, hR⟩ => hP [] δ hF [] Hm H fp (.refl ..) env .nil
theorem m_cons (h : PA X es (tCons (tE X.K E F) (tL X.K E FL))) : PA X es (tL X.K E (consW F FL)) := paI h fun σ H Q ⟨Hm, δ, fp, P, R, env, hF, hP, hR⟩ =>
  ⟨Hm, δ, fp, _, R, env, hF, fun x δ1 h1 v Hm1 H1 fp1 s1 e1 dv => ⟨Hm1, δ1, fp1, _, R, e1, h1, fun y δ2 h2 w Hm2 H2 fp2 s2 e2 dw => hP (x :: y) δ2 h2 (v :: w) Hm2 H2 fp2 (s1.trans s2) e2 (.cons (dv.le (.of s2.mask)) dw), fun e he => (hR e he).step s1⟩, hR⟩
def mkT : GN := fun xs P => xs.length ≤ sizeLine ∧ P (.tup xs)
def mkL : GN := fun xs P => xs.length ≤ sizeLine ∧ P (.lst xs)
theorem m_tup (h : PE X e (tTup (tL X.K E FL))) : PE X e (tE X.K E (apN mkT FL)) := peI h fun σ H Q ⟨Hm, δ, fp, P, R, env, hF, hP, hR⟩ =>
  ⟨Hm, δ, fp, _, R, env, hF, fun x δ1 h1 v Hm1 H1 fp1 s1 e1 dv => ⟨by rw [dv.len]; exact h1.1, fun p hp => by
    have n := New.one e1.sub (o := .tup v) hp
    exact hP _ δ1 h1.2 _ _ _ fp1 (s1.trans (n.step _)) (e1.new n) (.tup (.of upd_same) (dv.le (.of n.mask)))⟩, hR⟩
theorem m_lst (h : PE X e (tLst (tL X.K E FL))) : PE X e (tE X.K E (apN mkL FL)) := peI h fun σ H Q ⟨Hm, δ, fp, P, R, env, hF, hP, hR⟩ =>
  ⟨Hm, δ, fp, _, R, env, hF, fun x δ1 h1 v Hm1 H1 fp1 s1 e1 dv => ⟨by rw [dv.len]; exact h1.1, fun p hp => by
    have n := New.one e1.sub (o := .lst v) hp
    exact hP _ δ1 h1.2 _ _ _ fp1 (s1.trans (n.step _)) (e1.new n) (.lst upd_same (dv.le (.of n.mask)))⟩, hR⟩
/-! ### tests -/
def isB : D → (Bool → Prop) → Prop
  | .bl c, P => P c
  | _, _ => False
def tst (F : W D) : W Bool := fun δ P R => F δ (fun d δ1 => isB d fun c => P c δ1) R
theorem rd_bl {K : PySem.W.Frag} {Hm : Hp} {v : V} {d : D} {P : Bool → Prop} (h : Dq K Hm v d) (q : isB d P) : ∃ c, v = .bl c ∧ d = .bl c ∧ P c := by
  cases h with
  | bl c => exact ⟨c, rfl, rfl, q⟩
  | _ => exact q.elim
theorem m_val (h : PT X e (tB (tE X.K E F))) : PT X e (tT X.K E (tst F)) := ptI h fun σ H Q ⟨Hm, δ, fp, P, R, env, hF, hP, hR⟩ =>
  ⟨Hm, δ, fp, _, R, env, hF, fun x δ1 h1 v Hm1 H1 fp1 s1 e1 dv => by
    obtain ⟨c, rfl, rfl, q⟩ := rd_bl dv h1
    exact ⟨c, rfl, hP c δ1 q c Hm1 H1 fp1 s1 e1 rfl⟩, hR⟩
theorem m_tst {r : R2} {g : G2} (h : PT X e (tTest (tOp r (tE X.K E Fa) (tE X.K E Fb)))) (p : Prim2 X.K r g) : PT X e (tT X.K E (tst (ap2 g Fa Fb))) := ptI h fun σ H Q ⟨Hm, δ, fp, P, R, env, hF, hP, hR⟩ =>
  ⟨Hm, δ, fp, _, R, env, hF, fun x δ1 h1 v Hm1 H1 fp1 s1 e1 dv => ⟨Hm1, δ1, fp1, _, R, e1, h1, fun y δ2 h2 w Hm2 H2 fp2 s2 e2 dw =>
    p Hm2 H2 v w x y _ _ e2.sub (dv.le (.of s2.mask)) dw h2 fun d u Hm3 H3 hp n du => by
      obtain ⟨c, rfl, rfl, q⟩ := rd_bl du hp
      exact ⟨c, rfl, hP c δ2 q c Hm3 H3 fp2 ((s1.trans s2).trans (n.step _)) (e2.new n) rfl⟩, fun e he => (hR e he).step s1⟩, hR⟩
def andT (F G : W Bool) : W Bool := fun δ P R => F δ (fun c δ1 => if c = true then G δ1 P R else P false δ1) R
def orT (F G : W Bool) : W Bool := fun δ P R => F δ (fun c δ1 => if c = true then P true δ1 else G δ1 P R) R
def notT (F : W Bool) : W Bool := fun δ P R => F δ (fun c δ1 => P (!c) δ1) R
theorem x_and {σ : L2.St} {H : Hp} {Q : Bool → Hp → Prop} {K : PySem.W.Frag} : tT K E (andT FB FC) σ H Q → tAnd (tT K E FB) (tT K E FC) σ H Q := fun ⟨Hm, δ, fp, P, R, env, hF, hP, hR⟩ =>
  ⟨Hm, δ, fp, _, R, env, hF, fun c δ1 h1 v Hm1 H1 fp1 s1 e1 dv => by
    have dv : v = c := dv
    subst dv
    cases v with
    | true => exact ⟨Hm1, δ1, fp1, P, R, e1, h1, fun y δ2 h2 w Hm2 H2 fp2 s2 e2 dw => hP y δ2 h2 w Hm2 H2 fp2 (s1.trans s2) e2 dw, fun e he => (hR e he).step s1⟩
    | false => exact hP _ δ1 h1 _ Hm1 H1 fp1 s1 e1 rfl, hR⟩
theorem x_or {σ : L2.St} {H : Hp} {Q : Bool → Hp → Prop} {K : PySem.W.Frag} : tT K E (orT FB FC) σ H Q → tOr (tT K E FB) (tT K E FC) σ H Q := fun ⟨Hm, δ, fp, P, R, env, hF, hP, hR⟩ =>
  ⟨Hm, δ, fp, _, R, env, hF, fun c δ1 h1 v Hm1 H1 fp1 s1 e1 dv => by
    have dv : v = c := dv
    subst dv
    cases v with
    | true => exact hP _ δ1 h1 _ Hm1 H1 fp1 s1 e1 rfl
    | false => exact ⟨Hm1, δ1, fp1, P, R, e1, h1, fun y δ2 h2 w Hm2 H2 fp2 s2 e2 dw => hP y δ2 h2 w Hm2 H2 fp2 (s1.trans s2) e2 dw, fun e he => (hR e he).step s1⟩, hR⟩
theorem m_and (h : PW X e (tAnd (tT X.K E FB) (tT X.K E FC))) : PW X e (tT X.K E (andT FB FC)) := pwI h fun σ H Q => x_and
theorem m_or (h : PW X e (tOr (tT X.K E FB) (tT X.K E FC))) : PW X e (tT X.K E (orT FB FC)) := pwI h fun σ H Q => x_or
theorem m_not (h : PT X e (tNot (tT X.K E FB))) : PT X e (tT X.K E (notT FB)) := ptI h fun σ H Q ⟨Hm, δ, fp, P, R, env, hF, hP, hR⟩ =>
  ⟨Hm, δ, fp, _, R, env, hF, fun c δ1 h1 v Hm1 H1 fp1 s1 e1 dv => hP _ δ1 h1 _ Hm1 H1 fp1 s1 e1 (by rw [show v = c from dv]), hR⟩
/-! .. as values -/
def andV (F G : W D) : W D := fun δ P R => F δ (fun d δ1 => isB d fun c => if c = true then G δ1 P R else P (.bl false) δ1) R
def orV (F G : W D) : W D := fun δ P R => F δ (fun d δ1 => isB d fun c => if c = true then P (.bl true) δ1 else G δ1 P R) R
def notV : G1 := fun d P => isB d fun c => P (.bl (!c))
theorem m_andV (h : PE X e (tAndV (tE X.K E Fa) (tE X.K E Fb))) : PE X e (tE X.K E (andV Fa Fb)) := peI h fun σ H Q ⟨Hm, δ, fp, P, R, env, hF, hP, hR⟩ =>
  ⟨Hm, δ, fp, _, R, env, hF, fun x δ1 h1 v Hm1 H1 fp1 s1 e1 dv => by
    obtain ⟨c, rfl, rfl, h1⟩ := rd_bl dv h1
    refine ⟨c, rfl, ?_⟩
    cases c with
    | true => exact ⟨Hm1, δ1, fp1, P, R, e1, h1, fun y δ2 h2 w Hm2 H2 fp2 s2 e2 dw => hP y δ2 h2 w Hm2 H2 fp2 (s1.trans s2) e2 dw, fun e he => (hR e he).step s1⟩
    | false => exact hP _ δ1 h1 _ Hm1 H1 fp1 s1 e1 (.bl _), hR⟩
theorem m_orV (h : PE X e (tOrV (tE X.K E Fa) (tE X.K E Fb))) : PE X e (tE X.K E (orV Fa Fb)) := peI h fun σ H Q ⟨Hm, δ, fp, P, R, env, hF, hP, hR⟩ =>
  ⟨Hm, δ, fp, _, R, env, hF, fun x δ1 h1 v Hm1 H1 fp1 s1 e1 dv => by
    obtain ⟨c, rfl, rfl, h1⟩ := rd_bl dv h1
    refine ⟨c, rfl, ?_⟩
    cases c with
    | true => exact hP _ δ1 h1 _ Hm1 H1 fp1 s1 e1 (.bl _)
    | false => exact ⟨Hm1, δ1, fp1, P, R, e1, h1, fun y δ2 h2 w Hm2 H2 fp2 s2 e2 dw => hP y δ2 h2 w Hm2 H2 fp2 (s1.trans s2) e2 dw, fun e he => (hR e he).step s1⟩, hR⟩
theorem m_notV (h : PE X e (tNotV (tE X.K E Fa))) : PE X e (tE X.K E (ap1 notV Fa)) := peI h fun σ H Q ⟨Hm, δ, fp, P, R, env, hF, hP, hR⟩ =>
  ⟨Hm, δ, fp, _, R, env, hF, fun x δ1 h1 v Hm1 H1 fp1 s1 e1 dv => by
    obtain ⟨c, rfl, rfl, h1⟩ := rd_bl dv h1
    exact ⟨c, rfl, hP _ δ1 h1 _ Hm1 H1 fp1 s1 e1 (.bl _)⟩, hR⟩
def ifW (c : W Bool) (F G : W D) : W D := fun δ P R => c δ (fun b δ1 => if b = true then F δ1 P R else G δ1 P R) R
theorem m_if (h : PE X e (tIf (tT X.K E FB) (tE X.K E Fa) (tE X.K E Fb))) : PE X e (tE X.K E (ifW FB Fa Fb)) := peI h fun σ H Q ⟨Hm, δ, fp, P, R, env, hF, hP, hR⟩ =>
  ⟨Hm, δ, fp, _, R, env, hF, fun c δ1 h1 v Hm1 H1 fp1 s1 e1 dv => by
    have dv : v = c := dv
    subst dv
    cases v with
    | true => exact ⟨Hm1, δ1, fp1, P, R, e1, h1, fun y δ2 h2 w Hm2 H2 fp2 s2 e2 dw => hP y δ2 h2 w Hm2 H2 fp2 (s1.trans s2) e2 dw, fun e he => (hR e he).step s1⟩
    | false => exact ⟨Hm1, δ1, fp1, P, R, e1, h1, fun y δ2 h2 w Hm2 H2 fp2 s2 e2 dw => hP y δ2 h2 w Hm2 H2 fp2 (s1.trans s2) e2 dw, fun e he => (hR e he).step s1⟩, hR⟩
/-- a < b < c -/
def chW (g g' : G2) (F G J : W D) : W D := fun δ P R => F δ (fun x δ1 => G δ1 (fun y δ2 => g x y fun d => isB d fun k => if k = true then J δ2 (fun z δ3 => g' y z fun d => P d δ3) R else P (.bl false) δ2) R) R
theorem m_chn {r r' : R2} {g g' : G2} (h : PE X e (tChain r r' (tE X.K E Fa) (tE X.K E Fb) (tE X.K E Fc))) (p : Prim2 X.K r g) (p' : Prim2 X.K r' g') : PE X e (tE X.K E (chW g g' Fa Fb Fc)) := peI h fun σ H Q ⟨Hm, δ, fp, P, R, env, hF, hP, hR⟩ =>
  ⟨Hm, δ, fp, _, R, env, hF, fun x δ1 h1 v Hm1 H1 fp1 s1 e1 dv => ⟨Hm1, δ1, fp1, _, R, e1, h1, fun y δ2 h2 w Hm2 H2 fp2 s2 e2 dw =>
    p Hm2 H2 v w x y _ _ e2.sub (dv.le (.of s2.mask)) dw h2 fun d u Hm3 H3 hp n du => by
      obtain ⟨k, rfl, rfl, hp⟩ := rd_bl du hp
      have s3 := n.step fp2
      have e3 := e2.new n
      have s13 := (s1.trans s2).trans s3
      refine ⟨k, rfl, ?_⟩
      cases k with
      | true => exact ⟨Hm3, δ2, fp2, _, R, e3, hp, fun y' δ4 h4 w' Hm4 H4 fp4 s4 e4 dw' => p' Hm4 H4 w w' y y' _ _ e4.sub ((dw.le (.of n.mask)).le (.of s4.mask)) dw' h4 fun d u Hm5 H5 hp5 n5 du => hP d δ4 hp5 u Hm5 H5 fp4 ((s13.trans s4).trans (n5.step _)) (e4.new n5) du, fun e he => (hR e he).step s13⟩
      | false => exact hP _ δ2 hp _ Hm3 H3 fp2 s13 e3 (.bl _), fun e he => (hR e he).step s1⟩, hR⟩
theorem m_chnT {r r' : R2} {g g' : G2} (h : PT X e (tTest (tChain r r' (tE X.K E Fa) (tE X.K E Fb) (tE X.K E Fc)))) (p : Prim2 X.K r g) (p' : Prim2 X.K r' g') : PT X e (tT X.K E (tst (chW g g' Fa Fb Fc))) := ptI h fun σ H Q ⟨Hm, δ, fp, P, R, env, hF, hP, hR⟩ =>
  ⟨Hm, δ, fp, _, R, env, hF, fun x δ1 h1 v Hm1 H1 fp1 s1 e1 dv => ⟨Hm1, δ1, fp1, _, R, e1, h1, fun y δ2 h2 w Hm2 H2 fp2 s2 e2 dw =>
    p Hm2 H2 v w x y _ _ e2.sub (dv.le (.of s2.mask)) dw h2 fun d u Hm3 H3 hp n du => by
      obtain ⟨k, rfl, rfl, hp⟩ := rd_bl du hp
      have s3 := n.step fp2
      have e3 := e2.new n
      have s13 := (s1.trans s2).trans s3
      refine ⟨k, rfl, ?_⟩
      cases k with
      | true => exact ⟨Hm3, δ2, fp2, _, R, e3, hp, fun y' δ4 h4 w' Hm4 H4 fp4 s4 e4 dw' => p' Hm4 H4 w w' y y' _ _ e4.sub ((dw.le (.of n.mask)).le (.of s4.mask)) dw' h4 fun d u Hm5 H5 hp5 n5 du => by
          obtain ⟨c, rfl, rfl, q⟩ := rd_bl du hp5
          exact ⟨c, rfl, hP c δ4 q c Hm5 H5 fp4 ((s13.trans s4).trans (n5.step _)) (e4.new n5) rfl⟩, fun e he => (hR e he).step s13⟩
      | false => exact ⟨false, rfl, hP false δ2 hp false Hm3 H3 fp2 s13 e3 rfl⟩, fun e he => (hR e he).step s1⟩, hR⟩
end
end DN
set_option Elab.async false
set_option linter.all false
set_option maxRecDepth 100000
set_option maxHeartbeats 4000000
/-! what a statement does to data -/
namespace DN
open PySem PySem.Spec PyProof.Rows L2
structure Outs where
  nx : Env → Prop
  rt : D → Env → Prop
  bk : Env → Prop := fun _ => False
  ct : Env → Prop := fun _ => False
  er : Er → Prop := fun _ => False
abbrev S := Env → Outs → Prop
/-- the slots that a statement leaves as they are -/
structure Pins (pn : Nat → Prop) (σ σ' : L2.St) : Prop where
  len : σ'.length = σ.length
  at_ : ∀ i, pn i → σ'[i]? = σ[i]?
theorem Pins.refl (pn : Nat → Prop) (σ : L2.St) : Pins pn σ σ := ⟨rfl, fun _ _ => rfl⟩
theorem Pins.trans {pn : Nat → Prop} {a b c : L2.St} (h : Pins pn a b) (g : Pins pn b c) : Pins pn a c := ⟨g.len.trans h.len, fun i m => (g.at_ i m).trans (h.at_ i m)⟩
theorem Pins.set {pn : Nat → Prop} {σ : L2.St} {i : Nat} {x : Option V} (h : ¬ pn i) : Pins pn σ (σ.set i x) := ⟨List.length_set .., fun j m => List.getElem?_set_ne fun z => h (by rw [z]; exact m)⟩
/-- what is wanted behind, told from here -/
structure SK (K : PySem.W.Frag) (E : XK) (pn : Nat → Prop) (Hm H : Hp) (σ : L2.St) (fp : Fp) (D : Ends) (P : Outs) : Prop where
  nx : ∀ δ', P.nx δ' → ∀ σ' Hm' H' fp', Step Hm H fp Hm' H' fp' → EnvOk K Hm' H' σ' δ' fp' → Pins pn σ σ' → D.nx σ' H'
  rt : ∀ d δ', P.rt d δ' → ∀ v σ' Hm' H' fp', Step Hm H fp Hm' H' fp' → EnvOk K Hm' H' σ' δ' fp' → Pins pn σ σ' → Dq K Hm' v d → D.rt v H'
  bk : ∀ δ', P.bk δ' → ∀ σ' Hm' H' fp', Step Hm H fp Hm' H' fp' → EnvOk K Hm' H' σ' δ' fp' → Pins pn σ σ' → D.bk σ' H'
  ct : ∀ δ', P.ct δ' → ∀ σ' Hm' H' fp', Step Hm H fp Hm' H' fp' → EnvOk K Hm' H' σ' δ' fp' → Pins pn σ σ' → D.ct σ' H'
  er : ∀ e, P.er e → XOk K E Hm H fp e
theorem SK.go {K : PySem.W.Frag} {E : XK} {pn : Nat → Prop} {Hm H Hm1 H1 : Hp} {σ σ1 : L2.St} {fp fp1 : Fp} {D : Ends} {P : Outs} (k : SK K E pn Hm H σ fp D P) (s : Step Hm H fp Hm1 H1 fp1) (p : Pins pn σ σ1) : SK K E pn Hm1 H1 σ1 fp1 D P :=
  ⟨fun δ' h σ' Hm' H' fp' s' e' p' => k.nx δ' h σ' Hm' H' fp' (s.trans s') e' (p.trans p'), fun d δ' h v σ' Hm' H' fp' s' e' p' => k.rt d δ' h v σ' Hm' H' fp' (s.trans s') e' (p.trans p'),
   fun δ' h σ' Hm' H' fp' s' e' p' => k.bk δ' h σ' Hm' H' fp' (s.trans s') e' (p.trans p'), fun δ' h σ' Hm' H' fp' s' e' p' => k.ct δ' h σ' Hm' H' fp' (s.trans s') e' (p.trans p'), fun e h => (k.er e h).step s⟩
def tS (K : PySem.W.Frag) (E : XK) (pn : Nat → Prop) (F : S) : TS := fun D σ H => ∃ Hm δ fp P, EnvOk K Hm H σ δ fp ∧ F δ P ∧ SK K E pn Hm H σ fp D P
theorem psI {X : Cx} {st : Stmt} {t t' : TS} (h : PS X st t) (m : ∀ D σ H, t' D σ H → t D σ H) : PS X st t' := ⟨fun pins s σ H D I q => h.run pins s σ H D I (m D σ H q)⟩
theorem pssI {X : Cx} {st : List Stmt} {t t' : TS} (h : PSs X st t) (m : ∀ D σ H, t' D σ H → t D σ H) : PSs X st t' := ⟨fun pins s σ H D I q => h.run pins s σ H D I (m D σ H q)⟩
def skipS : S := fun δ P => P.nx δ
def offS : S := fun _ _ => False
def brkS : S := fun δ P => P.bk δ
def cntS : S := fun δ P => P.ct δ
def seqS (F G : S) : S := fun δ P => F δ { P with nx := fun δ1 => G δ1 P }
def setS (i : Nat) (F : W D) : S := fun δ P => F δ (fun d δ1 => P.nx (put δ1 i (.sh d))) P.er
def dropS (F : W D) : S := fun δ P => F δ (fun _ δ1 => P.nx δ1) P.er
def retS (F : W D) : S := fun δ P => F δ P.rt P.er
def retN : S := fun δ P => P.rt .non δ
def ifS (c : W Bool) (F G : S) : S := fun δ P => c δ (fun b δ1 => if b = true then F δ1 P else G δ1 P) P.er
def augS (i : Nat) (g : G2) (F : W D) : S := fun δ P => match slot δ i with
  | .sh x => F δ (fun y δ1 => g x y fun d => P.nx (put δ1 i (.sh d))) P.er
  | _ => False
section
variable {X : Cx} {E : XK} {pn : Nat → Prop} {st : Stmt} {sts : List Stmt} {F G : S} {Fa Fb : W D} {FB : W Bool}
theorem s_skip (h : PS X st tNext) : PS X st (tS X.K E pn skipS) := psI h fun D σ H ⟨Hm, δ, fp, P, env, hF, k⟩ => k.nx δ hF σ Hm H fp (.refl ..) env (.refl ..)
theorem s_nil (h : PSs X sts tNext) : PSs X sts (tS X.K E pn skipS) := pssI h fun D σ H ⟨Hm, δ, fp, P, env, hF, k⟩ => k.nx δ hF σ Hm H fp (.refl ..) env (.refl ..)
theorem s_off : PS X st (tS X.K E pn offS) := ⟨fun _ _ _ _ _ _ ⟨_, _, _, _, _, h, _⟩ => h.elim⟩
theorem s_offs : PSs X sts (tS X.K E pn offS) := ⟨fun _ _ _ _ _ _ ⟨_, _, _, _, _, h, _⟩ => h.elim⟩
theorem s_brk (h : PS X st tBreak) : PS X st (tS X.K E pn brkS) := psI h fun D σ H ⟨Hm, δ, fp, P, env, hF, k⟩ => k.bk δ hF σ Hm H fp (.refl ..) env (.refl ..)
theorem s_cnt (h : PS X st tCont) : PS X st (tS X.K E pn cntS) := psI h fun D σ H ⟨Hm, δ, fp, P, env, hF, k⟩ => k.ct δ hF σ Hm H fp (.refl ..) env (.refl ..)
theorem s_one (h : PS X st (tS X.K E pn F)) : PSs X [st] (tS X.K E pn F) := pss_one h
theorem s_seq (h : PSs X sts (tSeq (tS X.K E pn F) (tS X.K E pn G))) : PSs X sts (tS X.K E pn (seqS F G)) := pssI h fun D σ H ⟨Hm, δ, fp, P, env, hF, k⟩ =>
  ⟨Hm, δ, fp, _, env, hF, fun δ' h σ' Hm' H' fp' s' e' p' => ⟨Hm', δ', fp', P, e', h, k.go s' p'⟩, k.rt, k.bk, k.ct, k.er⟩
theorem s_set {i : Nat} (h : PS X st (tAsg (tE X.K E Fa) (gName i))) (hi : ¬ pn i) : PS X st (tS X.K E pn (setS i Fa)) := psI h fun D σ H ⟨Hm, δ, fp, P, env, hF, k⟩ =>
  ⟨Hm, δ, fp, _, _, env, hF, fun d δ' h v Hm' H' fp' s' e' dv => k.nx _ h _ Hm' H' _ (s'.trans (step_less _ _ _ i)) (e'.put_sh i dv) (.set hi), k.er⟩
theorem s_drop (h : PS X st (tDrop (tE X.K E Fa))) : PS X st (tS X.K E pn (dropS Fa)) := psI h fun D σ H ⟨Hm, δ, fp, P, env, hF, k⟩ =>
  ⟨Hm, δ, fp, _, _, env, hF, fun d δ' h v Hm' H' fp' s' e' dv => k.nx _ h _ Hm' H' _ s' e' (.refl ..), k.er⟩
theorem s_ret (h : PS X st (tRet (tE X.K E Fa))) : PS X st (tS X.K E pn (retS Fa)) := psI h fun D σ H ⟨Hm, δ, fp, P, env, hF, k⟩ =>
  ⟨Hm, δ, fp, _, _, env, hF, fun d δ' h v Hm' H' fp' s' e' dv => k.rt _ _ h v _ Hm' H' _ s' e' (.refl ..) dv, k.er⟩
theorem s_retN (h : PS X st tRetN) : PS X st (tS X.K E pn retN) := psI h fun D σ H ⟨Hm, δ, fp, P, env, hF, k⟩ => k.rt _ _ hF .non σ Hm H fp (.refl ..) env (.refl ..) .non
theorem s_if (h : PS X st (tIfS (tT X.K E FB) (tS X.K E pn F) (tS X.K E pn G))) : PS X st (tS X.K E pn (ifS FB F G)) := psI h fun D σ H ⟨Hm, δ, fp, P, env, hF, k⟩ =>
  ⟨Hm, δ, fp, _, _, env, hF, fun c δ' h v Hm' H' fp' s' e' dv => by
    have dv : v = c := dv
    subst dv
    cases v with
    | true => exact ⟨Hm', δ', fp', P, e', h, k.go s' (.refl ..)⟩
    | false => exact ⟨Hm', δ', fp', P, e', h, k.go s' (.refl ..)⟩, k.er⟩
theorem s_aug {i : Nat} {r : TIp} {g : G2} (h : PS X st (tAug i (tE X.K E Fa) r)) (p : Prim2 X.K r g) (hi : ¬ pn i) : PS X st (tS X.K E pn (augS i g Fa)) := psI h fun D σ H ⟨Hm, δ, fp, P, env, hF, k⟩ => by
  unfold augS at hF
  cases s : slot δ i with
  | no => rw [s] at hF; exact hF.elim
  | ow o => rw [s] at hF; exact hF.elim
  | sh x =>
    rw [s] at hF
    obtain ⟨v, a, b⟩ := env.sh i x s
    exact ⟨v, a, Hm, δ, fp, _, _, env, hF, fun y δ' h w Hm' H' fp' s' e' dw => p Hm' H' v w x y _ _ e'.sub (b.le (.of s'.mask)) dw h fun d u Hm3 H3 hp n du => k.nx _ hp _ Hm3 H3 _ ((s'.trans (n.step _)).trans (step_less _ _ _ i)) ((e'.new n).put_sh i du) (.set hi), k.er⟩
end
/-! ### targets -/
abbrev T := D → Env → (Env → Prop) → Prop
abbrev Ts := List D → Env → (Env → Prop) → Prop
def tgG {α β : Type} (K : PySem.W.Frag) (pn : Nat → Prop) (rd : Rdg α β) (F : α → Env → (Env → Prop) → Prop) : β → L2.St → Hp → (L2.St → Hp → Prop) → Prop := fun v σ H Q => ∃ Hm δ fp d P, EnvOk K Hm H σ δ fp ∧ rd Hm v d ∧ F d δ P ∧
  ∀ δ', P δ' → ∀ σ' fp', Step Hm H fp Hm H fp' → EnvOk K Hm H σ' δ' fp' → Pins pn σ σ' → Q σ' H
abbrev tgD (K : PySem.W.Frag) (pn : Nat → Prop) (F : T) : TG := tgG K pn (Dq K) F
abbrev tgL (K : PySem.W.Frag) (pn : Nat → Prop) (F : Ts) : TGs := tgG K pn (DqL K) F
theorem pgI {X : Cx} {e : Expr} {t t' : TG} (h : PG X e t) (m : ∀ v σ H Q, t' v σ H Q → t v σ H Q) : PG X e t' := ⟨fun pins s σ H v u Q I r q => h.run pins s σ H v u Q I r (m v σ H Q q)⟩
theorem pgsI {X : Cx} {e : List Expr} {t t' : TGs} (h : PGs X e t) (m : ∀ v σ H Q, t' v σ H Q → t v σ H Q) : PGs X e t' := ⟨fun pins s σ H v u Q I r q => h.run pins s σ H v u Q I r (m v σ H Q q)⟩
def nameT (i : Nat) : T := fun d δ P => P (put δ i (.sh d))
def nilT : Ts := fun ds δ P => ds = [] ∧ P δ
def consT (t : T) (u : Ts) : Ts := fun ds δ P => match ds with
  | d :: r => t d δ fun δ1 => u r δ1 P
  | [] => False
def tupT (n : Nat) (u : Ts) : T := fun d δ P => match d with
  | .tup ds => ds.length = n ∧ u ds δ P
  | _ => False
def asgS (F : W D) (t : T) : S := fun δ P => F δ (fun d δ1 => t d δ1 P.nx) P.er
section
variable {X : Cx} {E : XK} {pn : Nat → Prop} {st : Stmt} {tg : Expr} {tgs : List Expr} {Fa : W D} {t : T} {u : Ts}
theorem g_name {i : Nat} (h : PG X tg (gName i)) (hi : ¬ pn i) : PG X tg (tgD X.K pn (nameT i)) := pgI h fun v σ H Q ⟨Hm, δ, fp, d, P, env, r, hF, k⟩ => k _ hF _ _ (step_less _ _ _ i) (env.put_sh i r) (.set hi)
theorem g_nil (h : PGs X tgs gNil) : PGs X tgs (tgL X.K pn nilT) := pgsI h fun v σ H Q ⟨Hm, δ, fp, d, P, env, r, hF, k⟩ => by
  obtain ⟨rfl, hF⟩ := hF
  cases r
  exact ⟨rfl, k δ hF σ fp (.refl ..) env (.refl ..)⟩
theorem g_cons (h : PGs X tgs (gCons (tgD X.K pn t) (tgL X.K pn u))) : PGs X tgs (tgL X.K pn (consT t u)) := pgsI h fun v σ H Q ⟨Hm, δ, fp, d, P, env, r, hF, k⟩ => by
  cases r with
  | nil => exact hF.elim
  | cons r1 r2 => exact ⟨_, _, rfl, Hm, δ, fp, _, _, env, r1, hF, fun δ1 h1 σ1 fp1 s1 e1 p1 => ⟨Hm, δ1, fp1, _, P, e1, r2, h1, fun δ2 h2 σ2 fp2 s2 e2 p2 => k δ2 h2 σ2 fp2 (s1.trans s2) e2 (p1.trans p2)⟩⟩
theorem g_tup {n : Nat} (h : PG X tg (gTup X.K n (tgL X.K pn u))) : PG X tg (tgD X.K pn (tupT n u)) := pgI h fun v σ H Q ⟨Hm, δ, fp, d, P, env, r, hF, k⟩ => by
  cases r with
  | tup hs hx => exact ⟨_, _, rfl, env.sub.seqT hs, by rw [hx.len]; exact hF.1, Hm, δ, fp, _, P, env, hx, hF.2, k⟩
  | _ => exact hF.elim
theorem s_asg (h : PS X st (tAsg (tE X.K E Fa) (tgD X.K pn t))) : PS X st (tS X.K E pn (asgS Fa t)) := psI h fun D σ H ⟨Hm, δ, fp, P, env, hF, k⟩ =>
  ⟨Hm, δ, fp, _, _, env, hF, fun d δ' h v Hm' H' fp' s' e' dv => ⟨Hm', δ', fp', d, P.nx, e', dv, h, fun δ2 h2 σ2 fp2 s2 e2 p2 => k.nx δ2 h2 σ2 Hm' H' fp2 (s'.trans s2) e2 p2⟩, k.er⟩
/-- a, b = e1, e2 -/
def parS (i j : Nat) (F : W (List D)) : S := fun δ P => F δ (fun ds δ1 => match ds with
  | [x, y] => P.nx (put (put δ1 i (.sh x)) j (.sh y))
  | _ => False) P.er
theorem s_par {i j : Nat} {FL : W (List D)} (h : PS X st (tPar i j (tL X.K E FL))) (hi : ¬ pn i) (hj : ¬ pn j) : PS X st (tS X.K E pn (parS i j FL)) := psI h fun D σ H ⟨Hm, δ, fp, P, env, hF, k⟩ =>
  ⟨Hm, δ, fp, _, _, env, hF, fun ds δ' h v Hm' H' fp' s' e' dv => by
    match ds, dv, h with
    | [x, y], .cons d1 (.cons d2 .nil), h =>
      exact ⟨_, _, rfl, k.nx _ h _ Hm' H' _ ((s'.trans (step_less _ _ _ i)).trans (step_less _ _ _ j)) ((e'.put_sh i d1).put_sh j d2) (Pins.trans (.set hi) (.set hj))⟩, k.er⟩
end
/-! ### loops -/
def clr : List Nat → Env → Env
  | [], δ => δ
  | i :: r, δ => clr r (put δ i .no)
def clrF : List Nat → Fp → Fp
  | [], f => f
  | i :: r, f => clrF r fun j => if j = i then [] else f j
theorem EnvOk.clr {K : PySem.W.Frag} {Hm H : Hp} {σ : L2.St} : ∀ (cl : List Nat) {δ : Env} {fp : Fp}, EnvOk K Hm H σ δ fp → EnvOk K Hm H σ (clr cl δ) (clrF cl fp)
  | [], _, _, e => e
  | i :: r, _, _, e => EnvOk.clr r (e.forget i)
theorem step_clr (Hm H : Hp) : ∀ (cl : List Nat) (fp : Fp), Step Hm H fp Hm H (clrF cl fp)
  | [], fp => .refl ..
  | i :: r, fp => (step_less Hm H fp i).trans (step_clr Hm H r _)
def whileN (c : W Bool) (B : S) (cl : List Nat) (P : Outs) : Nat → Env → Prop
  | 0, _ => False
  | n + 1, δ => c (clr cl δ) (fun b δ1 => if b = true then B δ1 { P with nx := whileN c B cl P n, ct := whileN c B cl P n, bk := fun δ2 => P.nx (clr cl δ2) } else P.nx (clr cl δ1)) P.er
/-- while; the slots of cl are forgotten at each turn -/
def whileS (c : W Bool) (B : S) (cl : List Nat) : S := fun δ P => ∃ n, whileN c B cl P n δ
section
variable {X : Cx} {E : XK} {pn : Nat → Prop} {st : Stmt} {B : S} {FB : W Bool} {cl : List Nat}
theorem s_while (h : PS X st (tWhile (tT X.K E FB) (tS X.K E pn B))) : PS X st (tS X.K E pn (whileS FB B cl)) := psI h fun D σ H ⟨Hm, δ, fp, P, env, hF, k⟩ => by
  obtain ⟨n, hF⟩ := hF
  refine ⟨fun m σ1 H1 => ∃ Hm1 δ1 fp1, EnvOk X.K Hm1 H1 σ1 δ1 fp1 ∧ whileN FB B cl P m δ1 ∧ SK X.K E pn Hm1 H1 σ1 fp1 D P, ⟨n, Hm, δ, fp, env, hF, k⟩, ?_⟩
  rintro m σ1 H1 ⟨Hm1, δ1, fp1, e1, h1, k1⟩
  cases m with
  | zero => exact h1.elim
  | succ m =>
    have s0 := step_clr Hm1 H1 cl fp1
    refine ⟨Hm1, _, _, _, P.er, e1.clr cl, h1, fun c δ2 h2 v Hm2 H2 fp2 s2 e2 dv => ?_, fun e he => (k1.er e he).step s0⟩
    have dv : v = c := dv
    subst dv
    have s12 := s0.trans s2
    have k2 := k1.go s12 (.refl pn σ1)
    cases v with
    | true =>
      refine ⟨fun σ' H' => ∃ Hm1 δ1 fp1, EnvOk X.K Hm1 H' σ' δ1 fp1 ∧ whileN FB B cl P m δ1 ∧ SK X.K E pn Hm1 H' σ' fp1 D P, fun σ' H' ⟨a, b, c, d⟩ => ⟨m, Nat.lt_succ_self _, a, b, c, d⟩, Hm2, δ2, fp2, _, e2, h2, fun δ3 h3 σ3 Hm3 H3 fp3 s3 e3 p3 => ⟨Hm3, δ3, fp3, e3, h3, k2.go s3 p3⟩, k2.rt, fun δ3 h3 σ3 Hm3 H3 fp3 s3 e3 p3 => ?_, fun δ3 h3 σ3 Hm3 H3 fp3 s3 e3 p3 => ⟨Hm3, δ3, fp3, e3, h3, k2.go s3 p3⟩, k2.er⟩
      exact k2.nx _ h3 σ3 Hm3 H3 _ (s3.trans (step_clr ..)) (e3.clr cl) p3
    | false => exact k2.nx _ h2 σ1 Hm2 H2 _ (step_clr ..) (e2.clr cl) (.refl ..)
end
theorem EnvOk.msk {K : PySem.W.Frag} {Hm H : Hp} {σ : L2.St} {δ : Env} {fp : Fp} (E : EnvOk K Hm H σ δ fp) {p : Addr} {j : Nat} (hj : p ∈ fp j) : Hm p = none := by
  have : ∃ o, slot δ j = .ow o := by
    cases z : slot δ j with
    | ow o => exact ⟨o, rfl⟩
    | no => have y := E.non j (by rw [z]; nofun); rw [y] at hj; cases hj
    | sh d => have y := E.non j (by rw [z]; nofun); rw [y] at hj; cases hj
  obtain ⟨o, z⟩ := this
  obtain ⟨v, _, y⟩ := E.ow j o z
  exact y.msk p hj
/-- a thing that stands still in the heap meanwhile (a locked dict) -/
def Zh (zc : Option (Addr × HO)) (Hm H : Hp) : Prop := ∀ d u, zc = some (d, u) → H d = some u ∧ ∃ o, Hm d = some o
theorem Zh.none {Hm H : Hp} : Zh none Hm H := fun _ _ e => by cases e
theorem Zh.step {K : PySem.W.Frag} {Hm H Hm' H' : Hp} {σ : L2.St} {δ : Env} {fp fp' : Fp} {zc : Option (Addr × HO)} (z : Zh zc Hm H) (E : EnvOk K Hm H σ δ fp) (s : Step Hm H fp Hm' H' fp') : Zh zc Hm' H' := fun d u e => by
  obtain ⟨a, o, b⟩ := z d u e
  exact ⟨s.keep d u a (fun i h => by rw [E.msk h] at b; cases b), o, s.mask d o b⟩
/-- what is walked yields these, while the mask stands -/
def ItOk (K : PySem.W.Frag) (Hm0 : Hp) (zc : Option (Addr × HO)) (J : It) (ds : List D) : Prop := ∀ (i : Nat) (Hm H : Hp), Same Hm0 Hm → Le Hm H → Zh zc Hm H → (ds.length ≤ i → J.stop i H) ∧ ∀ d, ds[i]? = some d → J.go i H ∧ ∀ x H', J.yld i H x H' → ∃ Hm', New Hm H Hm' H' ∧ Dq K Hm' x d
def tI (K : PySem.W.Frag) (E : XK) (F : W (List D)) : TI := fun σ H R => ∃ Hm δ fp P Rr, EnvOk K Hm H σ δ fp ∧ F δ P Rr ∧
  (∀ ds δ', P ds δ' → ∀ J Hm' H' fp', Step Hm H fp Hm' H' fp' → EnvOk K Hm' H' σ δ' fp' → ItOk K Hm' none J ds → R J H') ∧ ∀ e, Rr e → XOk K E Hm H fp e
def forL (t : T) (B : S) (cl : List Nat) (P : Outs) : List D → Env → Prop
  | [], δ => P.nx (clr cl δ)
  | d :: r, δ => t d (clr cl δ) fun δ1 => B δ1 { P with nx := forL t B cl P r, ct := forL t B cl P r, bk := fun δ2 => P.nx (clr cl δ2) }
def forS (F : W (List D)) (t : T) (B : S) (cl : List Nat) : S := fun δ P => F δ (fun ds δ1 => forL t B cl P ds δ1) P.er
section
variable {K : PySem.W.Frag} {E : XK} {pn : Nat → Prop} {B : S} {cl : List Nat}
theorem forCore {t : T} {zc : Option (Addr × HO)} {Hm0 H0 : Hp} {σ : L2.St} {δ0 : Env} {fp0 : Fp} {D : Ends} {P : Outs} {J : It} {ds : List DN.D} (e0 : EnvOk K Hm0 H0 σ δ0 fp0) (h0 : forL t B cl P ds δ0) (k0 : SK K E pn Hm0 H0 σ fp0 D P) (it : ItOk K Hm0 zc J ds) (z0 : Zh zc Hm0 H0) :
    ∃ W : Nat → Nat → L2.St → Hp → Prop, (∃ m, W 0 m σ H0) ∧ ∀ i m σ H, W i m σ H → (J.stop i H ∧ D.nx σ H) ∨ (J.go i H ∧ ∃ N : L2.St → Hp → Prop, (∀ σ' H', N σ' H' → ∃ m', m' < m ∧ W (i + 1) m' σ' H') ∧ ∀ x H', J.yld i H x H' → tgD K pn t x σ H' fun σ2 H2 => tS K E pn B { D with nx := N, ct := N, bk := D.nx } σ2 H2) := by
  refine ⟨fun i m σ1 H1 => m = ds.length - i ∧ i ≤ ds.length ∧ ∃ Hm1 δ1 fp1, EnvOk K Hm1 H1 σ1 δ1 fp1 ∧ forL t B cl P (ds.drop i) δ1 ∧ SK K E pn Hm1 H1 σ1 fp1 D P ∧ Same Hm0 Hm1 ∧ Zh zc Hm1 H1, ⟨_, rfl, Nat.zero_le _, Hm0, δ0, fp0, e0, h0, k0, Same.refl _, z0⟩, ?_⟩
  rintro i m σ1 H1 ⟨rfl, il, Hm1, δ1, fp1, e1, h1, k1, sm, z1⟩
  obtain ⟨stop, go⟩ := it i Hm1 H1 sm e1.sub z1
  by_cases z : ds.length ≤ i
  · left
    rw [List.drop_eq_nil_iff.mpr z] at h1
    exact ⟨stop z, k1.nx _ h1 σ1 Hm1 H1 _ (step_clr ..) (e1.clr cl) (.refl ..)⟩
  · right
    have z : i < ds.length := Nat.lt_of_not_le z
    obtain ⟨g, y⟩ := go ds[i] (List.getElem?_eq_getElem z)
    rw [List.drop_eq_getElem_cons z] at h1
    refine ⟨g, fun σ' H' => ∃ Hm1 δ1 fp1, EnvOk K Hm1 H' σ' δ1 fp1 ∧ forL t B cl P (ds.drop (i + 1)) δ1 ∧ SK K E pn Hm1 H' σ' fp1 D P ∧ Same Hm0 Hm1 ∧ Zh zc Hm1 H', fun σ' H' w => ⟨_, ?_, rfl, z, w⟩, fun x H2 yx => ?_⟩
    · omega
    · obtain ⟨Hm2, n, dx⟩ := y x H2 yx
      have e1c := e1.clr cl
      have e2 := e1c.new n
      have s2 := (step_clr Hm1 H1 cl fp1).trans (n.step _)
      refine ⟨Hm2, _, _, _, _, e2, dx, h1, fun δ3 h3 σ3 fp3 s3 e3 p3 => ?_⟩
      have s23 := s2.trans s3
      have k3 := k1.go s23 p3
      have z3 : Zh zc Hm2 H2 := z1.step e1 s23
      have back : ∀ {δ4 : Env} {σ4 : L2.St} {Hm4 H4 : Hp} {fp4 : Fp}, forL t B cl P (ds.drop (i + 1)) δ4 → Step Hm2 H2 fp3 Hm4 H4 fp4 → EnvOk K Hm4 H4 σ4 δ4 fp4 → Pins pn σ3 σ4 → ∃ Hm1 δ1 fp1, EnvOk K Hm1 H4 σ4 δ1 fp1 ∧ forL t B cl P (ds.drop (i + 1)) δ1 ∧ SK K E pn Hm1 H4 σ4 fp1 D P ∧ Same Hm0 Hm1 ∧ Zh zc Hm1 H4 :=
        fun {δ4 σ4 Hm4 H4 fp4} h4 s4 e4 p4 => ⟨Hm4, δ4, fp4, e4, h4, k3.go s4 p4, sm.trans (s23.mask.trans s4.mask), z3.step e3 s4⟩
      exact ⟨Hm2, δ3, fp3, _, e3, h3, fun δ4 h4 σ4 Hm4 H4 fp4 s4 e4 p4 => back h4 s4 e4 p4, k3.rt, fun δ4 h4 σ4 Hm4 H4 fp4 s4 e4 p4 => k3.nx _ h4 σ4 Hm4 H4 _ (s4.trans (step_clr ..)) (e4.clr cl) p4, fun δ4 h4 σ4 Hm4 H4 fp4 s4 e4 p4 => back h4 s4 e4 p4, k3.er⟩
end
section
variable {X : Cx} {E : XK} {pn : Nat → Prop} {st : Stmt} {B : S} {cl : List Nat}
theorem s_for {FI : W (List D)} {t : T} (h : PS X st (tFor (tI X.K E FI) (tgD X.K pn t) (tS X.K E pn B))) : PS X st (tS X.K E pn (forS FI t B cl)) := psI h fun D σ H ⟨Hm, δ, fp, P, env, hF, k⟩ =>
  ⟨Hm, δ, fp, _, P.er, env, hF, fun ds δ0 h0 J Hm0 H0 fp0 s0 e0 it => forCore e0 h0 (k.go s0 (.refl pn σ)) it .none, k.er⟩
end
end DN
set_option Elab.async false
set_option linter.all false
set_option maxRecDepth 100000
/-! a method that keeps its promise; a class that makes instances -/
namespace L2
open PySem PySem.Spec PyProof.Rows
theorem pe_globE {X : Cx} {x : Str} {v : V} {pos : Pos} (hg : Gl X x) (h : ∃ u, X.mg x = some u ∧ RelV v u) (hd : (x == ("__debug__" : Str)) = false := by decide) : PE X (.Name x pos) (tC v) := by
  obtain ⟨u, m, r⟩ := h
  exact pe_glob hg m r hd
/-- what is never reached -/
theorem ps_off {X : Cx} {st : Stmt} : PS X st (fun _ _ _ => False) := ⟨fun _ _ _ _ _ _ h => h.elim⟩
theorem pe_off {X : Cx} {e : Expr} : PE X e (fun _ _ _ => False) := ⟨fun _ _ _ _ _ _ h => h.elim⟩
structure Mt (P : Program) (w : World) (K : PySem.W.Frag) (mg : Str → Option Value) (base : Heap) (C : Addr) (m : Str) (k : Nat) (ps : List Str) (sp : Sp) : Prop where
  ex : ∃ (f : Addr) (fd : FuncData), FnOk P w K mg base CX0 k f fd ps sp ∧ Meth K C m f ∧ Binds K fd ps []
structure Mke (P : Program) (w : World) (K : PySem.W.Frag) (mg : Str → Option Value) (base : Heap) (C : Addr) (k : Nat) (ps : List Str) (sp : Sp) : Prop where
  ex : ∃ (f : Addr) (fd : FuncData), FnOk P w K mg base CX0 k f fd ps sp ∧ Mk K C f ∧ Binds K fd ps []
section
variable {X : Cx} {k : Nat} {ps : List Str} {sp : Sp} {x m : Str} {C : Addr} {p pos apos : Pos} {o e : Expr} {es : List Expr} {ta : TE} {t : TA} {pl : Sem Bool}
theorem pe_mt (c : Cls X.K C) (G : Mt X.prog X.w X.K X.mg X.base C m k ps sp) (hr : Room k X.A) (he : PE X o ta) (ha : PA X (e :: es) t)
    (hst : starEach (e :: es) X.env = (false, eval e X.env) :: starEach es X.env := by rfl) (hpl : (backTo pos (starEach es X.env)).any (·.1) = false := by rfl)
    (ht : eval (.Call (.Attribute o m apos) (e :: es) [] pos) X.env = (do
      let ov ← eval o X.env
      standAt apos.atName
      let (f, first) ← holding [ov] (getMethod ov m pl)
      callWith pos f first (backTo pos (starEach (e :: es) X.env)) (backToKw pos (keywordEach [] X.env))) := by rfl) :
    PE X (.Call (.Attribute o m apos) (e :: es) [] pos) (tMeth C m sp [] E0 ta t) := by
  obtain ⟨f, fd, F, hm, hb⟩ := G.ex
  exact pe_meth he c hm F hr hb .nil pass0 ha hst hpl ht
theorem pe_mt0 (c : Cls X.K C) (G : Mt X.prog X.w X.K X.mg X.base C m k ps sp) (hr : Room k X.A) (he : PE X o ta)
    (ht : eval (.Call (.Attribute o m apos) [] [] pos) X.env = (do
      let ov ← eval o X.env
      standAt apos.atName
      let (f, first) ← holding [ov] (getMethod ov m pl)
      callWith pos f first (backTo pos (starEach [] X.env)) (backToKw pos (keywordEach [] X.env))) := by rfl) :
    PE X (.Call (.Attribute o m apos) [] [] pos) (tMeth C m sp [] E0 ta tNil) := by
  obtain ⟨f, fd, F, hm, hb⟩ := G.ex
  exact pe_meth0 he c hm F hr hb .nil pass0 ht
theorem pe_mke (G : Mke X.prog X.w X.K X.mg X.base C k ps sp) (hr : Room (k + 1) X.A) (hg : Gl X x) (hm : X.mg x = some (.ref C)) (ha : PA X (e :: es) t) (hdb : (x == ("__debug__" : Str)) = false := by decide)
    (he : starEach (e :: es) X.env = (false, eval e X.env) :: starEach es X.env := by rfl) (hpl : (backTo pos (starEach es X.env)).any (·.1) = false := by rfl) : PE X (.Call (.Name x p) (e :: es) [] pos) (tMake C sp [] E0 t) := by
  obtain ⟨f, fd, F, M, hb⟩ := G.ex
  exact pe_make M F hr hg hm hb .nil pass0 ha hdb he hpl
end
end L2
set_option Elab.async false
set_option linter.all false
set_option maxRecDepth 100000
set_option maxHeartbeats 2000000
/-! zip over a list and a tuple, in either place: the two ways to go through a row of things are one predicate with a mark -/
namespace ZLT
open PySem PySem.Spec PyProof.Rows L2
open PySem.Sem (wp)
/-- the row of things: a tuple (t) or a list -/
def Row (t : Bool) (h : Heap) (l : Addr) (xs : Array Value) : Prop := if t then h.IsTuple l xs else h.IsList l xs
/-- its iterator, at k -/
def Cur (t : Bool) (h : Heap) (c l : Addr) (k : Nat) : Prop := if t then h.IsTupleIter c l k else h.IsListIter c l k
theorem Row.but {t : Bool} {h h' : Heap} {b l : Addr} {xs} (R : Row t h l xs) (e : Heap.ExtBut b h h') (n : l ≠ b) : Row t h' l xs := by
  cases t
  · exact Heap.IsList.extBut R e n
  · exact Heap.IsTuple.extBut R e n
theorem Cur.but {t : Bool} {h h' : Heap} {b c l : Addr} {k : Nat} (R : Cur t h c l k) (e : Heap.ExtBut b h h') (n : c ≠ b) : Cur t h' c l k := by
  cases t
  · exact Heap.IsListIter.extBut R e n
  · exact Heap.IsTupleIter.extBut R e n
theorem Cur.at {t : Bool} {h h' : Heap} {c l : Addr} {k : Nat} (R : Cur t h c l k) (e : ∀ o, h.get? c = some o → h'.get? c = some o) : Cur t h' c l k := by
  cases t
  · exact Heap.IsListIter.at R e
  · exact Heap.IsTupleIter.at R e
theorem Cur.obj {t : Bool} {h : Heap} {c l : Addr} {k : Nat} (R : Cur t h c l k) : ∃ o, h.get? c = some o ∧ ∀ v, o.data ≠ .cell v := by
  cases t
  · obtain ⟨o, e, _, d⟩ := R
    exact ⟨o, e, fun v q => by rw [d] at q; cases q⟩
  · obtain ⟨o, e, _, d⟩ := R
    exact ⟨o, e, fun v q => by rw [d] at q; cases q⟩
theorem Cur.lt {t : Bool} {h : Heap} {c l : Addr} {k : Nat} (R : Cur t h c l k) : c < h.objs.size := by
  obtain ⟨o, e, _⟩ := R.obj
  exact Heap.lt_size e
section
variable {prog : Program} {w : World} {A : Around} {E : Value → Shared → Prop} {s : Shared}
theorem cur_item {t : Bool} {c l : Addr} {k : Nat} {xs} {x : Value} {Q : Value → Shared → Prop} (R : Cur t s.heap c l k) (L : Row t s.heap l xs) (hx : xs[k]? = some x)
    (hQ : ∀ g, Cur t g c l (k + 1) → Heap.SameBut c s.heap g → Q x { s with heap := g }) : wpAny (model prog w) A (Builtin.SmallTypes.nextOf (.ref c)) Q E s := by
  cases t
  · exact wpAny_nextOf_list_item R L hx hQ
  · exact RZ.nextOf_tuple_item R L hx hQ
theorem cur_end {t : Bool} {c l : Addr} {k : Nat} {xs} {Q : Value → Shared → Prop} (hh : A.handled = none) (R : Cur t s.heap c l k) (L : Row t s.heap l xs) (hx : xs[k]? = none)
    (hE : ∀ g e, Heap.ExtBut c s.heap g → (∃ o, g.get? e = some o ∧ o.cls = .type "StopIteration") → E (.ref e) { s with heap := g }) : wpAny (model prog w) A (Builtin.SmallTypes.nextOf (.ref c)) Q E s := by
  cases t
  · exact wpAny_nextOf_list_end hh R L hx hE
  · exact RZ.nextOf_tuple_end hh R L hx hE
/-- all but four objects stay -/
abbrev Four (z o c d : Addr) (h g : Heap) : Prop := ∀ b u, b ≠ z → b ≠ o → b ≠ c → b ≠ d → h.get? b = some u → g.get? b = some u
theorem zip_item {p q : Bool} {z T O c d l m : Addr} {i j : Nat} {xs ys : Array Value} {x y a b : Value} {Q : Value → Shared → Prop} (N : ZipApart z T O c d l m)
    (Z : IsZip s.heap z T O .none) (hT : IsPair s.heap T (.ref c) (.ref d)) (hO : IsPair s.heap O a b)
    (C : Cur p s.heap c l i) (D : Cur q s.heap d m j) (L : Row p s.heap l xs) (M : Row q s.heap m ys) (hx : xs[i]? = some x) (hy : ys[j]? = some y)
    (hQ : ∀ g, IsZip g z T O (rawInt s.heap.objs.size) → IsPair g O x y → Cur p g c l (i + 1) → Cur q g d m (j + 1) → IsPair g s.heap.objs.size x y → g.objs.size = s.heap.objs.size + 1 →
      Four z O c d s.heap g → Q (.ref s.heap.objs.size) { s with heap := g }) :
    wpAny (model prog w) A (Builtin.«zip.__next__» ⟨[.ref z], []⟩) (fun f s1 => ∃ v, f = .done (.ret v) ∧ Q v s1) E s := by
  show wpAny _ _ (field (.ref z) 2 >>= _) _ _ _
  refine wpAny_bind (wpAny_field Z rfl (x := .bool false) rfl ?_)
  show wpAny _ _ (field (.ref z) 3 >>= _) _ _ _
  refine wpAny_bind (wpAny_field Z rfl (x := .ref T) rfl ?_)
  refine wpAny_bind (wpAny_seqItems hT rfl ?_)
  show wpAny _ _ (Builtin.SmallTypes.ownedTupleIsFree (.ref z) >>= _) _ _ _
  refine wpAny_bind ?_
  unfold Builtin.SmallTypes.ownedTupleIsFree
  refine wpAny_bind (wpAny_field Z rfl (x := .none) rfl (wpAny_pure ?_))
  simp only [if_true]
  refine wpAny_bind (wpAny_rule ?_)
  refine wpAny_bind (wpAny_field Z rfl (x := .ref O) rfl ?_)
  refine wpAny_bind (wpAny_setField_rec Z (by simp) fun g1 Z1 k1 => ?_)
  replace Z1 : IsZip g1 z T O .ellipsis := Z1
  refine wpAny_bind ?_
  simp only [List.zipIdx_cons, List.zipIdx_nil, List.forIn_cons, List.forIn_nil]
  refine wpAny_bind (wpAny_bind (wpAny_onRaise ?_))
  show wpAny _ _ (Builtin.SmallTypes.nextOf (.ref c) >>= _) _ _ _
  refine wpAny_bind (cur_item (C.but k1.extBut N.i1z) (L.but k1.extBut N.l1z) hx fun g2 C2 k2 => wpAny_pure ?_)
  have O2 : IsPair g2 O a b := k2.extBut _ _ N.TOi1 (k1.extBut _ _ N.TOz hO)
  refine wpAny_bind (wpAny_seqItems O2 rfl ?_)
  refine wpAny_bind (wpAny_updateSeq_pair O2 fun g3 O3 k3 => ?_)
  replace O3 : IsPair g3 O x b := O3
  refine wpAny_bind (wpAny_letGo (wpAny_pure ?_))
  refine wpAny_bind (wpAny_bind (wpAny_onRaise ?_))
  show wpAny _ _ (Builtin.SmallTypes.nextOf (.ref d) >>= _) _ _ _
  refine wpAny_bind (cur_item (((D.but k1.extBut N.i2z).but k2.extBut N.i12.symm).but k3.extBut N.TOi2.symm)
    (((M.but k1.extBut N.l2z).but k2.extBut N.l2i1).but k3.extBut N.l2TO) hy fun g4 D4 k4 => wpAny_pure ?_)
  have O4 : IsPair g4 O x b := k4.extBut _ _ N.TOi2 O3
  refine wpAny_bind (wpAny_seqItems O4 rfl ?_)
  refine wpAny_bind (wpAny_updateSeq_pair O4 fun g5 O5 k5 => ?_)
  replace O5 : IsPair g5 O x y := O5
  refine wpAny_bind (wpAny_letGo (wpAny_pure (wpAny_pure ?_)))
  refine wpAny_bind (wpAny_seqItems O5 rfl ?_)
  refine wpAny_bind (wpAny_newTuple ?_)
  have hs : g5.objs.size = s.heap.objs.size := by rw [k5.1, k4.1, k3.1, k2.1, k1.1]
  have Z5 : IsZip g5 z T O .ellipsis := k5.extBut _ _ N.TOz.symm (k4.extBut _ _ N.i2z.symm (k3.extBut _ _ N.TOz.symm (k2.extBut _ _ N.i1z.symm Z1)))
  have K5 : Four z O c d s.heap g5 := fun b u b1 b2 b3 b4 e => k5.extBut _ _ b2 (k4.extBut _ _ b4 (k3.extBut _ _ b2 (k2.extBut _ _ b3 (k1.extBut _ _ b1 e))))
  have C5 : Cur p g5 c l (i + 1) := ((C2.but k3.extBut N.TOi1.symm).but k4.extBut N.i12).but k5.extBut N.TOi1.symm
  have D5 : Cur q g5 d m (j + 1) := D4.but k5.extBut N.TOi2.symm
  have zl : z < g5.objs.size := Heap.lt_size Z5
  show wpAny _ _ (Builtin.SmallTypes.ownedTupleHandOut (.ref z) (.ref g5.objs.size) >>= _) _ _ _
  refine wpAny_bind ?_
  unfold Builtin.SmallTypes.ownedTupleHandOut
  have Z6 : IsZip (g5.push { cls := .type "tuple", data := .seq #[x, y] }) z T O .ellipsis := Heap.get?_push_of_some _ Z5
  refine wpAny_bind (wpAny_setField_rec Z6 (by simp) fun g7 Z7 k7 => ?_)
  replace Z7 : IsZip g7 z T O (rawInt g5.objs.size) := Z7
  refine wpAny_setField_rec Z7 (by simp) fun g8 Z8 k8 => ?_
  replace Z8 : IsZip g8 z T O (rawInt g5.objs.size) := Z8
  have up : ∀ b u, b ≠ z → g5.get? b = some u → g8.get? b = some u := fun b u n e => k8.extBut _ _ n (k7.extBut _ _ n (Heap.get?_push_of_some _ e))
  have T8 : IsPair g8 g5.objs.size x y := k8.extBut _ _ (Nat.ne_of_gt zl) (k7.extBut _ _ (Nat.ne_of_gt zl) (Heap.get?_push_size _ rfl))
  have s8 : g8.objs.size = g5.objs.size + 1 := by rw [k8.1, k7.1, Heap.size_push]
  rw [hs] at Z8 T8 s8
  refine wpAny_pure ⟨_, rfl, ?_⟩
  show Q (.ref g5.objs.size) _
  rw [hs]
  exact hQ g8 Z8 (up _ _ N.TOz O5) (C5.at fun o e => up _ o N.i1z e) (D5.at fun o e => up _ o N.i2z e) T8 s8 fun b u b1 b2 b3 b4 e => up b u b1 (K5 b u b1 b2 b3 b4 e)
theorem zip_end {p q : Bool} {z T O c d l m : Addr} {i j : Nat} {xs ys : Array Value} {a b : Value} {Q : Fin → Shared → Prop} (hh : A.handled = none) (N : ZipApart z T O c d l m)
    (Z : IsZip s.heap z T O .none) (hT : IsPair s.heap T (.ref c) (.ref d)) (hO : IsPair s.heap O a b)
    (C : Cur p s.heap c l i) (D : Cur q s.heap d m j) (L : Row p s.heap l xs) (M : Row q s.heap m ys) (stop : xs[i]? = none ∨ ys[j]? = none)
    (hE : ∀ g e, Four z O c d s.heap g → (∃ o, g.get? e = some o ∧ o.cls = .type "StopIteration") → E (.ref e) { s with heap := g }) :
    wpAny (model prog w) A (Builtin.«zip.__next__» ⟨[.ref z], []⟩) Q E s := by
  show wpAny _ _ (field (.ref z) 2 >>= _) _ _ _
  refine wpAny_bind (wpAny_field Z rfl (x := .bool false) rfl ?_)
  show wpAny _ _ (field (.ref z) 3 >>= _) _ _ _
  refine wpAny_bind (wpAny_field Z rfl (x := .ref T) rfl ?_)
  refine wpAny_bind (wpAny_seqItems hT rfl ?_)
  show wpAny _ _ (Builtin.SmallTypes.ownedTupleIsFree (.ref z) >>= _) _ _ _
  refine wpAny_bind ?_
  unfold Builtin.SmallTypes.ownedTupleIsFree
  refine wpAny_bind (wpAny_field Z rfl (x := .none) rfl (wpAny_pure ?_))
  simp only [if_true]
  refine wpAny_bind (wpAny_rule ?_)
  refine wpAny_bind (wpAny_field Z rfl (x := .ref O) rfl ?_)
  refine wpAny_bind (wpAny_setField_rec Z (by simp) fun g1 Z1 k1 => ?_)
  replace Z1 : IsZip g1 z T O .ellipsis := Z1
  refine wpAny_bind ?_
  simp only [List.zipIdx_cons, List.zipIdx_nil, List.forIn_cons, List.forIn_nil]
  refine wpAny_bind (wpAny_bind (wpAny_onRaise ?_))
  show wpAny _ _ (Builtin.SmallTypes.nextOf (.ref c) >>= _) _ _ _
  rcases hx : xs[i]? with _ | x
  · refine wpAny_bind (cur_end hh (C.but k1.extBut N.i1z) (L.but k1.extBut N.l1z) hx fun g2 e k2 ⟨oe, he, ce⟩ => ?_)
    have Z2 : IsZip g2 z T O .ellipsis := k2 _ _ N.i1z.symm Z1
    have ne : e ≠ z := fun x => by subst x; rw [Z2] at he; cases he; simp at ce
    exact wpAny_setField_rec Z2 (by simp) fun g3 _ k3 => hE g3 e (fun b u b1 _ b3 _ x => k3.extBut _ _ b1 (k2 _ _ b3 (k1.extBut _ _ b1 x))) ⟨oe, k3.extBut _ _ ne he, ce⟩
  · have hy : ys[j]? = none := stop.resolve_left (by rw [hx]; exact nofun)
    refine wpAny_bind (cur_item (C.but k1.extBut N.i1z) (L.but k1.extBut N.l1z) hx fun g2 C2 k2 => wpAny_pure ?_)
    have O2 : IsPair g2 O a b := k2.extBut _ _ N.TOi1 (k1.extBut _ _ N.TOz hO)
    refine wpAny_bind (wpAny_seqItems O2 rfl ?_)
    refine wpAny_bind (wpAny_updateSeq_pair O2 fun g3 O3 k3 => ?_)
    refine wpAny_bind (wpAny_letGo (wpAny_pure ?_))
    refine wpAny_bind (wpAny_bind (wpAny_onRaise ?_))
    show wpAny _ _ (Builtin.SmallTypes.nextOf (.ref d) >>= _) _ _ _
    refine wpAny_bind (cur_end hh (((D.but k1.extBut N.i2z).but k2.extBut N.i12.symm).but k3.extBut N.TOi2.symm)
      (((M.but k1.extBut N.l2z).but k2.extBut N.l2i1).but k3.extBut N.l2TO) hy fun g4 e k4 ⟨oe, he, ce⟩ => ?_)
    have Z4 : IsZip g4 z T O .ellipsis := k4 _ _ N.i2z.symm (k3.extBut _ _ N.TOz.symm (k2.extBut _ _ N.i1z.symm Z1))
    have ne : e ≠ z := fun x => by subst x; rw [Z4] at he; cases he; simp at ce
    exact wpAny_setField_rec Z4 (by simp) fun g5 _ k5 => hE g5 e (fun b u b1 b2 b3 b4 x => k5.extBut _ _ b1 (k4 _ _ b4 (k3.extBut _ _ b2 (k2.extBut _ _ b3 (k1.extBut _ _ b1 x))))) ⟨oe, k5.extBut _ _ ne he, ce⟩
theorem next_item {p q : Bool} {z T O c d l m : Addr} {i j : Nat} {xs ys : Array Value} {x y a b : Value} {Q : Option Value → Shared → Prop} (N : ZipApart z T O c d l m)
    (Z : IsZip s.heap z T O .none) (hT : IsPair s.heap T (.ref c) (.ref d)) (hO : IsPair s.heap O a b)
    (C : Cur p s.heap c l i) (D : Cur q s.heap d m j) (L : Row p s.heap l xs) (M : Row q s.heap m ys) (hx : xs[i]? = some x) (hy : ys[j]? = some y)
    (hQ : ∀ g, IsZip g z T O (rawInt s.heap.objs.size) → IsPair g O x y → Cur p g c l (i + 1) → Cur q g d m (j + 1) → IsPair g s.heap.objs.size x y → g.objs.size = s.heap.objs.size + 1 →
      Four z O c d s.heap g → Q (some (.ref s.heap.objs.size)) { s with heap := g }) : wpAny (model prog w) A (pyNext (.ref z)) Q E s := by
  have t : s.TypeIs (.ref z) "zip" := ⟨_, Z, rfl⟩
  unfold pyNext
  refine wpAny_bind (wpAny_attempt (wpAny_callSpecial?_slot (name := Str.ofString "__next__") t F.slot_zip_next (wpAny_call_entry F.slot_zip_next t F.entry_zip_next ?_ (F.args_zip_next_1 _))))
  exact zip_item N Z hT hO C D L M hx hy fun g e1 e2 e3 e4 e5 e6 e7 => wpAny_pure (hQ g e1 e2 e3 e4 e5 e6 e7)
theorem next_end {p q : Bool} {z T O c d l m : Addr} {i j : Nat} {xs ys : Array Value} {a b : Value} {Q : Option Value → Shared → Prop} (hh : A.handled = none) (N : ZipApart z T O c d l m)
    (Z : IsZip s.heap z T O .none) (hT : IsPair s.heap T (.ref c) (.ref d)) (hO : IsPair s.heap O a b)
    (C : Cur p s.heap c l i) (D : Cur q s.heap d m j) (L : Row p s.heap l xs) (M : Row q s.heap m ys) (stop : xs[i]? = none ∨ ys[j]? = none)
    (hQ : ∀ g, Four z O c d s.heap g → Q none { s with heap := g }) : wpAny (model prog w) A (pyNext (.ref z)) Q E s := by
  have t : s.TypeIs (.ref z) "zip" := ⟨_, Z, rfl⟩
  unfold pyNext
  refine wpAny_bind (wpAny_attempt (wpAny_callSpecial?_slot (name := Str.ofString "__next__") t F.slot_zip_next (wpAny_call_entry F.slot_zip_next t F.entry_zip_next ?_ (F.args_zip_next_1 _))))
  refine zip_end hh N Z hT hO C D L M stop fun g e k ⟨o, ho, hc⟩ => ?_
  exact wpAny_bind (wpAny_isInstance (T := "StopIteration") (b := true) ⟨o, ho, hc⟩ isSubtype_stop (wpAny_pure (hQ _ k)))
end
/-- what zip makes of a list and a tuple, object by object -/
abbrev P1 (h : Heap) (l : Addr) : Heap := h.push { cls := .type "list_iterator", data := .fields #[.ref l, .int 0 0] }
abbrev P2 (h : Heap) (l m : Addr) : Heap := (P1 h l).push { cls := .type "tuple_iterator", data := .fields #[.ref m, .int 0 0] }
abbrev P3 (h : Heap) (l m : Addr) : Heap := (P2 h l m).push { cls := .type "tuple", data := .seq #[.ref h.objs.size, .ref (P1 h l).objs.size] }
abbrev P4 (h : Heap) (l m : Addr) : Heap := (P3 h l m).push { cls := .type "tuple", data := .seq #[.none, .none] }
abbrev P5 (h : Heap) (l m : Addr) : Heap := (P4 h l m).push { cls := .type "zip", data := .fields #[.none, .bool false, .bool false, .ref (P2 h l m).objs.size, .ref (P3 h l m).objs.size] }
theorem makes_zip (l m : Addr) (xs ys : Array Value) :
    Meets (Builtin.«zip.__new__» ⟨[.type "zip", .ref l, .ref m], []⟩) (fun _ R s => s.heap.IsList l xs ∧ s.heap.IsTuple m ys ∧ R (.ok (.ret (.ref (P4 s.heap l m).objs.size))) { s with heap := P5 s.heap l m }) :=
  .of_wp fun prog w A R s h => by
    obtain ⟨hp, g, d, tk, os⟩ := s
    obtain ⟨hl, hm, h⟩ := h
    have sub := sub_zip
    have L1 : Heap.IsList (Shared.heap ⟨hp, g, d, tk, os⟩) l xs := hl
    have L2 : Heap.IsTuple (Shared.heap ⟨hp.push { cls := .type "list_iterator", data := .fields #[.ref l, .int 0 0] }, g, d, tk, os⟩) m ys := Heap.IsTuple.push hm _
    wp_walk using wpAny_pyIter_list L1, wpAny_pyIter_tuple L2
    exact ⟨_, rfl, h⟩
theorem call_lt {prog : Program} {w : World} {A : Around} {E : Value → Shared → Prop} {s : Shared} {l m : Addr} {xs ys : Array Value} {Q : Value → Shared → Prop} (L : s.heap.IsList l xs) (M : s.heap.IsTuple m ys)
    (k : ∀ g, IsZip g (s.heap.objs.size + 4) (s.heap.objs.size + 2) (s.heap.objs.size + 3) .none → IsPair g (s.heap.objs.size + 2) (.ref s.heap.objs.size) (.ref (s.heap.objs.size + 1)) →
      IsPair g (s.heap.objs.size + 3) .none .none → Cur false g s.heap.objs.size l 0 → Cur true g (s.heap.objs.size + 1) m 0 → g.objs.size = s.heap.objs.size + 5 →
      (∀ b u, s.heap.get? b = some u → g.get? b = some u) → Q (.ref (s.heap.objs.size + 4)) { s with heap := g }) : wpAny (model prog w) A (call (.type "zip") [.ref l, .ref m]) Q E s := by
  refine callType_new F.called_zip (by decide) (F.typeCall_zip_2 _ _) (F.newCall_zip_2 _ _) (fun obj => F.args_object_init_3 obj _ _) F.entry_zip_new (makes_zip l m xs ys) ⟨L, M, ?_⟩
  have s1 : (P1 s.heap l).objs.size = s.heap.objs.size + 1 := Heap.size_push ..
  have s2 : (P2 s.heap l m).objs.size = s.heap.objs.size + 2 := by rw [Heap.size_push, s1]
  have s3 : (P3 s.heap l m).objs.size = s.heap.objs.size + 3 := by rw [Heap.size_push, s2]
  have s4 : (P4 s.heap l m).objs.size = s.heap.objs.size + 4 := by rw [Heap.size_push, s3]
  have s5 : (P5 s.heap l m).objs.size = s.heap.objs.size + 5 := by rw [Heap.size_push, s4]
  have on : ∀ {g : Heap} {b : Addr} {u o : Obj}, g.get? b = some u → (g.push o).get? b = some u := fun e => Heap.get?_push_of_some _ e
  have e5 : (P5 s.heap l m).get? (P4 s.heap l m).objs.size = some _ := Heap.get?_push_size _ rfl
  have e4 : (P5 s.heap l m).get? (P3 s.heap l m).objs.size = some _ := on (Heap.get?_push_size _ rfl)
  have e3 : (P5 s.heap l m).get? (P2 s.heap l m).objs.size = some _ := on (on (Heap.get?_push_size _ rfl))
  have e2 : (P5 s.heap l m).get? (P1 s.heap l).objs.size = some _ := on (on (on (Heap.get?_push_size _ rfl)))
  have e1 : (P5 s.heap l m).get? s.heap.objs.size = some _ := on (on (on (on (Heap.get?_push_size _ rfl))))
  show _ ∧ _
  rw [s2, s3, s4] at e5
  rw [s1, s2] at e3
  rw [s3] at e4
  rw [s1] at e2
  rw [s4]
  exact ⟨⟨_, e5, rfl⟩, k _ e5 e3 e4 ⟨_, e1, rfl, rfl⟩ ⟨_, e2, rfl, rfl⟩ s5 fun b u x => on (on (on (on (on x))))⟩
/-- the list at a and the tuple at b as they stand at each turn, the items in new pairs -/
def Itlt (K : PySem.W.Frag) (a b : Addr) : It :=
  ⟨fun i H => ∃ (xs ys : List V) (x y : V), SqL K H a xs ∧ SqT K H b ys ∧ xs[i]? = some x ∧ ys[i]? = some y,
    fun i H v H' => ∃ T x y, v = .ref T ∧ H T = none ∧ H' = upd H T (.tup [x, y]) ∧ (∀ xs, SqL K H a xs → xs[i]? = some x) ∧ ∀ ys, SqT K H b ys → ys[i]? = some y,
    fun i H => ∃ xs ys : List V, SqL K H a xs ∧ SqT K H b ys ∧ (xs.length ≤ i ∨ ys.length ≤ i)⟩
theorem turn_lt {P : Program} {w : World} {K : PySem.W.Frag} {elts : List Expr} {kk : Nat} {tp : Pos} {a b z T O c d : Addr} (N : ZipApart z T O c d a b) :
    Turn P w K (.Tuple elts kk tp) (Itlt K a b) [z, T, O, c, d] z (fun i h => IsZip h z T O .none ∧ IsPair h T (.ref c) (.ref d) ∧ (∃ x y, IsPair h O x y) ∧ Cur false h c a i ∧ Cur true h d b i) where
  mem := .head _
  obj := by
    rintro i h ⟨Z, hT, ⟨x, y, hO⟩, C, D⟩ e he
    rcases (by simpa using he : e = z ∨ e = T ∨ e = O ∨ e = c ∨ e = d) with rfl | rfl | rfl | rfl | rfl
    · exact ⟨_, Z, nofun⟩
    · exact ⟨_, hT, nofun⟩
    · exact ⟨_, hO, nofun⟩
    · exact C.obj
    · exact D.obj
  keep := by
    rintro i h h' ⟨Z, hT, ⟨x, y, hO⟩, C, D⟩ k
    exact ⟨k z (by simp) _ Z, k T (by simp) _ hT, ⟨x, y, k O (by simp) _ hO⟩, C.at fun o q => k c (by simp) o q, D.at fun o q => k d (by simp) o q⟩
  item := by
    intro X hP hw hK hc i pins s σ H E I hf st hg
    subst hP hw hK
    obtain ⟨Z, hT, ⟨x0, y0, hO⟩, C, D⟩ := st
    obtain ⟨xs, ys, x, y, ax, ay, hx, hy⟩ := hg
    obtain ⟨us, rv, p, _⟩ := I.list ax
    obtain ⟨us2, rv2, p2, _⟩ := I.tuple ay
    obtain ⟨u, hu, ru⟩ := rv.get hx
    obtain ⟨u2, hu2, ru2⟩ := rv2.get hy
    have zl : z < s.heap.objs.size := Heap.lt_size Z
    refine next_item N Z hT hO C D (show Row false s.heap a us.toArray from p.isList) (show Row true s.heap b us2.toArray from p2) (by simpa using hu) (by simpa using hu2) fun g Zg Og Cg Dg Tg sg k => ?_
    refine ⟨_, rfl, wpAny_letOwnedTupleGo_zip (s := { s with heap := g }) Zg fun f Zf sb => ?_⟩
    have Tf : f.get? s.heap.objs.size = some { cls := .type "tuple", data := .seq #[u, u2] } := (sb.2 _ (Nat.ne_of_gt zl)).trans Tg
    have kf : ∀ e o, e ∉ [z, T, O, c, d] → s.heap.get? e = some o → f.get? e = some o := fun e o n q => by
      simp only [List.mem_cons, List.not_mem_nil, or_false, not_or] at n
      exact (sb.2 _ n.1).trans (k e o n.1 n.2.2.1 n.2.2.2.1 n.2.2.2.2 q)
    have new : ObjOk X.prog X.w (upd H s.heap.objs.size (.tup [x, y])) f s.heap.objs.size (.tup [x, y]) := ⟨by show 2 ≤ sizeLine; decide, [u, u2], .cons ru (.cons ru2 .nil), ⟨_, Tf, rfl, _, rfl⟩⟩
    have J : Inv X pins σ (upd H s.heap.objs.size (.tup [x, y])) { s with heap := f } := I.turnedNew (t' := s.toks) (ch := [z, T, O, c, d]) kf hf (Nat.le_refl _) new
    refine ⟨.ref s.heap.objs.size, _, J, rfl, ⟨_, x, y, rfl, I.hok.fresh (Nat.le_refl _), rfl, fun l hl => by rw [I.list_inj hl ax]; exact hx, fun l hl => by rw [I.tuple_inj hl ay]; exact hy⟩, ⟨Zf, ?_, ⟨u, u2, (sb.2 _ N.TOz).trans Og⟩, ?_, ?_⟩, fun e he => ?_⟩
    · exact (sb.2 _ N.TIz).trans (k _ _ N.TIz N.TITO N.TIi1 N.TIi2 hT)
    · exact Cg.at fun o q => (sb.2 _ N.i1z).trans q
    · exact Dg.at fun o q => (sb.2 _ N.i2z).trans q
    · have lt : e < s.heap.objs.size := by
        rcases (by simpa using he : e = z ∨ e = T ∨ e = O ∨ e = c ∨ e = d) with q | q | q | q | q
        · exact q ▸ zl
        · exact q ▸ Heap.lt_size hT
        · exact q ▸ Heap.lt_size hO
        · exact q ▸ C.lt
        · exact q ▸ D.lt
      rw [upd_ne (Nat.ne_of_lt lt)]
      exact (hf e he).1
  done := by
    intro X hP hw hK hc i pins s σ H E I hf st hg
    subst hP hw hK
    obtain ⟨Z, hT, ⟨x0, y0, hO⟩, C, D⟩ := st
    obtain ⟨xs, ys, ax, ay, stop⟩ := hg
    obtain ⟨us, rv, p, _⟩ := I.list ax
    obtain ⟨us2, rv2, p2, _⟩ := I.tuple ay
    have n1 := rv.length
    have n2 := rv2.length
    have he : us.toArray[i]? = none ∨ us2.toArray[i]? = none := by
      rcases stop with q | q
      · exact .inl (by simp; omega)
      · exact .inr (by simp; omega)
    refine next_end (I.ok.hd hc) N Z hT hO C D (show Row false s.heap a us.toArray from p.isList) (show Row true s.heap b us2.toArray from p2) he fun g k => ⟨rfl, I.turnedL (t' := s.toks) (ch := [z, T, O, c, d]) (fun e o n q => ?_) hf⟩
    simp only [List.mem_cons, List.not_mem_nil, or_false, not_or] at n
    exact k e o n.1 n.2.2.1 n.2.2.2.1 n.2.2.2.2 q
  self := fun A i s Q E st h => wpAny_pyIter_zip st.1 h
/-- zip(list, tuple) -/
def iZipLT (K : PySem.W.Frag) (ta : TA) : TI := fun σ H R => ta σ H fun vs H1 => ∃ a b xs ys, vs = [.ref a, .ref b] ∧ SqL K H1 a xs ∧ SqT K H1 b ys ∧ R (Itlt K a b) H1
theorem pi_zipLT {X : Cx} {e e2 : Expr} {ta : TA} {p pos tp : Pos} {elts : List Expr} {kk : Nat} (hg : Gl X "zip") (hm : X.mg "zip" = none) (ha : PA X [e, e2] ta)
    (hs : starEach [e, e2] X.env = (false, eval e X.env) :: starEach [e2] X.env := by rfl) (hpl : (backTo pos (starEach [e2] X.env)).any (·.1) = false := by rfl) :
    PI X (.Tuple elts kk tp) (.Call (.Name "zip" p) [e, e2] [] pos) (iZipLT X.K ta) := by
  refine ⟨fun pins s σ H R I h => ?_⟩
  refine Call_ (ld_blt I hg hm PyProof.Rows.boot_zip (PyProof.Rows.callWith_type1 (thn (ha.run pos pins s σ H _ I h) fun us s1 ⟨vs, H1, J, r1, q1⟩ => ?_) hs hpl))
  obtain ⟨a, b, xs, ys, rfl, ax, ay, q⟩ := q1
  rcases r1 with _ | ⟨r, _ | ⟨r', _ | _⟩⟩
  cases r
  cases r'
  have fresh : ∀ e, e ∈ [s1.heap.objs.size + 4, s1.heap.objs.size + 2, s1.heap.objs.size + 3, s1.heap.objs.size, s1.heap.objs.size + 1] → FpOk X pins H1 e := fun e he => by
    have le : s1.heap.objs.size ≤ e := by
      simp only [List.mem_cons, List.not_mem_nil, or_false] at he
      omega
    exact J.fpOk le (J.hok.fresh le)
  obtain ⟨us, rv, p1, _⟩ := J.list ax
  obtain ⟨us2, rv2, p2, _⟩ := J.tuple ay
  obtain ⟨o2, ho2, _⟩ := id p2
  refine call_lt p1.isList (show s1.heap.IsTuple b us2.toArray from p2) fun g Z T O C D sz k => wpAny_pyIter_zip Z ?_
  exact ⟨s1.heap.objs.size + 4, [s1.heap.objs.size + 4, s1.heap.objs.size + 2, s1.heap.objs.size + 3, s1.heap.objs.size, s1.heap.objs.size + 1], _, _, H1, rfl, J.kept (t' := s1.toks) k, turn_lt (PySem.W.ktu_apart s1.heap.objs.size a b p1.lt (Heap.lt_size ho2)), ⟨Z, T, ⟨_, _, O⟩, C, D⟩, fresh, q⟩
theorem walk_lt {K : PySem.W.Frag} {a b : Addr} {xs ys : List V} {n : Nat} (hn : n = min xs.length ys.length) : Walk (Itlt K a b) n (fun H => SqL K H a xs ∧ SqT K H b ys) (YPair (fun i => xs[i]?) (fun i => ys[i]?)) := by
  subst hn
  refine ⟨fun i H lt ⟨p, q⟩ => ?_, fun H ⟨p, q⟩ => ⟨xs, ys, p, q, by omega⟩, fun i H v H' _ ⟨p, q⟩ ⟨T, x, z, h1, h2, h3, h4, h5⟩ => ⟨T, x, z, h1, h2, h3, h4 xs p, h5 ys q⟩⟩
  have l1 : i < xs.length := by omega
  have l2 : i < ys.length := by omega
  exact ⟨xs, ys, xs[i], ys[i], p, q, by simp [l1], by simp [l2]⟩
end ZLT
set_option Elab.async false
set_option linter.all false
set_option maxRecDepth 100000
set_option maxHeartbeats 2000000
/-! enumerate(tuple): each item with its number, in a new pair -/
namespace ZLT
open PySem PySem.Spec PyProof.Rows L2
open PySem.Sem (wp)
section
variable {prog : Program} {w : World} {A : Around} {E : Value → Shared → Prop} {s : Shared}
theorem enumT_item {e it l : Addr} {i : Nat} {xs : Array Value} {x old : Value} {Q : Value → Shared → Prop}
    (N : IsEnum s.heap e it i old) (C : Cur true s.heap it l i) (L : Row true s.heap l xs) (hx : xs[i]? = some x) (ne : e ≠ it)
    (hQ : ∀ g, IsEnumOut g e it ((i : Int) + 1) x s.heap.objs.size → Cur true g it l (i + 1) → g.get? s.heap.objs.size = some { cls := .type "tuple", data := .seq #[.int i s.toks, x] } → g.objs.size = s.heap.objs.size + 1 →
      (∀ b u, b ≠ e → b ≠ it → s.heap.get? b = some u → g.get? b = some u) → Q (.ref s.heap.objs.size) { s with heap := g, toks := s.toks + 1 }) :
    wpAny (model prog w) A (Builtin.«enumerate.__next__» ⟨[.ref e], []⟩) (fun f s1 => ∃ v, f = .done (.ret v) ∧ Q v s1) E s := by
  obtain ⟨hp, g, d, tk, os⟩ := s
  show wpAny _ _ (field (.ref e) 2 >>= _) _ _ _
  refine wpAny_bind (wpAny_field N rfl (x := .ref it) rfl ?_)
  refine wpAny_bind (cur_item C L hx fun g1 C1 k1 => ?_)
  replace k1 : Heap.SameBut it hp g1 := k1
  have N1 : IsEnum g1 e it i old := (k1.2 e ne).trans N
  show wpAny _ _ (field (.ref e) 3 >>= _) _ _ ⟨g1, g, d, tk, os⟩
  refine wpAny_bind (wpAny_field N1 rfl (x := rawInt i) rfl ?_)
  show wpAny _ _ (field (.ref e) 4 >>= _) _ _ ⟨g1, g, d, tk, os⟩
  refine wpAny_bind (wpAny_field N1 rfl (x := .none) rfl ?_)
  show wpAny _ _ (mkInt i >>= _) _ _ ⟨g1, g, d, tk, os⟩
  refine wpAny_bind (wpAny_mkInt ?_)
  show wpAny _ _ (setField (.ref e) 3 (rawInt ((i : Int) + 1)) >>= _) _ _ ⟨g1, g, d, tk + 1, os⟩
  refine wpAny_bind (wpAny_setField_rec N1 (by simp) fun g2 N2 k2 => ?_)
  replace k2 : Heap.SameBut e g1 g2 := k2
  replace N2 : IsEnum g2 e it ((i : Int) + 1) old := N2
  show wpAny _ _ (setField (.ref e) 4 .none >>= _) _ _ ⟨g2, g, d, tk + 1, os⟩
  refine wpAny_bind (wpAny_setField_rec N2 (by simp) fun g3 N3 k3 => ?_)
  replace k3 : Heap.SameBut e g2 g3 := k3
  replace N3 : IsEnum g3 e it ((i : Int) + 1) old := N3
  show wpAny _ _ (newTuple [.int i tk, x] >>= _) _ _ ⟨g3, g, d, tk + 1, os⟩
  refine wpAny_bind (wpAny_newTuple ?_)
  have N4 : IsEnum (g3.push { cls := .type "tuple", data := .seq #[.int i tk, x] }) e it ((i : Int) + 1) old := Heap.get?_push_of_some _ N3
  generalize hg4 : g3.push { cls := .type "tuple", data := .seq #[.int i tk, x] } = g4 at N4
  have sz : g3.objs.size = hp.objs.size := by rw [k3.1, k2.1, k1.1]
  have lt : e < hp.objs.size := Heap.lt_size N
  have T4 : g4.get? hp.objs.size = some { cls := .type "tuple", data := .seq #[.int i tk, x] } := by rw [← hg4, ← sz]; exact Heap.get?_push_size _ rfl
  have z4 : g4.objs.size = hp.objs.size + 1 := by rw [← hg4, Heap.size_push, sz]
  have K4 : ∀ b u, b ≠ e → b ≠ it → hp.get? b = some u → g4.get? b = some u := fun b u b1 b2 q => by
    rw [← hg4]
    exact Heap.get?_push_of_some _ (k3.extBut b u b1 (k2.extBut b u b1 (k1.extBut b u b2 q)))
  have C4 : Cur true g4 it l (i + 1) := by
    rw [← hg4]
    exact ((C1.but k2.extBut (Ne.symm ne)).but k3.extBut (Ne.symm ne)).at fun o q => Heap.get?_push_of_some _ q
  show wpAny _ _ (Builtin.SmallTypes.ownedTupleIsFree (.ref e) >>= _) _ _ ⟨g4, g, d, tk + 1, os⟩
  rw [sz]
  clear hg4 N3 k3 N2 k2 N1 k1 C1 sz g3 g2 g1
  refine wpAny_bind ?_
  unfold Builtin.SmallTypes.ownedTupleIsFree
  refine wpAny_bind (wpAny_field N4 rfl (x := .none) rfl (wpAny_pure ?_))
  simp only [if_true]
  refine wpAny_bind (wpAny_rule ?_)
  refine wpAny_bind (wpAny_field N4 rfl (x := old) rfl ?_)
  refine wpAny_bind (wpAny_setField_rec N4 (by simp) fun g5 N5 k5 => ?_)
  replace k5 : Heap.SameBut e g4 g5 := k5
  replace N5 : IsEnum g5 e it ((i : Int) + 1) x := N5
  show wpAny _ _ (Builtin.SmallTypes.ownedTupleHandOut (.ref e) (.ref hp.objs.size) >>= _) _ _ ⟨g5, g, d, tk + 1, os⟩
  refine wpAny_bind ?_
  unfold Builtin.SmallTypes.ownedTupleHandOut
  refine wpAny_bind (wpAny_setField_rec N5 (by simp) fun g6 N6 k6 => ?_)
  replace k6 : Heap.SameBut e g5 g6 := k6
  replace N6 : IsEnumOut g6 e it ((i : Int) + 1) x hp.objs.size := N6
  refine wpAny_setField_rec N6 (by simp) fun g7 N7 k7 => ?_
  replace k7 : Heap.SameBut e g6 g7 := k7
  replace N7 : IsEnumOut g7 e it ((i : Int) + 1) x hp.objs.size := N7
  have up : ∀ b u, b ≠ e → g4.get? b = some u → g7.get? b = some u := fun b u n q => k7.extBut b u n (k6.extBut b u n (k5.extBut b u n q))
  refine wpAny_bind (wpAny_letGo (wpAny_pure ⟨_, rfl, hQ g7 N7 (C4.at fun o q => up _ o (Ne.symm ne) q) (up _ _ (Nat.ne_of_gt lt) T4) (by rw [k7.1, k6.1, k5.1, z4]) fun b u b1 b2 q => up b u b1 (K4 b u b1 b2 q)⟩))
theorem enumT_next {e it l : Addr} {i : Nat} {xs : Array Value} {x old : Value} {Q : Option Value → Shared → Prop}
    (N : IsEnum s.heap e it i old) (C : Cur true s.heap it l i) (L : Row true s.heap l xs) (hx : xs[i]? = some x) (ne : e ≠ it)
    (hQ : ∀ g, IsEnumOut g e it ((i : Int) + 1) x s.heap.objs.size → Cur true g it l (i + 1) → g.get? s.heap.objs.size = some { cls := .type "tuple", data := .seq #[.int i s.toks, x] } → g.objs.size = s.heap.objs.size + 1 →
      (∀ b u, b ≠ e → b ≠ it → s.heap.get? b = some u → g.get? b = some u) → Q (some (.ref s.heap.objs.size)) { s with heap := g, toks := s.toks + 1 }) : wpAny (model prog w) A (pyNext (.ref e)) Q E s := by
  have t : s.TypeIs (.ref e) "enumerate" := ⟨_, N, rfl⟩
  unfold pyNext
  refine wpAny_bind (wpAny_attempt (wpAny_callSpecial?_slot (name := Str.ofString "__next__") t F.slot_enumerate_next (wpAny_call_entry F.slot_enumerate_next t F.entry_enumerate_next ?_ (F.args_enumerate_next_1 _))))
  exact enumT_item N C L hx ne fun g e1 e2 e3 e4 e5 => wpAny_pure (hQ g e1 e2 e3 e4 e5)
theorem enumT_end {e it l : Addr} {i : Nat} {xs : Array Value} {old : Value} {Q : Option Value → Shared → Prop} (hh : A.handled = none)
    (N : IsEnum s.heap e it i old) (C : Cur true s.heap it l i) (L : Row true s.heap l xs) (hx : xs[i]? = none) (hQ : ∀ g, Heap.ExtBut it s.heap g → Q none { s with heap := g }) : wpAny (model prog w) A (pyNext (.ref e)) Q E s := by
  have t : s.TypeIs (.ref e) "enumerate" := ⟨_, N, rfl⟩
  unfold pyNext
  refine wpAny_bind (wpAny_attempt (wpAny_callSpecial?_slot (name := Str.ofString "__next__") t F.slot_enumerate_next (wpAny_call_entry F.slot_enumerate_next t F.entry_enumerate_next ?_ (F.args_enumerate_next_1 _))))
  show wpAny _ _ (field (.ref e) 2 >>= _) _ _ _
  refine wpAny_bind (wpAny_field N rfl (x := .ref it) rfl ?_)
  refine wpAny_bind (cur_end hh C L hx fun g y k ⟨o, ho, hc⟩ => ?_)
  exact wpAny_bind (wpAny_isInstance (T := "StopIteration") (b := true) ⟨o, ho, hc⟩ isSubtype_stop (wpAny_pure (hQ _ k)))
end
abbrev E1 (h : Heap) (l : Addr) : Heap := h.push { cls := .type "tuple_iterator", data := .fields #[.ref l, .int 0 0] }
abbrev E2 (h : Heap) (l : Addr) : Heap := (E1 h l).push { cls := .type "enumerate", data := .fields #[.none, .bool false, .ref h.objs.size, rawInt 0, .none, .none] }
theorem makes_enum (l : Addr) (xs : Array Value) :
    Meets (Builtin.«enumerate.__new__» ⟨[.type "enumerate", .ref l], []⟩) (fun _ R s => s.heap.IsTuple l xs ∧ R (.ok (.ret (.ref (E1 s.heap l).objs.size))) { s with heap := E2 s.heap l }) :=
  .of_wp fun prog w A R s h => by
    obtain ⟨hp, g, d, tk, os⟩ := s
    obtain ⟨hl, h⟩ := h
    have sub := sub_enumerate
    have L : Heap.IsTuple (Shared.heap ⟨hp, g, d, tk, os⟩) l xs := hl
    obtain ⟨o, ho, hc, n, hd⟩ := id hl
    obtain ⟨c, dct, dt, sl⟩ := o
    replace hc : c = .type "tuple" := hc
    replace hd : dt = .seq xs n := hd
    subst hc hd
    wp_walk using AutoSeq1.wpAny_loadPart' ho
    refine wpAny_stack_any fun st => wpAny_pure ?_
    split
    · rename_i c _ _ _ _ _
      cases (c == Value.type "enumerate")
      · wp_walk using AutoSeq1.wpAny_loadPart' ho, wpAny_pyIter_tuple L
        exact ⟨_, rfl, h⟩
      · wp_walk using AutoSeq1.wpAny_loadPart' ho, wpAny_pyIter_tuple L
        exact ⟨_, rfl, h⟩
    · wp_walk using AutoSeq1.wpAny_loadPart' ho, wpAny_pyIter_tuple L
      exact ⟨_, rfl, h⟩
theorem call_enumT {prog : Program} {w : World} {A : Around} {E : Value → Shared → Prop} {s : Shared} {l : Addr} {xs : Array Value} {Q : Value → Shared → Prop} (L : s.heap.IsTuple l xs)
    (k : ∀ g, IsEnum g (s.heap.objs.size + 1) s.heap.objs.size 0 .none → Cur true g s.heap.objs.size l 0 → (∀ b u, s.heap.get? b = some u → g.get? b = some u) → Q (.ref (s.heap.objs.size + 1)) { s with heap := g }) : wpAny (model prog w) A (call (.type "enumerate") [.ref l]) Q E s := by
  refine callType_new F.called_enumerate (by decide) (F.typeCall_enumerate_1 _) (F.newCall_enumerate_1 _) (fun obj => F.args_object_init_2 obj _) F.entry_enumerate_new (makes_enum l xs) ⟨L, ?_⟩
  have z : (E1 s.heap l).objs.size = s.heap.objs.size + 1 := Heap.size_push ..
  show _ ∧ _
  have e2 : (E2 s.heap l).get? (E1 s.heap l).objs.size = some _ := Heap.get?_push_size _ rfl
  rw [z] at e2 ⊢
  exact ⟨⟨_, e2, rfl⟩, k _ e2 ⟨_, Heap.get?_push_of_some _ (Heap.get?_push_size _ rfl), rfl, rfl⟩ fun b u q => Heap.get?_push_of_some _ (Heap.get?_push_of_some _ q)⟩
/-- the tuple at a as it stands at each turn, each item in a new pair -/
def Itet (K : PySem.W.Frag) (a : Addr) : It :=
  ⟨fun i H => ∃ (xs : List V) (x : V), SqT K H a xs ∧ xs[i]? = some x, fun i H v H' => ∃ T x, v = .ref T ∧ H T = none ∧ H' = upd H T (.tup [.int (i : Nat), x]) ∧ ∀ xs, SqT K H a xs → xs[i]? = some x, fun i H => ∃ xs : List V, SqT K H a xs ∧ xs.length ≤ i⟩
theorem turn_enumT {P : Program} {w : World} {K : PySem.W.Frag} {elts : List Expr} {kk : Nat} {tp : Pos} (a e it : Addr) :
    Turn P w K (.Tuple elts kk tp) (Itet K a) [e, it] e (fun i h => (∃ old, IsEnum h e it ((i : Nat) : Int) old) ∧ Cur true h it a i ∧ e ≠ it) where
  mem := .head _
  obj := by
    rintro i h ⟨⟨old, N⟩, C, _⟩ b hb
    rcases (by simpa using hb : b = e ∨ b = it) with rfl | rfl
    · exact ⟨_, N, nofun⟩
    · exact C.obj
  keep := by
    rintro i h h' ⟨⟨old, N⟩, C, ne⟩ k
    exact ⟨⟨old, k e (by simp) _ N⟩, C.at fun o q => k it (by simp) o q, ne⟩
  item := by
    intro X hP hw hK hc i pins s σ H E I hf st hg
    subst hP hw hK
    obtain ⟨⟨old, N⟩, C, ne⟩ := st
    obtain ⟨xs, x, ax, hx⟩ := hg
    obtain ⟨us, rv, p, _⟩ := I.tuple ax
    obtain ⟨u, hu, ru⟩ := rv.get hx
    have lt : e < s.heap.objs.size := Heap.lt_size N
    refine enumT_next N C (show Row true s.heap a us.toArray from p) (x := u) (by simpa using hu) ne fun g Og Cg Tg sg k => ?_
    refine ⟨_, rfl, wpAny_letOwnedTupleGo_enum (s := { s with heap := g, toks := s.toks + 1 }) Og fun f Nf sb => ?_⟩
    have Tf : f.get? s.heap.objs.size = some { cls := .type "tuple", data := .seq #[.int i s.toks, u] } := (sb.2 _ (Nat.ne_of_gt lt)).trans Tg
    have new : ObjOk X.prog X.w (upd H s.heap.objs.size (.tup [.int (i : Nat), x])) f s.heap.objs.size (.tup [.int (i : Nat), x]) := ⟨by show 2 ≤ sizeLine; decide, [.int i s.toks, u], .cons ⟨_, rfl⟩ (.cons ru .nil), ⟨_, Tf, rfl, _, rfl⟩⟩
    have kf : ∀ b o, b ∉ [e, it] → s.heap.get? b = some o → f.get? b = some o := fun b o n q => by
      simp only [List.mem_cons, List.not_mem_nil, or_false, not_or] at n
      exact (sb.2 b n.1).trans (k b o n.1 n.2 q)
    have J : Inv X pins σ (upd H s.heap.objs.size (.tup [.int (i : Nat), x])) { s with heap := f, toks := s.toks + 1 } := I.turnedNew (ch := [e, it]) kf hf (Nat.le_refl _) new
    refine ⟨.ref s.heap.objs.size, _, J, rfl, ⟨_, x, rfl, I.hok.fresh (Nat.le_refl _), rfl, fun ys hy => by rw [I.tuple_inj hy ax]; exact hx⟩, ⟨⟨u, ?_⟩, Cg.at fun o q => (sb.2 it (Ne.symm ne)).trans q, ne⟩, fun b hb => ?_⟩
    · rw [show ((i + 1 : Nat) : Int) = (i : Int) + 1 by omega]
      exact Nf
    · have lt' : b < s.heap.objs.size := by
        rcases (by simpa using hb : b = e ∨ b = it) with q | q
        · exact q ▸ lt
        · exact q ▸ C.lt
      rw [upd_ne (Nat.ne_of_lt lt')]
      exact (hf b hb).1
  done := by
    intro X hP hw hK hc i pins s σ H E I hf st hg
    subst hP hw hK
    obtain ⟨⟨old, N⟩, C, ne⟩ := st
    obtain ⟨xs, ax, hx⟩ := hg
    obtain ⟨us, rv, p, _⟩ := I.tuple ax
    have n1 := rv.length
    refine enumT_end (I.ok.hd hc) N C (show Row true s.heap a us.toArray from p) (by simp; omega) fun g k => ⟨rfl, I.turnedL (t' := s.toks) (ch := [e, it]) (fun b o n q => ?_) hf⟩
    simp only [List.mem_cons, List.not_mem_nil, or_false, not_or] at n
    exact k b o n.2 q
  self := fun A i s Q E st h => let ⟨⟨_, N⟩, _⟩ := st; wpAny_pyIter_enum N h
def iEnumT (K : PySem.W.Frag) (ta : TA) : TI := fun σ H R => ta σ H fun vs H1 => ∃ a xs, vs = [.ref a] ∧ SqT K H1 a xs ∧ R (Itet K a) H1
theorem pi_enumT {X : Cx} {e : Expr} {ta : TA} {p pos tp : Pos} {elts : List Expr} {kk : Nat} (hg : Gl X "enumerate") (hm : X.mg "enumerate" = none) (ha : PA X [e] ta) (hs : starEach [e] X.env = [(false, eval e X.env)] := by rfl) :
    PI X (.Tuple elts kk tp) (.Call (.Name "enumerate" p) [e] [] pos) (iEnumT X.K ta) := by
  refine ⟨fun pins s σ H R I h => ?_⟩
  refine Call_ (ld_blt I hg hm boot_enumerate (PyProof.Rows.callWith_type1 (thn (ha.run pos pins s σ H _ I h) fun us s1 ⟨vs, H1, J, r1, q1⟩ => ?_) hs rfl))
  obtain ⟨a, xs, rfl, ax, q⟩ := q1
  rcases r1 with _ | ⟨r, _ | _⟩
  cases r
  obtain ⟨us, rv, p', _⟩ := J.tuple ax
  refine call_enumT (show s1.heap.IsTuple a us.toArray from p') fun g N C k => wpAny_pyIter_enum N ?_
  refine ⟨s1.heap.objs.size + 1, [s1.heap.objs.size + 1, s1.heap.objs.size], _, _, H1, rfl, J.kept (t' := s1.toks) k, turn_enumT a (s1.heap.objs.size + 1) s1.heap.objs.size, ⟨⟨.none, N⟩, C, Nat.succ_ne_self _⟩, fun b hb => ?_, q⟩
  have le : s1.heap.objs.size ≤ b := by
    rcases (by simpa using hb : b = s1.heap.objs.size + 1 ∨ b = s1.heap.objs.size) with z | z
    · rw [z]
      exact Nat.le_add_right _ _
    · rw [z]
      exact Nat.le_refl _
  exact J.fpOk le (J.hok.fresh le)
theorem walk_enumT {K : PySem.W.Frag} {a : Addr} {xs : List V} : Walk (Itet K a) xs.length (fun H => SqT K H a xs) (YPair (fun i => some (.int (i : Nat))) (fun i => xs[i]?)) := by
  refine ⟨fun i _ hi q => ⟨xs, xs[i], q, by simp [hi]⟩, fun _ q => ⟨xs, q, Nat.le_refl _⟩, fun i H v H' _ q ⟨T, x, h1, h2, h3, h4⟩ => ⟨T, .int (i : Nat), x, h1, h2, h3, rfl, h4 xs q⟩⟩
end ZLT
set_option Elab.async false
set_option linter.all false
set_option maxRecDepth 100000
/-! a def of the top called by keywords alone -/
namespace L2
open PySem PySem.Spec PyProof.Rows
structure DfK (P : Program) (w : World) (K : PySem.W.Frag) (mg : Str → Option Value) (base : Heap) (x : Str) (k : Nat) (ps ks : List Str) (sp : Sp) (gV : List V → List V) : Prop where
  ex : ∃ (f : Addr) (fd : FuncData) (g : List Value → List Value → List Value), FnOk P w K mg base CX0 k f fd ps sp ∧ mg x = some (.ref f) ∧ PySem.W.keepIn K (.ref f) = true ∧ KBn K fd ps 0 ks g fun _ zs => gV zs
theorem Fn.dfK {P : Program} {w : World} {K : PySem.W.Frag} {mg : Str → Option Value} {base : Heap} {x : Str} {st : Stmt} {k : Nat} {ps ks : List Str} {sp : Sp} {gV : List V → List V} (F : Fn K mg x st) (g : List Value → List Value → List Value)
    (rel : ∀ {vs us zs ws}, Vals vs us → Vals zs ws → Vals (gV zs) (g us ws))
    (hb : ∀ (kV doc pm : Value) (an : Option Addr) (cdv ct : Value) (us ws : List Value), us.length = 0 → ws.length = ks.length → bindArgs (PySem.W.fnOf x x (defArgs st) (defBody st) (defScope st) .none kV doc pm an cdv ct) ⟨us, ks.zip ws⟩ = pure (ps.zip (g us ws)))
    (ok : ∀ (f : Addr) (fd : FuncData), Fun K x x st f fd → FnOk P w K mg base CX0 k f fd ps sp) : DfK P w K mg base x k ps ks sp gV := by
  obtain ⟨f, fd, F, m⟩ := F
  refine ⟨f, fd, g, ok f fd F, m, F.kp, ⟨fun s us ws _ l1 l2 => ?_, fun r z => rel r z⟩⟩
  obtain ⟨_, _, kV, doc, pm, an, cdv, ct, _, rfl, _, _⟩ := F.ex
  exact .of_eq (hb kV doc pm an cdv ct us ws l1 l2)
def tCallKw0 (m : Nat) (sp : Sp) (gV : List V → List V) (tk : TA) : TE := fun σ H Q => tk σ H fun zs H1 => zs.length = m ∧ sp (gV zs) H1 Q E0
theorem pe_dfK {X : Cx} {k : Nat} {ps ks : List Str} {sp : Sp} {gV : List V → List V} {x : Str} {p pos : Pos} {kws : List Keyword} {tk : TA} (G : DfK X.prog X.w X.K X.mg X.base x k ps ks sp gV) (hr : Room k X.A) (hg : Gl X x) (hkw : PK X kws tk)
    (hall : (backToKw pos (keywordEach kws X.env)).all (·.1.isSome) = true := by rfl) (hks : (backToKw pos (keywordEach kws X.env)).filterMap (·.1) = ks := by rfl) (hdb : (x == ("__debug__" : Str)) = false := by decide)
    (hpl : ((backTo pos (starEach ([] : List Expr) X.env)).any (·.1) || (backToKw pos (keywordEach kws X.env)).any (·.1.isNone)) = false := by rfl) : PE X (.Call (.Name x p) [] kws pos) (tCallKw0 ks.length sp gV tk) := by
  obtain ⟨f, fd, g, F, m, kp, b⟩ := G.ex
  refine ⟨fun pins s σ H Q I h => ?_⟩
  refine wpAny_Call_Name_kw (ld_glob I hg m (PySem.W.callWith_KW0 (h₀ := X.base) I.ok.mod.kin kp hall ?_ hpl) hdb)
  refine thn (hkw.run pos pins s σ H _ I h) fun ws t ⟨zs, G, J, rz, l, q⟩ => ⟨J.kIn, ?_⟩
  rw [hks]
  exact run_fnN (us := []) (vs := []) F hr b pass0 J .nil rz rfl l q
end L2
set_option Elab.async false
set_option linter.all false
set_option maxRecDepth 100000
set_option maxHeartbeats 4000000
/-! calls, objects, comprehensions, what is walked -/
namespace DN
open PySem PySem.Spec PyProof.Rows L2
section
variable {K : PySem.W.Frag} {Hm H Hm' H' : Hp} {σ σ' : L2.St} {δ : Env} {fp : Fp} {E : XK} {e : Er}
theorem EnvOk.conv (h : EnvOk K Hm H σ δ fp) (l : σ'.length = σ.length) (g : ∀ i, slot δ i ≠ .no → σ'[i]? = σ[i]?) : EnvOk K Hm H σ' δ fp := by
  refine ⟨l.trans h.len, h.sub, fun i d e => ?_, fun i o e => ?_, h.non, h.dis⟩
  · obtain ⟨v, a, b⟩ := h.sh i d e
    exact ⟨v, by rw [g i (by rw [e]; nofun)]; exact a, b⟩
  · obtain ⟨v, a, b⟩ := h.ow i o e
    exact ⟨v, by rw [g i (by rw [e]; nofun)]; exact a, b⟩
abbrev fp0 : Fp := fun _ => []
theorem Step.of0 {fp' : Fp} (s : Step Hm H fp0 Hm' H' fp') (fp : Fp) : Step Hm H fp Hm' H' fp' :=
  ⟨s.mask, fun p o e _ => s.keep p o e fun i h => (List.not_mem_nil h), fun i p h => (s.new i p h).elim (fun ⟨_, z⟩ => (List.not_mem_nil z).elim) .inr, fun p o e => (s.only p o e).imp_right fun z => z.elim (fun ⟨_, z⟩ => (List.not_mem_nil z).elim) .inr, s.dom⟩
theorem XOk.at0 (h : XOk K E Hm H fp e) : XOk K E Hm H fp0 e := fun Hm' H' fp' s l => h Hm' H' fp' (s.of0 fp) l
theorem Step.new0 {fp' : Fp} (s : Step Hm H fp0 Hm' H' fp') (l : Le Hm' H') : New Hm H Hm' H' :=
  ⟨s.mask, fun p o e => s.keep p o e fun i h => (List.not_mem_nil h), l, fun p o e => (s.only p o e).imp_right fun z => z.elim (fun ⟨_, z⟩ => (List.not_mem_nil z).elim) id⟩
end
/-! ### a def's promise: a condition on data -/
abbrev PF := List D → (D → Prop) → (Er → Prop) → Prop
def noR : Er → Prop := fun _ => False
def spP (K : PySem.W.Frag) (n : Nat) (f : PF) : Sp := fun vs H Q _ => vs.length = n ∧ ∃ Hm ds P, Le Hm H ∧ DqL K Hm vs ds ∧ f ds P noR ∧ ∀ d, P d → ∀ v Hm' H', New Hm H Hm' H' → Dq K Hm' v d → Q v H'
def env0 (n : Nat) (ds : List D) : Env := ds.map .sh ++ List.replicate (n - ds.length) .no
def fnP (m n : Nat) (F : S) : PF := fun ds P R => ds.length = m ∧ F (env0 n ds) { nx := fun _ => P .non, rt := fun d _ => P d, er := R }
theorem slot_rep : ∀ (n i : Nat), slot (List.replicate n .no) i = .no
  | 0, _ => rfl
  | n + 1, 0 => rfl
  | n + 1, i + 1 => slot_rep n i
def ofD : Option D → Sl
  | some d => .sh d
  | none => .no
theorem slot_app : ∀ (xs : List D) (n i : Nat), slot (xs.map .sh ++ List.replicate n .no) i = ofD xs[i]?
  | [], n, i => slot_rep n i
  | x :: r, n, 0 => rfl
  | x :: r, n, i + 1 => slot_app r n i
theorem env0_ok {K : PySem.W.Frag} {Hm H : Hp} {N : List Str} {vs : List V} {ds : List D} (l : Le Hm H) (h : DqL K Hm vs ds) : EnvOk K Hm H (L2.start N vs) (env0 N.length ds) fp0 := by
  have hl := h.len
  have ns : ∀ i o, slot (env0 N.length ds) i ≠ .ow o := fun i o e => by
    unfold env0 at e
    rw [slot_app] at e
    cases z : ds[i]? with
    | none => rw [z] at e; cases e
    | some d => rw [z] at e; cases e
  refine ⟨?_, l, fun i d e => ?_, fun i o e => absurd e (ns i o), fun _ _ => rfl, fun i j p a => (List.not_mem_nil a).elim⟩
  · unfold L2.start env0
    rw [List.length_append, List.length_append, List.length_map, List.length_map, List.length_replicate, List.length_replicate, hl]
  · unfold env0 at e
    rw [slot_app] at e
    cases z : ds[i]? with
    | none => rw [z] at e; cases e
    | some d' =>
      rw [z] at e
      cases e
      obtain ⟨v, a, b⟩ := h.get' z
      refine ⟨v, ?_, b⟩
      have hi := (List.getElem?_eq_some_iff.mp a).1
      unfold L2.start
      rw [List.getElem?_append_left (by rw [List.length_map]; exact hi), List.getElem?_map, a]
      rfl
section
variable {P : Program} {w : World} {K : PySem.W.Frag} {mg : Str → Option Value} {base : Heap}
/-- a def by its body's reading -/
theorem f_ok {x q : Str} {st : Stmt} {f : Addr} {fd : FuncData} {N ps : List Str} {k : Nat} {B : S} (F : Fun K x q st f fd) (sc : FnScope N ps (defScope st))
    (body : ∀ (cdv : Value) (A : Around) (outer : List PySem.Env) (s : Shared) (H : Hp) (E : XK), Room k (A.deeper (envOfC q (defScope st) s.heap.objs.size f cdv)) → PSs (cxOf CX0 P w K mg base N q (defScope st) f cdv A outer s H E).nox (defBody st) (tS K E0 (fun _ => False) B)) :
    FnOk P w K mg base CX0 (k + 1) f fd ps (spP K ps.length (fnP ps.length N.length B)) := by
  refine F.ok sc (fun vs H Q E h => h.1) (fun cdv A outer s H vs Q E hr h => ?_)
  obtain ⟨hl, Hm, ds, Pr, l, hd, hf, hq⟩ := h
  refine ⟨_, body cdv A outer s H E hr, Hm, _, fp0, _, env0_ok l hd, hf.2, ?_⟩
  refine ⟨fun δ' h σ' Hm' H' fp' s' e' p' => hq _ h _ Hm' H' (s'.new0 e'.sub) .non, fun d δ' h v σ' Hm' H' fp' s' e' p' dv => hq _ h _ Hm' H' (s'.new0 e'.sub) dv, fun _ h => h.elim, fun _ h => h.elim, fun e h => h.elim⟩
end
def callW (f : PF) (F : W (List D)) : W D := fun δ P R => F δ (fun ds δ1 => f ds (fun d => P d δ1) noR) R
def isObjD (C : Addr) : D → (List (Str × D) → Prop) → Prop
  | .obj C' fs, P => C' = C ∧ P fs
  | _, _ => False
def optD {α : Type} : Option α → (α → Prop) → Prop
  | some d, P => P d
  | none, _ => False
def isOwObj (C : Addr) : Sl → (List (Str × D) → Prop) → Prop
  | .ow (.obj C' fs), P => C' = C ∧ P fs
  | _, _ => False
theorem rd_obj {K : PySem.W.Frag} {Hm : Hp} {C : Addr} {v : V} {d : D} {P : List (Str × D) → Prop} (h : Dq K Hm v d) (q : isObjD C d P) : ∃ a dx xs fs, v = .ref a ∧ d = .obj C fs ∧ Hm a = some (.ins C dx xs) ∧ DqP K Hm xs fs ∧ P fs := by
  cases h with
  | obj ho hx =>
    obtain ⟨rfl, q⟩ := q
    exact ⟨_, _, _, _, rfl, rfl, ho, hx, q⟩
  | _ => exact q.elim
theorem of_opt {α : Type} {o : Option α} {P : α → Prop} (h : optD o P) : ∃ d, o = some d ∧ P d := by
  cases o with
  | none => exact h.elim
  | some d => exact ⟨d, rfl, h⟩
theorem of_owObj {C : Addr} {s : Sl} {P : List (Str × D) → Prop} (h : isOwObj C s P) : ∃ fs, s = .ow (.obj C fs) ∧ P fs := by
  match s, h with
  | .ow (.obj _ fs), ⟨rfl, h⟩ => exact ⟨fs, rfl, h⟩
/-- a method of an instance -/
def methW (C : Addr) (m : Str) (f : PF) (F : W D) (G : W (List D)) : W D := fun δ P R => F δ (fun d δ1 => isObjD C d fun fs => fs.lookup m = none ∧ G δ1 (fun ds δ2 => f (.obj C fs :: ds) (fun d => P d δ2) noR) R) R
theorem DqP.lookup {K : PySem.W.Frag} {H : Hp} {f : Str} : ∀ {xs : List (Str × V)} {ds : List (Str × D)}, DqP K H xs ds → (xs.lookup f = none ∧ ds.lookup f = none) ∨ ∃ v d, xs.lookup f = some v ∧ ds.lookup f = some d ∧ Dq K H v d
  | _, _, .nil => .inl ⟨rfl, rfl⟩
  | _, _, .cons (k := k) (v := v) (d := d) (vs := vs) (ds := ds) h hs => by
    show (List.lookup f ((k, v) :: vs) = none ∧ _) ∨ _
    rw [List.lookup_cons, List.lookup_cons]
    cases z : f == k with
    | true => exact .inr ⟨_, _, rfl, rfl, h⟩
    | false => exact hs.lookup
def fldG (C : Addr) (f : Str) : G1 := fun d P => isObjD C d fun fs => optD (fs.lookup f) P
section
variable {X : Cx} {e : Expr} {Fa : W D} {FL : W (List D)}
theorem m_call {n : Nat} {f : PF} (h : PE X e (tCall (spP X.K n f) [] E0 (tL X.K E0 FL))) (len : ∀ ds P R, f ds P R → ds.length = n) : PE X e (tE X.K E0 (callW f FL)) := peI h fun σ H Q ⟨Hm, δ, fp, P, R, env, hF, hP, hR⟩ =>
  ⟨Hm, δ, fp, _, R, env, hF, fun ds δ1 h1 v Hm1 H1 fp1 s1 e1 dv => by
    show spP X.K n f (v ++ []) H1 Q E0
    rw [List.append_nil]
    exact ⟨by rw [dv.len]; exact len _ _ _ h1, Hm1, ds, _, e1.sub, dv, h1, fun d hd u Hm2 H2 n du => hP d δ1 hd u Hm2 H2 fp1 (s1.trans (n.step _)) (e1.new n) du⟩, hR⟩
theorem len_nil {δ : Env} {P : List D → Env → Prop} {R : Er → Prop} (h : nilW δ P R) : nilW δ (fun ds δ' => ds.length = 0 ∧ P ds δ') R := ⟨rfl, h⟩
theorem m_call0 {f : PF} (h : PE X e (tCall (spP X.K 0 f) [] E0 tNil)) : PE X e (tE X.K E0 (callW f nilW)) := peI h fun σ H Q ⟨Hm, δ, fp, P, R, env, hF, hP, hR⟩ =>
  ⟨rfl, Hm, [], _, env.sub, .nil, hF, fun d hd u Hm2 H2 n du => hP d δ hd u Hm2 H2 fp (n.step _) (env.new n) du⟩
theorem m_meth {C : Addr} {m : Str} {n : Nat} {f : PF} (h : PE X e (tMeth C m (spP X.K (n + 1) f) [] E0 (tE X.K E0 Fa) (tL X.K E0 FL))) (len : ∀ ds P R, f ds P R → ds.length = n + 1) : PE X e (tE X.K E0 (methW C m f Fa FL)) := peI h fun σ H Q ⟨Hm, δ, fp, P, R, env, hF, hP, hR⟩ =>
  ⟨Hm, δ, fp, _, R, env, hF, fun d δ1 h1 v Hm1 H1 fp1 s1 e1 dv => by
    obtain ⟨a, dx, xs, fs, rfl, rfl, ho, hx, hm, h1⟩ := rd_obj dv h1
    refine ⟨_, _, _, rfl, e1.sub.ins ho, ?_, Hm1, δ1, fp1, _, R, e1, h1, fun ds δ2 h2 v2 Hm2 H2 fp2 s2 e2 dv2 => ?_, fun e he => (hR e he).step s1⟩
    · rcases hx.lookup (f := m) with ⟨z, _⟩ | ⟨_, _, _, z, _⟩
      · exact z
      · rw [hm] at z; cases z
    · show spP X.K (n + 1) f (.ref a :: (v2 ++ [])) H2 Q E0
      rw [List.append_nil]
      exact ⟨by rw [List.length_cons, dv2.len]; exact len _ _ _ h2, Hm2, _, _, e2.sub, .cons ((Dq.obj ho hx).le (.of s2.mask)) dv2, h2, fun d hd u Hm3 H3 n du => hP d δ2 hd u Hm3 H3 fp2 ((s1.trans s2).trans (n.step _)) (e2.new n) du⟩, hR⟩
theorem m_fld {C : Addr} {f : Str} (h : PE X e (tFld X.K (tE X.K E0 Fa) f)) (c : Cls X.K C) (n : NoAttr X.K C f) : PE X e (tE X.K E0 (ap1 (fldG C f) Fa)) := peI h fun σ H Q ⟨Hm, δ, fp, P, R, env, hF, hP, hR⟩ =>
  ⟨Hm, δ, fp, _, R, env, hF, fun d δ1 h1 v Hm1 H1 fp1 s1 e1 dv => by
    obtain ⟨a, dx, xs, fs, rfl, rfl, ho, hx, h1⟩ := rd_obj dv h1
    obtain ⟨d, z', h1⟩ := of_opt h1
    rcases hx.lookup (f := f) with ⟨_, z⟩ | ⟨v, d, a, z, q⟩
    · rw [z] at z'; cases z'
    · rw [z] at z'
      cases z'
      exact ⟨_, _, _, _, v, rfl, e1.sub.ins ho, c, n, a, hP d δ1 h1 v Hm1 H1 fp1 s1 e1 q⟩, hR⟩
end
/-! ### __init__ -/
abbrev PI_ := List D → (List (Str × D) → Prop) → (Er → Prop) → Prop
def spI (K : PySem.W.Frag) (C : Addr) (n : Nat) (f : PI_) : Sp := fun vs H Q _ => ∃ x vs', vs = .ref x :: vs' ∧ vs'.length = n ∧ ∃ Hm dx ds P, Le Hm H ∧ Hm x = none ∧ Hm dx = none ∧ dx ≠ x ∧ H x = some (.ins C dx []) ∧ H dx = some (.own x) ∧ DqL K Hm vs' ds ∧ f ds P noR ∧
  ∀ fs, P fs → ∀ xs dx' Hm' H', Same Hm Hm' → Le Hm' H' → (∀ p o, H p = some o → p ≠ x → p ≠ dx → H' p = some o) → (∀ p o, Hm' p = some o → (∃ u, Hm p = some u) ∨ p = x ∨ p = dx ∨ H p = none) → H' x = some (.ins C dx' xs) → Hm' x = none → DqP K Hm' xs fs → Q .non H'
def fnI (C : Addr) (m n : Nat) (F : S) : PI_ := fun ds P R => ds.length = m ∧ F (.ow (.obj C []) :: env0 (n - 1) ds) { nx := fun δ => isOwObj C (slot δ 0) P, rt := fun _ _ => False, er := R }
def pf {α : Type} (f : Str) (v : α) : List (Str × α) → List (Str × α)
  | [] => [(f, v)]
  | (g, x) :: r => if g = f then (g, v) :: r else (g, x) :: pf f v r
theorem DqP.put {K : PySem.W.Frag} {H : Hp} {f : Str} {v : V} {d : D} (g : Dq K H v d) : ∀ {xs : List (Str × V)} {ds : List (Str × D)}, DqP K H xs ds → DqP K H (putF f v xs) (pf f d ds)
  | _, _, .nil => .cons g .nil
  | _, _, .cons (k := k) h hs => by
    unfold putF pf
    by_cases z : k = f
    · rw [if_pos z, if_pos z]
      exact .cons g hs
    · rw [if_neg z, if_neg z]
      exact .cons h (DqP.put g hs)
def fldS (C : Addr) (i : Nat) (f : Str) (F : W D) : S := fun δ P => F δ (fun d δ1 => isOwObj C (slot δ1 i) fun fs => fs.length < 1000 ∧ P.nx (put δ1 i (.ow (.obj C (pf f d fs))))) P.er
def fldO (C : Addr) (i : Nat) (f : Str) : W D := fun δ P _ => isOwObj C (slot δ i) fun fs => optD (fs.lookup f) fun d => P d δ
section
variable {K : PySem.W.Frag} {Hm H : Hp} {σ : L2.St} {δ : Env} {fp : Fp}
/-- what is owned at slot i changes -/
theorem EnvOk.own (env : EnvOk K Hm H σ δ fp) {i : Nat} {o o' : O} {v : V} {H' : Hp} (hs : slot δ i = .ow o) (hv : σ[i]? = some (some v)) (k : ∀ p u, p ∉ fp i → H p = some u → H' p = some u) (h : OwAt K Hm H' v o' (fp i)) :
    EnvOk K Hm H' σ (put δ i (.ow o')) fp ∧ Step Hm H fp Hm H' fp := by
  have hi : i < δ.length := slot_lt (by rw [hs]; nofun)
  obtain ⟨v0, a0, b0⟩ := env.ow i o hs
  refine ⟨⟨by rw [put_len]; exact env.len, fun b u e => ?_, fun j d e => ?_, fun j o2 e => ?_, fun j hj => ?_, env.dis⟩, Same.refl _, fun p u e n => k p u (n i) e, fun j p hp => .inl ⟨j, hp⟩, fun p u e => .inl ⟨u, e⟩, fun p z => by
    cases y : H p with
    | none => rfl
    | some u =>
      by_cases m : p ∈ fp i
      · obtain ⟨w, q⟩ := h.live p m
        rw [z] at q; cases q
      · rw [k p u m y] at z; cases z⟩
  · have n : b ∉ fp i := fun z => by rw [b0.msk b z] at e; cases e
    rcases env.sub b u e with q | ⟨q, ob, z⟩
    · exact .inl (k b u n q)
    · exact .inr ⟨q, ob, k b _ n z⟩
  · rw [slot_put] at e
    split at e
    · cases e
    · exact env.sh j d e
  · rw [slot_put] at e
    split at e
    · rename_i z
      cases e
      rw [← z.1]
      exact ⟨v, hv, h⟩
    · rename_i z
      have ji : j ≠ i := fun y => z ⟨y.symm, hi⟩
      obtain ⟨w, a, b⟩ := env.ow j o2 e
      exact ⟨w, a, b.frame (.refl _) b.msk fun p hp u e => k p u (fun z => ji (env.dis j i p hp z)) e⟩
  · refine env.non j fun o2 q => hj o2 ?_
    by_cases z : j = i
    · subst z
      exact absurd (by rw [slot_put, if_pos ⟨rfl, hi⟩]) (hj o')
    · rw [slot_put, if_neg fun y => z y.1.symm]
      exact q
variable {X : Cx} {pn : Nat → Prop} {st : Stmt} {e : Expr} {Fa : W D} {E : XK}
theorem s_fld {C : Addr} {i : Nat} {f : Str} (h : PS X st (sFld X.K (tVar i) (tE X.K E Fa) f)) (c : Cls X.K C) (nf : NoAttr X.K C f) : PS X st (tS X.K E pn (fldS C i f Fa)) := psI h fun D σ H ⟨Hm, δ, fp, P, env, hF, k⟩ =>
  ⟨Hm, δ, fp, _, _, env, hF, fun d δ1 h1 v Hm1 H1 fp1 s1 e1 dv => by
    obtain ⟨fs, hs, few, h1⟩ := of_owObj h1
    obtain ⟨u, a, b⟩ := e1.ow i _ hs
    obtain ⟨p, dx, xs, rfl, hg, h1', h2', n, hp, hdx, hx⟩ := b.obj_inv
    refine ⟨_, a, p, C, dx, xs, rfl, hp, c, nf, by rw [hx.len]; exact few, ?_⟩
    have kk : ∀ q w, q ∉ fp1 i → H1 q = some w → (upd H1 p (HO.ins C dx (putF f v xs))) q = some w := fun q w nq e => by
      rw [upd_ne (fun z => nq (by rw [hg, z]; exact List.mem_cons_self))]
      exact e
    obtain ⟨e2, s2⟩ := e1.own hs a (o' := .obj C (pf f d fs)) kk (by
      rw [hg]
      exact .obj h1' h2' n upd_same (by rw [upd_ne n]; exact hdx) (hx.put dv))
    exact k.nx _ h1 σ Hm1 _ fp1 (s1.trans s2) e2 (.refl ..), k.er⟩
theorem m_fldO {C : Addr} {i : Nat} {f : Str} (h : PE X e (tFld X.K (tVar i) f)) (c : Cls X.K C) (nf : NoAttr X.K C f) : PE X e (tE X.K E (fldO C i f)) := peI h fun σ H Q ⟨Hm, δ, fp, P, R, env, hF, hP, hR⟩ => by
  obtain ⟨fs, hs, hF⟩ := of_owObj hF
  obtain ⟨d, hd, hF⟩ := of_opt hF
  obtain ⟨u, a, b⟩ := env.ow i _ hs
  obtain ⟨p, dx, xs, rfl, hg, h1', h2', n, hp, hdx, hx⟩ := b.obj_inv
  rcases hx.lookup (f := f) with ⟨_, z⟩ | ⟨v, d', z1, z2, q⟩
  · rw [z] at hd; cases hd
  · rw [z2] at hd
    cases hd
    exact ⟨_, a, _, _, _, _, v, rfl, hp, c, nf, z1, hP _ δ hF v Hm H fp (.refl ..) env q⟩
end
/-! ### an __init__ keeps its promise; an object is made -/
section
variable {P : Program} {w : World} {K : PySem.W.Frag} {mg : Str → Option Value} {base : Heap}
theorem init_env {K : PySem.W.Frag} {Hm H : Hp} {C x dx : Addr} {N : List Str} {n : Str} {vs : List V} {ds : List D} (l : Le Hm H) (h : DqL K Hm vs ds) (mx : Hm x = none) (md : Hm dx = none) (ne : dx ≠ x) (hx : H x = some (.ins C dx [])) (hd : H dx = some (.own x)) :
    EnvOk K Hm H (L2.start (n :: N) (.ref x :: vs)) (.ow (.obj C []) :: env0 N.length ds) fun i => if i = 0 then [x, dx] else [] := by
  have e := env0_ok (N := N) l h
  have es : L2.start (n :: N) (.ref x :: vs) = some (.ref x) :: L2.start N vs := by
    unfold L2.start
    rw [List.length_cons, List.length_cons, Nat.add_sub_add_right]
    rfl
  rw [es]
  refine ⟨by rw [List.length_cons, List.length_cons, e.len], l, fun i d q => ?_, fun i o q => ?_, fun i q => ?_, fun i j p hi hj => ?_⟩
  · cases i with
    | zero => cases q
    | succ i => exact e.sh i d q
  · cases i with
    | zero =>
      cases q
      exact ⟨_, rfl, .obj mx md ne hx hd .nil⟩
    | succ i =>
      obtain ⟨v, a, b⟩ := e.ow i o q
      obtain ⟨u, z⟩ : ∃ u, slot (env0 N.length ds) i = .ow u := ⟨o, q⟩
      unfold env0 at z
      rw [slot_app] at z
      cases y : ds[i]? with
      | none => rw [y] at z; cases z
      | some d => rw [y] at z; cases z
  · cases i with
    | zero => exact absurd rfl (q (.obj C []))
    | succ i => rfl
  · by_cases a : i = 0
    · by_cases b : j = 0
      · rw [a, b]
      · rw [if_neg b] at hj; cases hj
    · rw [if_neg a] at hi; cases hi
theorem i_ok {C : Addr} {x q : Str} {st : Stmt} {f : Addr} {fd : FuncData} {n0 : Str} {N ps : List Str} {k : Nat} {B : S} (F : Fun K x q st f fd) (sc : FnScope (n0 :: N) (n0 :: ps) (defScope st))
    (body : ∀ (cdv : Value) (A : Around) (outer : List PySem.Env) (s : Shared) (H : Hp) (E : XK), Room k (A.deeper (envOfC q (defScope st) s.heap.objs.size f cdv)) → PSs (cxOf CX0 P w K mg base (n0 :: N) q (defScope st) f cdv A outer s H E).nox (defBody st) (tS K E0 (fun i => i = 0) B)) :
    FnOk P w K mg base CX0 (k + 1) f fd (n0 :: ps) (spI K C ps.length (fnI C ps.length (N.length + 1) B)) := by
  refine F.ok sc (fun vs H Q E h => ?_) (fun cdv A outer s H vs Q E hr h => ?_)
  · obtain ⟨x, vs', rfl, hl, _⟩ := h
    rw [List.length_cons, List.length_cons, hl]
  · obtain ⟨x, vs', rfl, hl, Hm, dx, ds, Pr, l, mx, md, ne, hx, hd, hv, hf, hq⟩ := h
    have e0 := init_env (n := n0) (N := N) l hv mx md ne hx hd
    refine ⟨_, body cdv A outer s H E hr, Hm, _, _, _, e0, hf.2, ?_⟩
    refine ⟨fun δ' h σ' Hm' H' fp' s' e' p' => ?_, fun d δ' h => h.elim, fun _ h => h.elim, fun _ h => h.elim, fun e h => h.elim⟩
    obtain ⟨fs, hs, h⟩ := of_owObj h
    obtain ⟨v, a, b⟩ := e'.ow 0 _ hs
    have av : σ'[0]? = some (some (.ref x)) := (p'.at_ 0 rfl).trans rfl
    rw [av] at a
    cases a
    obtain ⟨p, dx', xs, ep, hg, m1, m2, ne', hp, hdx, hxs⟩ := b.obj_inv
    cases ep
    have nx : ∀ q, q ≠ x → q ≠ dx → ∀ i, q ∉ (fun i => if i = 0 then [x, dx] else []) i := fun q h1 h2 i z => by
      by_cases y : i = 0
      · rw [y] at z
        have z : q ∈ [x, dx] := z
        rcases List.mem_cons.mp z with z | z
        · exact h1 z
        · exact h2 (List.mem_singleton.mp z)
      · have z : q ∈ (if i = 0 then [x, dx] else []) := z
        rw [if_neg y] at z
        cases z
    exact hq fs h xs dx' Hm' H' s'.mask e'.sub (fun q o e h1 h2 => s'.keep q o e (nx q h1 h2)) (fun q o e => (s'.only q o e).imp_right fun z => z.elim (fun ⟨j, hj⟩ => by
      by_cases h1 : q = x
      · exact .inl h1
      · by_cases h2 : q = dx
        · exact .inr (.inl h2)
        · exact absurd hj (nx q h1 h2 j)) fun z => .inr (.inr z)) hp m1 hxs
end
def makeW (C : Addr) (f : PI_) (F : W (List D)) : W D := fun δ P R => F δ (fun ds δ1 => f ds (fun fs => P (.obj C fs) δ1) noR) R
section
variable {X : Cx} {e : Expr} {FL : W (List D)}
theorem m_make {C : Addr} {n : Nat} {f : PI_} (h : PE X e (tMake C (spI X.K C n f) [] E0 (tL X.K E0 FL))) (len : ∀ ds P R, f ds P R → ds.length = n) : PE X e (tE X.K E0 (makeW C f FL)) := peI h fun σ H Q ⟨Hm, δ, fp, P, R, env, hF, hP, hR⟩ =>
  ⟨Hm, δ, fp, _, R, env, hF, fun ds δ1 h1 v Hm1 H1 fp1 s1 e1 dv => fun x dx hx hdx ne => by
    rw [List.append_nil]
    have lx : Le Hm1 (upd (upd H1 dx (.own x)) x (.ins C dx [])) := e1.sub.trans (.of ((same_upd hdx).trans (same_upd (by rw [upd_ne (Ne.symm ne)]; exact hx))))
    refine ⟨x, v, rfl, by rw [dv.len]; exact len _ _ _ h1, Hm1, dx, ds, _, lx, none_of_le e1.sub hx, none_of_le e1.sub hdx, ne, upd_same, by rw [upd_ne ne]; exact upd_same, dv, h1, fun fs hfs xs dx' Hm' H' mk sub kp ol ho mx dq => ⟨rfl, ?_⟩⟩
    have kp1 : Same H1 H' := fun p o e => by
      have n1 : p ≠ x := ne_of_none e hx
      have n2 : p ≠ dx := ne_of_none e hdx
      exact kp p o (by rw [upd_ne n1, upd_ne n2]; exact e) n1 n2
    have nw : New Hm1 H1 (upd Hm' x (.ins C dx' xs)) H' := by
      refine ⟨mk.trans (same_upd mx), kp1, fun b o e => ?_, fun b o e => ?_⟩
      · by_cases z : b = x
        · subst z
          rw [upd_same] at e
          cases e
          exact .inl ho
        · rw [upd_ne z] at e
          exact sub b o e
      · by_cases z : b = x
        · subst z
          exact .inr hx
        · rw [upd_ne z] at e
          rcases ol b o e with q | q | q | q
          · exact .inl q
          · exact absurd q z
          · subst q; exact .inr hdx
          · refine .inr ?_
            cases y : H1 b with
            | none => rfl
            | some u =>
              rw [upd_ne z, upd_ne (ne_of_none y hdx), y] at q
              cases q
    exact hP _ δ1 hfs _ _ _ fp1 (s1.trans (nw.step _)) (e1.new nw) (.obj upd_same (dq.le (.of (same_upd mx)))), hR⟩
end
end DN
set_option Elab.async false
set_option linter.all false
set_option maxRecDepth 100000
set_option maxHeartbeats 2000000
/-! {k: v for .. in .. if .. for .. in .. if ..}: a dict comprehension with two clauses -/
namespace L2
open PySem PySem.Spec PyProof.Rows
section
variable {prog : Program} {w : World} {A : Around} {R : Result → Shared → Prop} {s : Shared} {kx vx t0 i0 t1 i1 : Expr} {f0 f1 : List Expr} {scope : Scope} {pos : Pos} {it : Value} {D : Addr} {env : Env}
theorem turnD2_out : compTurn (.DictComp kx vx [⟨t0, i0, f0, 0⟩, ⟨t1, i1, f1, 0⟩] scope pos) 0 it (.ref D) env = (do
      standAt i0.pos
      match ← pyNext it with
      | none => pure (.done .next)
      | some v =>
        letOwnedTupleGo t0 it v
        assign t0 env v
        let mut ok := true
        for c in f0 do
          if ok then ok ← isTrue c env (eval c env)
        if ok then
          let x ← eval i1 env
          standAt i1.pos
          let x ← foldedSetIterable i1 env x
          let _ ← runOwn (.compStart (.DictComp kx vx [⟨t0, i0, f0, 0⟩, ⟨t1, i1, f1, 0⟩] scope pos) 1 (← holding [x] (pyIter x)) (.ref D) env) env
        again (.compLoop (.DictComp kx vx [⟨t0, i0, f0, 0⟩, ⟨t1, i1, f1, 0⟩] scope pos) 0 it (.ref D) env)) := by rfl
theorem turnD2_in : compTurn (.DictComp kx vx [⟨t0, i0, f0, 0⟩, ⟨t1, i1, f1, 0⟩] scope pos) 1 it (.ref D) env = (do
      standAt i1.pos
      match ← pyNext it with
      | none => pure (.done .next)
      | some v =>
        letOwnedTupleGo t1 it v
        assign t1 env v
        let mut ok := true
        for c in f1 do
          if ok then ok ← isTrue c env (eval c env)
        if ok then
          (do
            let kv ← eval kx env
            let vv ← holding [kv] (eval vx env)
            standAt { kx.pos with endLine := vx.pos.endLine, endCol := vx.pos.endCol }
            holding [kv, vv] (dictSet D kv vv))
        again (.compLoop (.DictComp kx vx [⟨t0, i0, f0, 0⟩, ⟨t1, i1, f1, 0⟩] scope pos) 1 it (.ref D) env)) := by rfl
/-- an error within a turn is noted -/
abbrev Nt (prog : Program) (w : World) (A : Around) (env : Env) (R : Result → Shared → Prop) : Value → Shared → Prop := notedBy (model prog w) A env fun e s' => R (.error e) s'
/-- the tests of a clause, one behind the other -/
abbrev tests (env : Env) (fs : List Expr) : Sem Bool := forIn fs true fun c r => if r = true then do let ok ← isTrue c env (eval c env); pure (ForInStep.yield ok) else pure (ForInStep.yield r)
theorem loopD2_out (hs : ∀ x, foldedSetIterable i1 env x = pure x) (I : Nat → Shared → Prop)
    (turn : ∀ n s, I n s → wpAny (model prog w) A (pyNext it) (fun r s₁ => match r with
      | none => R (.ok .next) s₁
      | some v => wpAny (model prog w) A (letOwnedTupleGo t0 it v) (fun _ s₂ => wpAny (model prog w) A (assign t0 env v) (fun _ s₃ => wpAny (model prog w) A (tests env f0) (fun ok s₄ =>
            if ok = true then wpAny (model prog w) A (eval i1 env) (fun x s₅ => wpAny (model prog w) A (pyIter x) (fun it1 s₆ =>
              codeAny (model prog w) A (.compStart (.DictComp kx vx [⟨t0, i0, f0, 0⟩, ⟨t1, i1, f1, 0⟩] scope pos) 1 it1 (.ref D) env) (fun r s' => match r with
                | .ok _ => ∃ m, m < n ∧ I m s'
                | .error _ => False) s₆) (Nt prog w A env R) s₅) (Nt prog w A env R) s₄
            else ∃ m, m < n ∧ I m s₄) (Nt prog w A env R) s₃) (Nt prog w A env R) s₂) (Nt prog w A env R) s₁) (Nt prog w A env R) s)
    (n : Nat) (h : I n s) : codeAny (model prog w) A (.compLoop (.DictComp kx vx [⟨t0, i0, f0, 0⟩, ⟨t1, i1, f1, 0⟩] scope pos) 0 it (.ref D) env) R s := by
  refine codeAny_loop rfl I (fun n s hI => ?_) n h
  show wpAny _ A ((compTurn (.DictComp kx vx [⟨t0, i0, f0, 0⟩, ⟨t1, i1, f1, 0⟩] scope pos) 0 it (.ref D) env).onRaise (fun x => do noteFrame x env; theTreesLotGoes x)) _ _ s
  refine wpAny_noted ?_
  rw [turnD2_out]
  have up : ∀ {x : Value} {s : Shared}, Nt prog w A env R x s → Nt prog w A env R x s := fun h => h
  refine wpAny_bind (wpAny_standAt (wpAny_bind (wpAny_mono (turn n s hI) (fun r s₁ h₁ => ?_) fun _ _ => up)))
  rcases r with _ | v
  · exact wpAny_pure h₁
  refine wpAny_bind (wpAny_mono h₁ (fun _ s₂ h₂ => ?_) fun _ _ => up)
  refine wpAny_bind (wpAny_mono h₂ (fun _ s₃ h₃ => wpAny_bind (wpAny_mono h₃ (fun ok s₄ h₄ => ?_) fun _ _ => up)) fun _ _ => up)
  rcases ok with _ | _
  · exact wpAny_pure ⟨rfl, h₄⟩
  refine wpAny_bind (wpAny_mono h₄ (fun x s₅ h₅ => ?_) fun _ _ => up)
  refine wpAny_bind (wpAny_standAt (wpAny_bind (wpAny_of_eq (hs x) (wpAny_bind (wpAny_holding (wpAny_mono h₅ (fun it1 s₆ h₆ => ?_) fun _ _ => up))))))
  refine wpAny_bind (wpAny_runOwn ?_)
  rw [Around.mark_none]
  refine codeAny_mono h₆ fun r s' hr => ?_
  rcases r with e | f
  · exact hr.elim
  · first
      | exact wpAny_pure ⟨rfl, hr⟩
      | exact wpAny_bind (wpAny_pure (wpAny_pure ⟨rfl, hr⟩))
theorem loopD2_in (I : Nat → Shared → Prop)
    (turn : ∀ n s, I n s → wpAny (model prog w) A (pyNext it) (fun r s₁ => match r with
      | none => R (.ok .next) s₁
      | some v => wpAny (model prog w) A (letOwnedTupleGo t1 it v) (fun _ s₂ => wpAny (model prog w) A (assign t1 env v) (fun _ s₃ => wpAny (model prog w) A (tests env f1) (fun ok s₄ =>
            if ok = true then wpAny (model prog w) A (eval kx env) (fun kv s₅ => wpAny (model prog w) A (eval vx env) (fun vv s₆ =>
              wpAny (model prog w) A (dictSet D kv vv) (fun _ s₇ => ∃ m, m < n ∧ I m s₇) (Nt prog w A env R) s₆) (Nt prog w A env R) s₅) (Nt prog w A env R) s₄
            else ∃ m, m < n ∧ I m s₄) (Nt prog w A env R) s₃) (Nt prog w A env R) s₂) (Nt prog w A env R) s₁) (Nt prog w A env R) s)
    (n : Nat) (h : I n s) : codeAny (model prog w) A (.compLoop (.DictComp kx vx [⟨t0, i0, f0, 0⟩, ⟨t1, i1, f1, 0⟩] scope pos) 1 it (.ref D) env) R s := by
  refine codeAny_loop rfl I (fun n s hI => ?_) n h
  show wpAny _ A ((compTurn (.DictComp kx vx [⟨t0, i0, f0, 0⟩, ⟨t1, i1, f1, 0⟩] scope pos) 1 it (.ref D) env).onRaise (fun x => do noteFrame x env; theTreesLotGoes x)) _ _ s
  refine wpAny_noted ?_
  rw [turnD2_in]
  have up : ∀ {x : Value} {s : Shared}, Nt prog w A env R x s → Nt prog w A env R x s := fun h => h
  refine wpAny_bind (wpAny_standAt (wpAny_bind (wpAny_mono (turn n s hI) (fun r s₁ h₁ => ?_) fun _ _ => up)))
  rcases r with _ | v
  · exact wpAny_pure h₁
  refine wpAny_bind (wpAny_mono h₁ (fun _ s₂ h₂ => ?_) fun _ _ => up)
  refine wpAny_bind (wpAny_mono h₂ (fun _ s₃ h₃ => wpAny_bind (wpAny_mono h₃ (fun ok s₄ h₄ => ?_) fun _ _ => up)) fun _ _ => up)
  rcases ok with _ | _
  · exact wpAny_pure ⟨rfl, h₄⟩
  refine wpAny_bind (wpAny_bind (wpAny_mono h₄ (fun kv s₅ h₅ => wpAny_bind (wpAny_holding (wpAny_mono h₅ (fun vv s₆ h₆ => ?_) fun _ _ => up))) fun _ _ => up))
  exact wpAny_bind (wpAny_standAt (wpAny_holding (wpAny_mono h₆ (fun _ s₇ h₇ => wpAny_pure ⟨rfl, h₇⟩) fun _ _ => up)))
theorem startD2 (h0 : codeAny (model prog w) A (.compLoop (.DictComp kx vx [⟨t0, i0, f0, 0⟩, ⟨t1, i1, f1, 0⟩] scope pos) 1 it (.ref D) env) R s)
    (h : wpAny (model prog w) A (pyIter it) (fun it' s' => codeAny (model prog w) A (.compLoop (.DictComp kx vx [⟨t0, i0, f0, 0⟩, ⟨t1, i1, f1, 0⟩] scope pos) 1 it' (.ref D) env) R s') (Nt prog w A env R) s) :
    codeAny (model prog w) A (.compStart (.DictComp kx vx [⟨t0, i0, f0, 0⟩, ⟨t1, i1, f1, 0⟩] scope pos) 1 it (.ref D) env) R s := by
  refine codeAny_of_tree ?_
  show wpAny _ _ ((compStart (.DictComp kx vx [⟨t0, i0, f0, 0⟩, ⟨t1, i1, f1, 0⟩] scope pos) 1 it (.ref D) env).onRaise (fun x => do noteFrame x env; standAt theWindowsPlace)) _ _ s
  refine wpAny_notedAt ?_
  unfold compStart
  show wpAny _ _ (ask >>= _) _ _ s
  refine wpAny_bind (wpAny_askSetting (wpAny_ite ?_))
  have nx : ∀ (it' : Value) (s' : Shared), codeAny (model prog w) A (.compLoop (.DictComp kx vx [⟨t0, i0, f0, 0⟩, ⟨t1, i1, f1, 0⟩] scope pos) 1 it' (.ref D) env) R s' → True ∧ codeAny (model prog w) A (.compLoop (.DictComp kx vx [⟨t0, i0, f0, 0⟩, ⟨t1, i1, f1, 0⟩] scope pos) 1 it' (.ref D) env) R s' := fun _ _ h => ⟨trivial, h⟩
  split
  · first
      | exact wpAny_bind (wpAny_pure (wpAny_pure (And.intro rfl h0)))
      | exact wpAny_pure (And.intro rfl h0)
  · first
      | exact wpAny_bind (wpAny_rule (wpAny_bind (wpAny_standAt (wpAny_bind (wpAny_mono h (fun it' s' h' => wpAny_pure (And.intro rfl h')) fun _ _ x => x)))))
      | (refine wpAny_bind (wpAny_rule ?_); show wpAny _ _ (standAt i1.pos >>= _) _ _ s; exact wpAny_bind (wpAny_standAt (wpAny_bind (wpAny_mono h (fun it' s' h' => wpAny_pure (And.intro rfl h')) fun _ _ x => x))))
end
section
variable {X : Cx}
/-- whatever holds in the block's own context -/
abbrev InBlk (X : Cx) (scope : Scope) (F : Cx → Prop) : Prop := ∀ (s : Shared) (H : Hp) (C : Addr) (cl : List (Str × Addr)) (fp : List Addr), F (X.blk s H scope (compEnvC scope cl C X.env) fp)
/-- keys are ints or texts; D the new dict; vs the block's names, vs1 those of the second target -/
def tDc2 (wi : TI) (g : TG) (tt : TT) (wi1 : TI) (g1 : TG) (tt1 : TT) (tk tv : TE) (vs vs1 : List Nat) : TE := fun σ H Q => wi σ H fun J H1 => ∀ D, H1 D = none → ∃ W : Nat → Nat → Hp → Prop, (∃ m, W 0 m (upd H1 D (.dK []))) ∧ ∀ i m H, W i m H →
  (J.stop i H ∧ Q (.ref D) H) ∨ (J.go i H ∧ ∃ Nx : Hp → Prop, (∀ H', Nx H' → ∃ m', m' < m ∧ W (i + 1) m' H') ∧ ∀ x H', J.yld i H x H' → g x (wipe σ vs) H' fun σ2 H2 => wipe σ2 vs = wipe σ vs ∧ tt σ2 H2 fun b H3 =>
    if b = true then wi1 σ2 H3 fun J1 H4 => ∃ W1 : Nat → Nat → Hp → Prop, (∃ m, W1 0 m H4) ∧ ∀ j k H, W1 j k H →
      (J1.stop j H ∧ Nx H) ∨ (J1.go j H ∧ ∃ Nx1 : Hp → Prop, (∀ H', Nx1 H' → ∃ k', k' < k ∧ W1 (j + 1) k' H') ∧ ∀ x H', J1.yld j H x H' → g1 x (wipe σ2 vs1) H' fun σ3 H5 => wipe σ3 vs1 = wipe σ2 vs1 ∧ tt1 σ3 H5 fun b H6 =>
        if b = true then tk σ3 H6 fun y H7 => tv σ3 H7 fun z H8 => ∃ kvs k, y = kV k ∧ H8 D = some (.dK kvs) ∧ kvs.length < sizeLine ∧ Nx1 (upd H8 D (.dK (putK kvs k z))) else Nx1 H6)
    else Nx H3)
theorem pe_dc2 {kx vx tg iter tg1 iter1 : Expr} {ifs ifs1 : List Expr} {scope : Scope} {own : List (Str × Nat)} {vs1 : List Nat} {pos : Pos} {wi wi1 : TI} {g g1 : TG} {tt tt1 : TT} {tk tv : TE}
    (hc : X.calm = true) (hN : X.N.Nodup) (hi : PI X tg iter wi) (ok : BlkOk X.N X.env.scope scope own) (hv : ∀ i ∈ vs1, i ∈ own.map (·.2))
    (hg : InBlk X scope (PG · tg g)) (ht : InBlk X scope (PTs · ifs tt)) (hi1 : InBlk X scope (PI · tg1 iter1 wi1)) (hg1 : InBlk X scope (PG · tg1 g1)) (ht1 : InBlk X scope (PTs · ifs1 tt1))
    (hk : InBlk X scope (PE · kx tk)) (he : InBlk X scope (PE · vx tv)) (hs : ∀ x, foldedSetIterable iter X.env x = pure x := by intro _; rfl) (hs1 : ∀ env x, foldedSetIterable iter1 env x = pure x := by intro _ _; rfl) :
    PE X (.DictComp kx vx [⟨tg, iter, ifs, 0⟩, ⟨tg1, iter1, ifs1, 0⟩] scope pos) (tDc2 wi g tt wi1 g1 tt1 tk tv (own.map (·.2)) vs1) := by
  refine ⟨fun pins s σ H Q I h => ?_⟩
  rw [arm_eval_DictComp]
  have hfree : ∀ y ∈ scope.names, y.2 = .free → ∃ c, X.env.cells.lookup y.1 = some c := fun y hy e => (ok.free y hy e).elim (fun k => I.ok.has _ (.inl k)) fun k => I.ok.has _ (.inr k)
  refine wpAny_comprehension_free rfl hs (closure_ok hfree) ok.kind (fun y hy e => by rw [ok.uniq y hy, e])
    (thn (hi.run pins s σ H _ I h) fun xv s1 hx => thn hx fun itv s2 h2 => ?_)
  obtain ⟨it, fp, tn, J, H2, rfl, I2, T, st2, f2, q⟩ := h2
  refine wpAny_newObj_type (newEnv_comp ?_)
  generalize hD : s2.heap.objs.size = D
  have hDn : H2 D = none := I2.hok.fresh (Nat.le_of_eq hD)
  obtain ⟨W, ⟨m0, w0⟩, turn⟩ := q D hDn
  generalize hs3 : ({ s2 with heap := s2.heap.push { cls := .type "dict", data := .dict #[] } } : Shared) = s3
  have h3 : s3.heap = s2.heap.push { cls := .type "dict", data := .dict #[] } := by rw [← hs3]
  have I3 : Inv X pins σ (upd H2 D (.dK [])) s3 := by
    rw [← hs3]
    exact I2.laid (t' := s2.toks) (fun b o e => Heap.get?_push_of_some _ e) (Nat.le_of_eq hD) (hD ▸ dk_empty s2.heap I2.big)
  have sz : ∀ b ∈ fp, b < s2.heap.objs.size := fun b hb => let ⟨o, e, _⟩ := T.obj _ _ st2 b hb; Heap.lt_size e
  have f3 : ∀ b ∈ fp, FpOk X pins (upd H2 D (.dK [])) b ∧ b < s3.heap.objs.size := fun b hb =>
    ⟨⟨by rw [upd_ne (by rw [← hD]; exact Nat.ne_of_lt (sz b hb))]; exact (f2 b hb).1, (f2 b hb).2⟩, by rw [h3, Heap.size_push]; exact Nat.lt_succ_of_lt (sz b hb)⟩
  have st3 : tn 0 s3.heap := T.keep _ _ _ st2 fun b _ o e => by rw [h3]; exact Heap.get?_push_of_some _ e
  have I4 := block_start I3 ok hN f3
  have pg := hg s3 (upd H2 D (.dK [])) s3.heap.objs.size (cellsFrom (s3.heap.objs.size + 1) scope.names (cloFrom X.env.cells scope.names [])) fp
  have pt := ht s3 (upd H2 D (.dK [])) s3.heap.objs.size (cellsFrom (s3.heap.objs.size + 1) scope.names (cloFrom X.env.cells scope.names [])) fp
  have pk := hk s3 (upd H2 D (.dK [])) s3.heap.objs.size (cellsFrom (s3.heap.objs.size + 1) scope.names (cloFrom X.env.cells scope.names [])) fp
  have pe := he s3 (upd H2 D (.dK [])) s3.heap.objs.size (cellsFrom (s3.heap.objs.size + 1) scope.names (cloFrom X.env.cells scope.names [])) fp
  have qi := hi1 s3 (upd H2 D (.dK [])) s3.heap.objs.size (cellsFrom (s3.heap.objs.size + 1) scope.names (cloFrom X.env.cells scope.names [])) fp
  have qg := hg1 s3 (upd H2 D (.dK [])) s3.heap.objs.size (cellsFrom (s3.heap.objs.size + 1) scope.names (cloFrom X.env.cells scope.names [])) fp
  have qt := ht1 s3 (upd H2 D (.dK [])) s3.heap.objs.size (cellsFrom (s3.heap.objs.size + 1) scope.names (cloFrom X.env.cells scope.names [])) fp
  show codeAny _ _ (.compStart (.DictComp kx vx [⟨tg, iter, ifs, 0⟩, ⟨tg1, iter1, ifs1, 0⟩] scope pos) 0 (.ref it) (.ref D) (compEnvC scope (cellsFrom (s3.heap.objs.size + 1) scope.names (cloFrom X.env.cells scope.names [])) s3.heap.objs.size X.env)) (compPost (model X.prog X.w) X.A X.xe none (fun v s1 => ∃ x H', Inv X pins σ H' s1 ∧ RelV x v ∧ Q x H') (.ref D) s3.heap.objs.size) { s3 with heap := pushCells (s3.heap.push { cls := .type "dict", data := .dict #[] }) scope.names }
  have nfp : ∀ b ∈ fp, (upd H2 D (.dK [])) b = none := fun b hb => (f3 b hb).1.1
  generalize hce : compEnvC scope (cellsFrom (s3.heap.objs.size + 1) scope.names (cloFrom X.env.cells scope.names [])) s3.heap.objs.size X.env = ce at I4 pg pt pk pe qi qg qt ⊢
  have cL : ce.locals = s3.heap.objs.size := by subst hce; rfl
  generalize hH3 : upd H2 D (.dK []) = H3 at I3 I4 pg pt pk pe qi qg qt w0 nfp f3
  generalize hs4 : ({ s3 with heap := pushCells (s3.heap.push { cls := .type "dict", data := .dict #[] }) scope.names } : Shared) = s4 at I4 ⊢
  have st4 : tn 0 s4.heap := T.keep _ _ _ st3 fun b _ o e => by rw [← hs4]; exact pushCells_keeps _ _ _ _ (Heap.get?_push_of_some _ e)
  have none_ok : ∀ {σ' : L2.St} {H' : Hp} {s' : Shared}, Inv (X.blk s3 H3 scope ce fp) [] σ' H' s' → (∀ b ∈ fp, H' b = none) → ∀ b ∈ fp, FpOk (X.blk s3 H3 scope ce fp) [] H' b := fun {σ' H' s'} I' hn b hb =>
    ⟨hn b hb, (I'.ok.exf b hb).1, I'.ok.exfs b hb, .inl hb, fun x c e => (I'.ok.exf b hb).2 x c e, fun p hp => absurd (show p ∈ ([] : List (Addr × Obj)) ++ [] from hp) (by simp)⟩
  have pinned_is : ∀ (l : List Addr) (pp : List (Addr × Obj)) (hp : Heap) (σ' : L2.St) (H' : Hp) (s' : Shared), (∀ b ∈ l, ∃ o, hp.get? b = some o ∧ ∀ v, o.data ≠ .cell v) → Inv (X.blk s3 H3 scope ce fp) (pp ++ pinsAt l hp) σ' H' s' → ∀ b ∈ l, (∀ o, hp.get? b = some o → s'.heap.get? b = some o) ∧ H' b = none := by
    intro l pp hp σ' H' s' ho I' b hb
    have all : ∀ o, hp.get? b = some o → s'.heap.get? b = some o ∧ H' b = none := fun o e =>
      let z := I'.pin (b, o) (List.mem_append_right _ (List.mem_append_right _ (mem_pinsAt hb e)))
      ⟨z.1, z.2.1⟩
    obtain ⟨o, e, _⟩ := ho b hb
    exact ⟨fun o e => (all o e).1, (all o e).2⟩
  refine codeAny_compStart_dict (?loop : codeAny (model X.prog X.w) X.A (.compLoop (.DictComp kx vx [⟨tg, iter, ifs, 0⟩, ⟨tg1, iter1, ifs1, 0⟩] scope pos) 0 (.ref it) (.ref D) ce) _ s4) (T.self X.A 0 _ _ _ st4 ?loop)
  refine loopD2_out (hs1 ce) (fun n s' => ∃ i H', Inv (X.blk s3 H3 scope ce fp) [] (wipe σ (own.map (·.2))) H' s' ∧ tn i s'.heap ∧ (∀ b ∈ fp, H' b = none) ∧ W i n H') ?_ m0 ⟨0, H3, I4, st4, nfp, w0⟩
  rintro n s5 ⟨i, H5, I5, st5, n5, w5⟩
  rcases turn i n H5 w5 with ⟨stop, qq⟩ | ⟨go, Nx, hNx, step⟩
  · refine thnF (T.done (X.blk s3 H3 scope ce fp) rfl rfl rfl hc i [] s5 _ H5 (fun _ _ => False) I5 (none_ok I5 n5) st5 stop) fun r s6 ⟨hr, I6⟩ => ?_
    subst hr
    have I7 : Inv X pins σ H5 s6 := I3.call' (ch := fp) I6.os I6.base I6.hok I6.bare fun b hb => ⟨(f3 b hb).1.2.2.2.1, (f3 b hb).1.2.1, (f3 b hb).1.2.2.2.2.1, (f3 b hb).1.2.2.2.2.2⟩
    have nC : H5 s3.heap.objs.size = none := cL ▸ (show H5 ce.locals = none from I6.free)
    obtain ⟨m, hn, _⟩ := I6.loc
    have hn : s6.heap.Ns ce.locals m := hn
    rw [cL] at hn
    obtain ⟨z0, z1, z2, z3, z4, z5⟩ := I3.fpOk (Nat.le_refl _) nC
    exact ⟨m, hn, fun h'' sb => ⟨.ref D, H5, I7.turned (t' := s6.toks) (fun b o hb e => (sb.2 b hb).trans e) z0 z1 z3 z4 z5, rfl, qq⟩⟩
  refine thnF (T.item (X.blk s3 H3 scope ce fp) rfl rfl rfl hc i [] s5 _ H5 (fun _ _ => False) I5 (none_ok I5 n5) st5 go) fun r s6 ⟨u, hr, h6⟩ => ?_
  subst hr
  refine thnF h6 fun _ s7 ⟨x, H7, I7, r7, y7, st7, n7⟩ => ?_
  refine thnF (pg.run _ s7 _ H7 x u _ (I7.pinned (none_ok I7 n7) (T.obj _ _ st7)) r7 (step x H7 y7)) fun _ s8 ⟨σ8, H8, I8, hw8, q8⟩ => ?_
  refine thnF (pt.run _ s8 σ8 H8 _ I8 q8) fun b s9 ⟨H9, I9, q9⟩ => ?_
  -- from any slots that know what the block knew at its start, on to the next turn
  have on : ∀ {σ9 : L2.St} {s' : Shared} {H' : Hp}, Inv (X.blk s3 H3 scope ce fp) ([] ++ pinsAt fp s7.heap) σ9 H' s' → (wipe σ (own.map (·.2))).length = σ9.length → (∀ (j : Nat) v, (wipe σ (own.map (·.2)))[j]? = some (some v) → σ9[j]? = some (some v)) → Nx H' →
      ∃ m, m < n ∧ ∃ i H', Inv (X.blk s3 H3 scope ce fp) [] (wipe σ (own.map (·.2))) H' s' ∧ tn i s'.heap ∧ (∀ b ∈ fp, H' b = none) ∧ W i m H' := fun {σ9 s' H'} I' hl hk nx => by
    obtain ⟨m', hm, w'⟩ := hNx H' nx
    have same := pinned_is _ _ _ _ _ _ (T.obj _ _ st7) I'
    exact ⟨m', hm, i + 1, H', (I'.unpinned (pins := [])).weak hl hk, T.keep _ _ _ st7 fun b hb o e => (same b hb).1 o e, fun b hb => (same b hb).2, w'⟩
  have l8 : (wipe σ (own.map (·.2))).length = σ8.length := by rw [← hw8, wipe_length]
  have k8 : ∀ (j : Nat) v, (wipe σ (own.map (·.2)))[j]? = some (some v) → σ8[j]? = some (some v) := fun j v e => (wipe_some (hw8 ▸ e)).1
  have k9 : ∀ (j : Nat) v, (wipe σ (own.map (·.2)))[j]? = some (some v) → (wipe σ8 vs1)[j]? = some (some v) := fun j v e => by
    obtain ⟨e1, e2⟩ := wipe_some (hw8 ▸ e)
    rw [wipe_out fun z => e2 (hv j z)]
    exact e1
  rcases b with _ | _
  · simp only [Bool.false_eq_true, if_false] at q9 ⊢
    exact on I9 l8 k8 q9
  simp only [if_true] at q9 ⊢
  refine thnF (qi.run _ s9 σ8 H9 _ I9 q9) fun xv s10 hx => thnF hx fun itv s11 ⟨it1, fp1, tn1, J1, H11, e1, I11, T1, st11, f11, W1, ⟨m1, w1⟩, turn1⟩ => ?_
  subst e1
  have some_ok : ∀ {H' : Hp}, (∀ b ∈ fp1, H' b = none) → ∀ b ∈ fp1, FpOk (X.blk s3 H3 scope ce fp) ([] ++ pinsAt fp s7.heap) H' b := fun hn b hb => ⟨hn b hb, (f11 b hb).2⟩
  have second : codeAny (model X.prog X.w) X.A (.compLoop (.DictComp kx vx [⟨tg, iter, ifs, 0⟩, ⟨tg1, iter1, ifs1, 0⟩] scope pos) 1 (.ref it1) (.ref D) ce)
      (fun r s' => match r with
        | .ok _ => ∃ m, m < n ∧ ∃ i H', Inv (X.blk s3 H3 scope ce fp) [] (wipe σ (own.map (·.2))) H' s' ∧ tn i s'.heap ∧ (∀ b ∈ fp, H' b = none) ∧ W i m H'
        | .error _ => False) s11 := by
    refine loopD2_in (fun k s' => ∃ j H', Inv (X.blk s3 H3 scope ce fp) ([] ++ pinsAt fp s7.heap) (wipe σ8 vs1) H' s' ∧ tn1 j s'.heap ∧ (∀ b ∈ fp1, H' b = none) ∧ W1 j k H') ?_ m1 ⟨0, H11, I11.weak (wipe_length _ _) (fun j v e => (wipe_some e).1), st11, fun b hb => (f11 b hb).1, w1⟩
    rintro k s12 ⟨j, H12, I12, st12, n12, w12⟩
    rcases turn1 j k H12 w12 with ⟨stop1, nx1⟩ | ⟨go1, Nx1, hNx1, step1⟩
    · refine thnF (T1.done (X.blk s3 H3 scope ce fp) rfl rfl rfl hc j _ s12 (wipe σ8 vs1) H12 (fun _ _ => False) I12 (some_ok n12) st12 stop1) fun r s13 ⟨hr, I13⟩ => ?_
      subst hr
      exact on I13 (l8.trans (wipe_length σ8 vs1).symm) k9 nx1
    refine thnF (T1.item (X.blk s3 H3 scope ce fp) rfl rfl rfl hc j _ s12 (wipe σ8 vs1) H12 (fun _ _ => False) I12 (some_ok n12) st12 go1) fun r s13 ⟨u1, hr, h13⟩ => ?_
    subst hr
    refine thnF h13 fun _ s14 ⟨x1, H14, I14, r14, y14, st14, n14⟩ => ?_
    refine thnF (qg.run _ s14 (wipe σ8 vs1) H14 x1 u1 _ (I14.pinned (some_ok n14) (T1.obj _ _ st14)) r14 (step1 x1 H14 y14)) fun _ s15 ⟨σ15, H15, I15, hw15, q15⟩ => ?_
    refine thnF (qt.run _ s15 σ15 H15 _ I15 q15) fun b1 s16 ⟨H16, I16, q16⟩ => ?_
    have on1 : ∀ {s' : Shared} {H' : Hp}, Inv (X.blk s3 H3 scope ce fp) (([] ++ pinsAt fp s7.heap) ++ pinsAt fp1 s14.heap) σ15 H' s' → Nx1 H' →
        ∃ m, m < k ∧ ∃ j H', Inv (X.blk s3 H3 scope ce fp) ([] ++ pinsAt fp s7.heap) (wipe σ8 vs1) H' s' ∧ tn1 j s'.heap ∧ (∀ b ∈ fp1, H' b = none) ∧ W1 j m H' := fun {s' H'} I' nx => by
      obtain ⟨m', hm, w'⟩ := hNx1 H' nx
      have same := pinned_is _ _ _ _ _ _ (T1.obj _ _ st14) I'
      exact ⟨m', hm, j + 1, H', I'.unpinned.weak (by rw [← hw15, wipe_length]) (fun j v e => (wipe_some (hw15 ▸ e)).1), T1.keep _ _ _ st14 fun b hb o e => (same b hb).1 o e, fun b hb => (same b hb).2, w'⟩
    rcases b1 with _ | _
    · simp only [Bool.false_eq_true, if_false] at q16 ⊢
      exact on1 I16 q16
    simp only [if_true] at q16 ⊢
    refine thnF (pk.run _ s16 σ15 H16 _ I16 q16) fun z s17 ⟨yk, H17, I17, r17, q17⟩ => ?_
    refine thnF (pe.run _ s17 σ15 H17 _ I17 q17) fun z2 s18 ⟨yv, H18, I18, r18, kvs, k', ek, hD18, hz18, nx⟩ => ?_
    subst ek
    exact d_dictSet (X := X.blk s3 H3 scope ce fp) I18 hD18 hz18 r17 r18 fun s19 I19 => on1 I19 nx
  exact startD2 second (T1.self X.A 0 _ _ _ st11 second)
end
end L2
set_option Elab.async false
set_option linter.all false
set_option maxRecDepth 100000
set_option maxHeartbeats 2000000
/-! y = {k: v for ..}, y a local name that the block does not use -/
namespace L2
open PySem PySem.Spec PyProof.Rows
section
variable {X : Cx}
theorem ps_setDc {i : Nat} {y : Str} {py : Pos} {kx vx tg iter : Expr} {ifs : List Expr} {scope : Scope} {own : List (Str × Nat)} {pos spos : Pos} {wi : TI} {g : TG} {tt : TT} {tk tv : TE} (calm : X.calm = true) (nd : X.N.Nodup) (hy : X.N[i]? = some y) (loc : X.env.scope.names.lookup y = some .local)
    (sw : swapsWith (.DictComp kx vx [⟨tg, iter, ifs, 0⟩] scope pos) (some (.Name y py)) spos.line X.env = pure true) (hi : PI X tg iter wi) (ok : BlkOk X.N X.env.scope scope own)
    (hg : ∀ s H C cl fp, PG (X.blk s H scope (compEnvC scope cl C X.env) fp) tg g) (ht : ∀ s H C cl fp, PTs (X.blk s H scope (compEnvC scope cl C X.env) fp) ifs tt)
    (hk : ∀ s H C cl fp, PE (X.blk s H scope (compEnvC scope cl C X.env) fp) kx tk) (he : ∀ s H C cl fp, PE (X.blk s H scope (compEnvC scope cl C X.env) fp) vx tv) (hs : ∀ x, foldedSetIterable iter X.env x = pure x := by intro _; rfl) :
    PS X (.Assign [.Name y py] (.DictComp kx vx [⟨tg, iter, ifs, 0⟩] scope pos) spos) (tAsg (tDc wi g tt tk tv (own.map (·.2))) (gName i)) := by
  refine ⟨fun pins s σ H D I h => ?_⟩
  rw [exec_Assign_Name_used _ _ _ _ sw]
  refine wpAny_bind (wpAny_standAt (wpAny_bind ?_))
  show wpAny _ X.A (do let _ ← comprehension (.DictComp kx vx [⟨tg, iter, ifs, 0⟩] scope pos) scope X.env (firstIterPos [⟨tg, iter, ifs, 0⟩] pos) newDict false (eval iter X.env) (some (assign (.Name y py) X.env))) _ _ s
  have h : tDc wi g tt tk tv (own.map (·.2)) σ H (fun x H1 => gName i x σ H1 D.nx) := h
  refine wpAny_bind (thn (dc_core (Qf := fun _ s1 => SP X pins D .next s1) calm nd I hi ok hg ht hk he hs h fun L C s1 m H1 J q hn f => ?_) fun _ s1 z => wpAny_pure (wpAny_pure z))
  show wpAny _ _ (assign (.Name y py) X.env (.ref L)) _ _ _
  refine wpAny_assign_Name (store_ok2 (v := V.ref L) J nd hy (.inl loc) rfl (fun s2 J2 ⟨a, sb, ha⟩ => ?_) (.inr loc))
  obtain ⟨z0, z1, _, z3, z4, z5⟩ := f
  have ne : C ≠ a := ha.elim (fun z => z ▸ z1) fun z e => z4 y a z e.symm
  exact ⟨m, hn.sameBut sb ne, fun h3 sb3 => ⟨_, H1, J2.turned (t' := s2.toks) (fun b o hb e => (sb3.2 b hb).trans e) z0 z1 z3 z4 z5, q⟩⟩
theorem sw_dict {kx vx : Expr} {gs : List Comprehension} {scope : Scope} {pos py : Pos} {y : Str} {l : Nat} {env : Env} (hk : env.scope.kind = .function) (hy : env.scope.names.lookup y = some .local) (hl : (py.line == pos.line) = true)
    (ha : (scope.names.any fun (n, k) => n == y && (k == .local || k == .cell)) = false) : swapsWith (.DictComp kx vx gs scope pos) (some (.Name y py)) l env = pure true := by
  have ky : env.kindOf y = some .local := hy
  have hb : env.blockKind = .function := by
    unfold Env.blockKind
    rw [hk]
    rfl
  unfold swapsWith
  simp only [hb, ky, ha, Expr.pos, hl]
  rfl
end
end L2
set_option Elab.async false
set_option linter.all false
set_option maxRecDepth 100000
set_option maxHeartbeats 4000000
/-! comprehensions -/
namespace DN
open PySem PySem.Spec PyProof.Rows L2
def rst : List Nat → Env → Env → Env
  | [], _, δ => δ
  | i :: r, δ0, δ => rst r δ0 (match slot δ0 i with
    | .sh d => put δ i (.sh d)
    | _ => δ)
section
variable {K : PySem.W.Frag} {Hm H Hm' H' : Hp} {σ σ' : L2.St} {δ : Env} {fp : Fp}
theorem put_same : ∀ {σ : L2.St} {i : Nat} {v : V}, σ[i]? = some (some v) → σ.set i (some v) = σ := fun {σ i v} h => by
  obtain ⟨hi, e⟩ := List.getElem?_eq_some_iff.mp h
  rw [← e]
  exact List.set_getElem_self hi
theorem EnvOk.add_sh (E : EnvOk K Hm H σ δ fp) (i : Nat) {v : V} {d : D} (hs : slot δ i = .no) (hv : σ[i]? = some (some v)) (h : Dq K Hm v d) : EnvOk K Hm H σ (put δ i (.sh d)) fp := by
  have e := E.put_sh i h
  rw [put_same hv] at e
  have ef : (fun j => if j = i then [] else fp j) = fp := funext fun j => by
    by_cases z : j = i
    · rw [if_pos z, z]
      exact (E.non i fun o q => by rw [hs] at q; cases q).symm
    · rw [if_neg z]
  rw [ef] at e
  exact e
theorem slot_clr_ne : ∀ (vs : List Nat) (δ : Env) {i : Nat}, i ∉ vs → slot (clr vs δ) i = slot δ i
  | [], _, _, _ => rfl
  | v :: r, δ, i, h => by
    have h1 : v ≠ i := fun e => h (by rw [e]; exact List.mem_cons_self)
    show slot (clr r (put δ v .no)) i = _
    rw [slot_clr_ne r _ fun m => h (List.mem_cons_of_mem _ m), slot_put, if_neg fun z => h1 z.1]
theorem clr_keep : ∀ (vs : List Nat) (δ : Env) {i : Nat}, slot δ i = .no → slot (clr vs δ) i = .no
  | [], _, _, h => h
  | v :: r, δ, i, h => clr_keep r _ (by
    rw [slot_put]
    split
    · rfl
    · exact h)
theorem slot_clr : ∀ (vs : List Nat) (δ : Env) {i : Nat}, i ∈ vs → slot (clr vs δ) i = .no
  | v :: r, δ, i, h => by
    by_cases z : v = i
    · refine clr_keep r _ ?_
      rw [slot_put]
      split
      · rfl
      · rename_i n
        cases q : slot δ i with
        | no => rfl
        | sh d => exact absurd ⟨z, by rw [z]; exact slot_lt (by rw [q]; nofun)⟩ n
        | ow d => exact absurd ⟨z, by rw [z]; exact slot_lt (by rw [q]; nofun)⟩ n
    · exact slot_clr r _ ((List.mem_cons.mp h).resolve_left fun e => z e.symm)
theorem EnvOk.rst {δ0 : Env} (s0 : ∀ i d, slot δ0 i = .sh d → ∃ v, σ[i]? = some (some v) ∧ Dq K Hm v d) : ∀ (vs : List Nat) {δ : Env} {fp : Fp}, vs.Nodup → EnvOk K Hm H σ δ fp → (∀ i ∈ vs, slot δ i = .no) → EnvOk K Hm H σ (rst vs δ0 δ) fp
  | [], _, _, _, e, _ => e
  | i :: r, δ, fp, nd, e, h => by
    have nd := List.nodup_cons.mp nd
    show EnvOk K Hm H σ (DN.rst r δ0 _) fp
    cases z : slot δ0 i with
    | sh d =>
      obtain ⟨v, a, b⟩ := s0 i d z
      refine EnvOk.rst s0 r nd.2 (e.add_sh i (h i List.mem_cons_self) a b) fun j hj => ?_
      rw [slot_put, if_neg fun y => nd.1 (by rw [y.1]; exact hj)]
      exact h j (List.mem_cons_of_mem _ hj)
    | no => exact EnvOk.rst s0 r nd.2 e fun j hj => h j (List.mem_cons_of_mem _ hj)
    | ow o => exact EnvOk.rst s0 r nd.2 e fun j hj => h j (List.mem_cons_of_mem _ hj)
theorem EnvOk.off (E : EnvOk K Hm H σ δ fp) {q : Addr} {o : HO} (hm : Hm q = none) (hf : ∀ j, q ∉ fp j) : EnvOk K Hm (upd H q o) σ δ fp := by
  refine ⟨E.len, fun b u e => ?_, E.sh, fun i o2 e => ?_, E.non, E.dis⟩
  · rw [upd_ne fun z => by rw [z, hm] at e; cases e]
    exact E.sub b u e
  · obtain ⟨v, a, b⟩ := E.ow i o2 e
    refine ⟨v, a, b.frame (.refl _) b.msk fun p hp u e => ?_⟩
    rw [upd_ne fun z => hf i (by rw [← z]; exact hp)]
    exact e
theorem wipe_in {i : Nat} : ∀ {vs : List Nat}, i ∈ vs → (wipe σ vs)[i]? = if i < σ.length then some none else none
  | v :: vs, h => by
    unfold wipe
    by_cases z : v = i
    · subst z
      by_cases l : v < σ.length
      · rw [if_pos l, List.getElem?_set_self (by rw [wipe_length]; exact l)]
      · rw [if_neg l, List.getElem?_eq_none (by rw [List.length_set, wipe_length]; omega)]
    · rw [List.getElem?_set_ne z]
      exact wipe_in ((List.mem_cons.mp h).resolve_left fun e => z e.symm)
theorem wipe_pins {vs : List Nat} (p : Pins (fun i => i ∉ vs) (wipe σ vs) σ') : wipe σ' vs = wipe σ vs := by
  have l := p.len
  rw [wipe_length] at l
  apply List.ext_getElem?
  intro i
  by_cases h : i ∈ vs
  · rw [wipe_in h, wipe_in h, l]
  · rw [wipe_out h, p.at_ i h]
theorem EnvOk.wiped {vs : List Nat} (E : EnvOk K Hm H σ δ fp) : EnvOk K Hm H (wipe σ vs) (DN.clr vs δ) (DN.clrF vs fp) := (EnvOk.clr vs E).conv (wipe_length ..) fun i h => wipe_out fun m => h (slot_clr vs δ m)
theorem EnvOk.unwiped {vs : List Nat} (E : EnvOk K Hm H (wipe σ vs) δ fp) : EnvOk K Hm H σ (DN.clr vs δ) (DN.clrF vs fp) := (EnvOk.clr vs E).conv (wipe_length ..).symm fun i h => (wipe_out fun m => h (slot_clr vs δ m)).symm
theorem EnvOk.back {vs : List Nat} (E : EnvOk K Hm H σ' δ fp) (w : wipe σ' vs = wipe σ vs) : EnvOk K Hm H (wipe σ vs) (DN.clr vs δ) (DN.clrF vs fp) := w ▸ E.wiped
end
/-- what stands beside the slots: an object being made -/
structure Beside (K : PySem.W.Frag) (q : Addr) (Hm H : Hp) (fp : Fp) (o : HO) : Prop where
  at_ : H q = some o
  msk : Hm q = none
  off : ∀ j, q ∉ fp j
theorem Beside.step {K : PySem.W.Frag} {q : Addr} {Hm H Hm' H' : Hp} {fp fp' : Fp} {o : HO} (b : Beside K q Hm H fp o) (s : Step Hm H fp Hm' H' fp') : Beside K q Hm' H' fp' o := by
  refine ⟨s.keep q o b.at_ b.off, ?_, fun j h => ?_⟩
  · cases z : Hm' q with
    | none => rfl
    | some u =>
      rcases s.only q u z with ⟨u, y⟩ | ⟨j, y⟩ | y
      · rw [b.msk] at y; cases y
      · exact absurd y (b.off j)
      · rw [b.at_] at y; cases y
  · rcases s.new j q h with ⟨j, y⟩ | y
    · exact absurd y (b.off j)
    · rw [b.at_] at y; cases y
theorem Step.upd_new {A a B b : Hp} {f g : Fp} {q : Addr} (s : Step A a f B b g) (n : a q = none) (o : HO) : Step A a f B (upd b q o) g :=
  ⟨s.mask, fun p u e h => by rw [upd_ne (ne_of_none e n)]; exact s.keep p u e h, s.new, s.only, fun p h => s.dom p (by
    by_cases z : p = q
    · rw [z, upd_same] at h; cases h
    · rw [upd_ne z] at h; exact h)⟩
theorem Step.seal {A a B b : Hp} {f g : Fp} {q : Addr} (s : Step A a f B b g) (n : a q = none) (l : Le A a) (o : HO) : Step A a f (upd B q o) b g := by
  refine ⟨fun p u e => ?_, s.keep, s.new, fun p u e => ?_, s.dom⟩
  · rw [upd_ne (ne_of_none e (none_of_le l n))]
    exact s.mask p u e
  · by_cases z : p = q
    · exact .inr (.inr (by rw [z]; exact n))
    · rw [upd_ne z] at e
      exact s.only p u e
theorem EnvOk.seal {K : PySem.W.Frag} {Hm H : Hp} {σ : L2.St} {δ : Env} {fp : Fp} {q : Addr} {o : HO} (E : EnvOk K Hm H σ δ fp) (b : Beside K q Hm H fp o) : EnvOk K (upd Hm q o) H σ δ fp := by
  have sm : Same Hm (upd Hm q o) := same_upd b.msk
  refine ⟨E.len, fun p u e => ?_, fun i d e => ?_, fun i o2 e => ?_, E.non, E.dis⟩
  · by_cases z : p = q
    · subst z
      rw [upd_same] at e
      cases e
      exact .inl b.at_
    · rw [upd_ne z] at e
      exact E.sub p u e
  · obtain ⟨v, a, c⟩ := E.sh i d e
    exact ⟨v, a, c.le (.of sm)⟩
  · obtain ⟨v, a, c⟩ := E.ow i o2 e
    refine ⟨v, a, c.frame (.of sm) (fun p hp => ?_) fun p hp u e => e⟩
    rw [upd_ne fun z => b.off i (by rw [← z]; exact hp)]
    exact c.msk p hp
theorem EnvOk.owned {K : PySem.W.Frag} {Hm H : Hp} {σ : L2.St} {δ : Env} {fp : Fp} (E : EnvOk K Hm H σ δ fp) {q : Addr} (n : H q = none) (j : Nat) : q ∉ fp j := fun hj => by
  have : ∃ o, slot δ j = .ow o := by
    cases z : slot δ j with
    | ow o => exact ⟨o, rfl⟩
    | no => have y := E.non j (by rw [z]; nofun); rw [y] at hj; cases hj
    | sh d => have y := E.non j (by rw [z]; nofun); rw [y] at hj; cases hj
  obtain ⟨o, z⟩ := this
  obtain ⟨v, _, y⟩ := E.ow j o z
  obtain ⟨u, y⟩ := y.live q hj
  rw [n] at y; cases y
theorem EnvOk.beside {K : PySem.W.Frag} {Hm H : Hp} {σ : L2.St} {δ : Env} {fp : Fp} (E : EnvOk K Hm H σ δ fp) {q : Addr} (n : H q = none) (o : HO) : EnvOk K Hm (upd H q o) σ δ fp ∧ Beside K q Hm (upd H q o) fp o ∧ Step Hm H fp Hm (upd H q o) fp :=
  ⟨E.off (none_of_le E.sub n) (E.owned n), ⟨upd_same, none_of_le E.sub n, E.owned n⟩, (Step.refl ..).upd_new n o⟩
/-- one more thing into the object at q, at data: a, at the heap: st -/
def IntoAt {α : Type} (K : PySem.W.Frag) (q : Addr) (rd : Hp → HO → α → Prop) (st : Addr → L2.St → Hp → (Hp → Prop) → Prop) (sd : α → Env → (α → Env → Prop) → Prop) : Prop :=
  ∀ Hm H σ δ fp o a (N : α → Env → Prop) (N' : Hp → Prop), EnvOk K Hm H σ δ fp → Beside K q Hm H fp o → rd Hm o a → sd a δ N →
    (∀ a' δ', N a' δ' → ∀ Hm' H' fp' o', Step Hm H fp Hm' H' fp' → EnvOk K Hm' H' σ δ' fp' → Beside K q Hm' H' fp' o → rd Hm' o' a' → N' (upd H' q o')) → st q σ H N'
def IntoOk {α : Type} (K : PySem.W.Frag) (rd : Hp → HO → α → Prop) (st : Addr → L2.St → Hp → (Hp → Prop) → Prop) (sd : α → Env → (α → Env → Prop) → Prop) : Prop := ∀ q, IntoAt K q rd st sd
def tC (wi : TI) (g : TG) (tt : TT) (st : Addr → L2.St → Hp → (Hp → Prop) → Prop) (o0 : HO) (vs : List Nat) : TE := fun σ H Q => wi σ H fun J H1 => ∀ D, H1 D = none → ∃ W : Nat → Nat → Hp → Prop, (∃ m, W 0 m (upd H1 D o0)) ∧ ∀ i m H, W i m H →
  (J.stop i H ∧ Q (.ref D) H) ∨ (J.go i H ∧ ∃ Nx : Hp → Prop, (∀ H', Nx H' → ∃ m', m' < m ∧ W (i + 1) m' H') ∧ ∀ x H', J.yld i H x H' → g x (wipe σ vs) H' fun σ2 H2 => wipe σ2 vs = wipe σ vs ∧ tt σ2 H2 fun b H3 =>
    if b = true then st D σ2 H3 Nx else Nx H3)
def cL {α : Type} (t : T) (tt : W Bool) (sd : α → Env → (α → Env → Prop) → Prop) (vs : List Nat) (P : α → Env → Prop) : List D → α → Env → Prop
  | [], a, δ => P a (clr vs δ)
  | d :: r, a, δ => t d δ fun δ1 => tt δ1 (fun b δ2 => if b = true then sd a δ2 fun a' δ3 => cL t tt sd vs P r a' (clr vs δ3) else cL t tt sd vs P r a (clr vs δ2)) noR
def cW {α : Type} (FI : W (List D)) (t : T) (tt : W Bool) (sd : α → Env → (α → Env → Prop) → Prop) (a0 : α) (out : α → D) (vs : List Nat) : W D := fun δ P R => FI δ (fun ds δ1 => cL t tt sd vs (fun a δ2 => P (out a) (rst vs δ1 δ2)) ds a0 (clr vs δ1)) R
section
variable {X : Cx} {E : XK} {e : Expr} {FI : W (List D)} {t : T} {FB : W Bool} {α : Type}
theorem clrF_sub : ∀ (vs : List Nat) (f : Fp) (j : Nat) {p : Addr}, p ∈ clrF vs f j → p ∈ f j
  | [], _, _, _, h => h
  | v :: r, f, j, p, h => by
    have h := clrF_sub r _ j h
    by_cases z : j = v
    · rw [if_pos z] at h; cases h
    · rw [if_neg z] at h; exact h
theorem Beside.clr {K : PySem.W.Frag} {q : Addr} {Hm H : Hp} {fp : Fp} {o : HO} (b : Beside K q Hm H fp o) (vs : List Nat) : Beside K q Hm H (clrF vs fp) o := ⟨b.at_, b.msk, fun j h => b.off j (clrF_sub vs fp j h)⟩
theorem compCore0 {K : PySem.W.Frag} {zc : Option (Addr × HO)} {rd : Hp → HO → α → Prop} {st : Addr → L2.St → Hp → (Hp → Prop) → Prop} {sd : α → Env → (α → Env → Prop) → Prop} {a0 : α} {o0 : HO} {vs : List Nat} {Hm0 H0 : Hp} {σ : L2.St} {δ0 : Env} {fp0 : Fp} {ds : List D} {J : It} {P : α → Env → Prop} {Q : VK} {q : Addr}
    (ok : IntoAt K q rd st sd) (r0 : ∀ Hm, rd Hm o0 a0) (mono : ∀ {Hm Hm' o a}, Same Hm Hm' → rd Hm o a → rd Hm' o a) (nd : vs.Nodup)
    (e0 : EnvOk K Hm0 H0 σ δ0 fp0) (h0 : cL t FB sd vs (fun a δ2 => P a (rst vs δ0 δ2)) ds a0 (clr vs δ0)) (it : ItOk K Hm0 zc J ds) (z0 : Zh zc Hm0 H0) (nq : H0 q = none)
    (hQ : ∀ a δ', P a δ' → ∀ o Hm' H' fp', Step Hm0 H0 fp0 Hm' H' fp' → EnvOk K Hm' H' σ δ' fp' → Beside K q Hm' H' fp' o → rd Hm' o a → Zh zc Hm' H' → Q (.ref q) H') :
    ∃ W : Nat → Nat → Hp → Prop, (∃ m, W 0 m (upd H0 q o0)) ∧ ∀ i m H, W i m H → (J.stop i H ∧ Q (.ref q) H) ∨ (J.go i H ∧ ∃ Nx : Hp → Prop, (∀ H', Nx H' → ∃ m', m' < m ∧ W (i + 1) m' H') ∧ ∀ x H', J.yld i H x H' → tgD K (fun i => i ∉ vs) t x (wipe σ vs) H' fun σ2 H2 => wipe σ2 vs = wipe σ vs ∧ tT K E0 FB σ2 H2 fun b H3 => if b = true then st q σ2 H3 Nx else Nx H3) := by
  obtain ⟨n0, b0, t0⟩ := e0.beside nq o0
  refine ⟨fun i m H' => m = ds.length - i ∧ i ≤ ds.length ∧ ∃ a o Hm' δ' fp', EnvOk K Hm' H' (wipe σ vs) δ' fp' ∧ cL t FB sd vs (fun a δ2 => P a (rst vs δ0 δ2)) (ds.drop i) a δ' ∧ Beside K q Hm' H' fp' o ∧ rd Hm' o a ∧ Step Hm0 H0 fp0 Hm' H' fp' ∧ (∀ i, i ∈ vs → slot δ' i = .no) ∧ Zh zc Hm' H', ?_, ?_⟩
  · refine ⟨_, rfl, Nat.zero_le _, a0, o0, Hm0, _, _, n0.wiped, ?_, b0.clr vs, r0 _, t0.trans (step_clr ..), (fun i hi => slot_clr vs _ hi), z0.step e0 t0⟩
    exact h0
  · rintro i m H1 ⟨rfl, il, a, o, Hm1, δ1, fp1, e1, h1, b1, r1, s1, c1, z1⟩
    obtain ⟨stop, go⟩ := it i Hm1 H1 s1.mask e1.sub z1
    by_cases z : ds.length ≤ i
    · left
      rw [List.drop_eq_nil_iff.mpr z] at h1
      refine ⟨stop z, ?_⟩
      have e2 : EnvOk K Hm1 H1 σ (clr vs δ1) (clrF vs fp1) := e1.unwiped
      have b2 := b1.clr vs
      have s2 := s1.trans (step_clr Hm1 H1 vs fp1)
      have e4 := EnvOk.rst (δ0 := δ0) (σ := σ) (Hm := Hm1) (H := H1) (fun i d hd => by
        obtain ⟨v, a, b⟩ := e0.sh i d hd
        exact ⟨v, a, b.le (.of s2.mask)⟩) vs nd e2 fun i hi => slot_clr vs _ hi
      exact hQ _ _ h1 _ _ _ _ s2 e4 b2 r1 (z0.step e0 s2)
    · right
      have z : i < ds.length := Nat.lt_of_not_le z
      obtain ⟨g, y⟩ := go ds[i] (List.getElem?_eq_getElem z)
      rw [List.drop_eq_getElem_cons z] at h1
      refine ⟨g, fun H' => ∃ a o Hm' δ' fp', EnvOk K Hm' H' (wipe σ vs) δ' fp' ∧ cL t FB sd vs (fun a δ2 => P a (rst vs δ0 δ2)) (ds.drop (i + 1)) a δ' ∧ Beside K q Hm' H' fp' o ∧ rd Hm' o a ∧ Step Hm0 H0 fp0 Hm' H' fp' ∧ (∀ i, i ∈ vs → slot δ' i = .no) ∧ Zh zc Hm' H', fun H' w => ⟨_, ?_, rfl, z, w⟩, fun x H2 yx => ?_⟩
      · omega
      · obtain ⟨Hm2, n, dx⟩ := y x H2 yx
        have e2 := e1.new n
        have b2 := b1.step (n.step fp1)
        have s2 := s1.trans (n.step fp1)
        refine ⟨Hm2, _, _, _, _, e2, dx, h1, fun δ3 h3 σ3 fp3 s3 e3 p3 => ?_⟩
        have w3 := wipe_pins p3
        have b3 := b2.step s3
        have s23 := s2.trans s3
        refine ⟨w3, Hm2, δ3, fp3, _, noR, e3, h3, fun c δ4 h4 v Hm4 H4 fp4 s4 e4 dv => ?_, fun e h => h.elim⟩
        have dv : v = c := dv
        subst dv
        have b4 := b3.step s4
        have s24 := s23.trans s4
        have r4 := mono s4.mask (mono s3.mask (mono n.mask r1))
        cases v with
        | true =>
          refine ok Hm4 H4 σ3 δ4 fp4 o a _ _ e4 b4 r4 h4 fun a' δ5 h5 Hm5 H5 fp5 o5 s5 e5 b5 r5 => ?_
          have s25 := (s24.trans s5).upd_new nq o5
          refine ⟨a', o5, Hm5, _, _, ((e5.off b5.msk b5.off).back w3), h5, ⟨upd_same, b5.msk, fun j hj => b5.off j (clrF_sub vs fp5 j hj)⟩, r5, s25.trans (step_clr ..), fun i hi => slot_clr vs _ hi, z0.step e0 s25⟩
        | false => exact ⟨a, o, Hm4, _, _, e4.back w3, h4, b4.clr vs, r4, s24.trans (step_clr ..), fun i hi => slot_clr vs _ hi, z0.step e0 s24⟩
theorem compCore {K : PySem.W.Frag} {zc : Option (Addr × HO)} {rd : Hp → HO → α → Prop} {st : Addr → L2.St → Hp → (Hp → Prop) → Prop} {sd : α → Env → (α → Env → Prop) → Prop} {a0 : α} {out : α → D} {o0 : HO} {vs : List Nat} {Hm0 H0 : Hp} {σ : L2.St} {δ0 : Env} {fp0 : Fp} {ds : List D} {J : It} {P : D → Env → Prop} {Q : VK} {q : Addr}
    (ok : IntoOk K rd st sd) (r0 : ∀ Hm, rd Hm o0 a0) (mono : ∀ {Hm Hm' o a}, Same Hm Hm' → rd Hm o a → rd Hm' o a) (fin : ∀ {Hm q o a}, rd Hm o a → Dq K (upd Hm q o) (.ref q) (out a) ∨ ∃ u, Hm q = some u) (nd : vs.Nodup)
    (e0 : EnvOk K Hm0 H0 σ δ0 fp0) (h0 : cL t FB sd vs (fun a δ2 => P (out a) (rst vs δ0 δ2)) ds a0 (clr vs δ0)) (it : ItOk K Hm0 zc J ds) (z0 : Zh zc Hm0 H0) (nq : H0 q = none)
    (hP : ∀ d δ', P d δ' → ∀ v Hm' H' fp', Step Hm0 H0 fp0 Hm' H' fp' → EnvOk K Hm' H' σ δ' fp' → Zh zc Hm' H' → Dq K Hm' v d → Q v H') :
    ∃ W : Nat → Nat → Hp → Prop, (∃ m, W 0 m (upd H0 q o0)) ∧ ∀ i m H, W i m H → (J.stop i H ∧ Q (.ref q) H) ∨ (J.go i H ∧ ∃ Nx : Hp → Prop, (∀ H', Nx H' → ∃ m', m' < m ∧ W (i + 1) m' H') ∧ ∀ x H', J.yld i H x H' → tgD K (fun i => i ∉ vs) t x (wipe σ vs) H' fun σ2 H2 => wipe σ2 vs = wipe σ vs ∧ tT K E0 FB σ2 H2 fun b H3 => if b = true then st q σ2 H3 Nx else Nx H3) :=
  compCore0 (ok q) r0 mono nd e0 h0 it z0 nq fun a δ' h o Hm' H' fp' s e b r z => by
    refine hP _ _ h _ _ _ _ (s.seal nq e0.sub o) (e.seal b) (fun d u y => ?_) ?_
    · obtain ⟨x, o', y'⟩ := z d u y
      exact ⟨x, o', same_upd b.msk _ _ y'⟩
    · rcases fin (q := q) r with y | ⟨u, y⟩
      · exact y
      · rw [b.msk] at y; cases y
theorem m_comp {rd : Hp → HO → α → Prop} {st : Addr → L2.St → Hp → (Hp → Prop) → Prop} {sd : α → Env → (α → Env → Prop) → Prop} {a0 : α} {out : α → D} {o0 : HO} {vs : List Nat}
    (h : PE X e (tC (tI X.K E FI) (tgD X.K (fun i => i ∉ vs) t) (tT X.K E0 FB) st o0 vs)) (ok : IntoOk X.K rd st sd) (r0 : ∀ Hm, rd Hm o0 a0) (mono : ∀ {Hm Hm' o a}, Same Hm Hm' → rd Hm o a → rd Hm' o a)
    (fin : ∀ {Hm q o a}, rd Hm o a → Dq X.K (upd Hm q o) (.ref q) (out a) ∨ ∃ u, Hm q = some u) (nd : vs.Nodup) : PE X e (tE X.K E (cW FI t FB sd a0 out vs)) := peI h fun σ H Q ⟨Hm, δ, fp, P, R, env, hF, hP, hR⟩ => by
  refine ⟨Hm, δ, fp, _, R, env, hF, fun ds δ0 h0 J Hm0 H0 fp0 s0 e0 it => fun q nq => compCore ok r0 mono fin nd e0 h0 it .none nq fun d δ' h v Hm' H' fp' s e _ dv => hP d δ' h v Hm' H' fp' (s0.trans s) e dv, hR⟩
def tC2 (wi : TI) (g : TG) (tt : TT) (wi1 : TI) (g1 : TG) (tt1 : TT) (st : Addr → L2.St → Hp → (Hp → Prop) → Prop) (o0 : HO) (vs vs1 : List Nat) : TE := fun σ H Q => wi σ H fun J H1 => ∀ D, H1 D = none → ∃ W : Nat → Nat → Hp → Prop, (∃ m, W 0 m (upd H1 D o0)) ∧ ∀ i m H, W i m H →
  (J.stop i H ∧ Q (.ref D) H) ∨ (J.go i H ∧ ∃ Nx : Hp → Prop, (∀ H', Nx H' → ∃ m', m' < m ∧ W (i + 1) m' H') ∧ ∀ x H', J.yld i H x H' → g x (wipe σ vs) H' fun σ2 H2 => wipe σ2 vs = wipe σ vs ∧ tt σ2 H2 fun b H3 =>
    if b = true then wi1 σ2 H3 fun J1 H4 => ∃ W1 : Nat → Nat → Hp → Prop, (∃ m, W1 0 m H4) ∧ ∀ j k H, W1 j k H →
      (J1.stop j H ∧ Nx H) ∨ (J1.go j H ∧ ∃ Nx1 : Hp → Prop, (∀ H', Nx1 H' → ∃ k', k' < k ∧ W1 (j + 1) k' H') ∧ ∀ x H', J1.yld j H x H' → g1 x (wipe σ2 vs1) H' fun σ3 H5 => wipe σ3 vs1 = wipe σ2 vs1 ∧ tt1 σ3 H5 fun b H6 =>
        if b = true then st D σ3 H6 Nx1 else Nx1 H6)
    else Nx H3)
def cI {α : Type} (t : T) (tt : W Bool) (sd : α → Env → (α → Env → Prop) → Prop) (vs : List Nat) (P : α → Env → Prop) : List D → α → Env → Prop
  | [], a, δ => P a δ
  | d :: r, a, δ => t d δ fun δ1 => tt δ1 (fun b δ2 => if b = true then sd a δ2 fun a' δ3 => cI t tt sd vs P r a' (clr vs δ3) else cI t tt sd vs P r a (clr vs δ2)) noR
def cL2 {α : Type} (t : T) (tt : W Bool) (FI1 : W (List D)) (t1 : T) (tt1 : W Bool) (sd : α → Env → (α → Env → Prop) → Prop) (vs vs1 : List Nat) (P : α → Env → Prop) : List D → α → Env → Prop
  | [], a, δ => P a (clr vs δ)
  | d :: r, a, δ => t d δ fun δ1 => tt δ1 (fun b δ2 => if b = true then FI1 δ2 (fun ds1 δ3 => cI t1 tt1 sd vs1 (fun a' δ4 => cL2 t tt FI1 t1 tt1 sd vs vs1 P r a' (clr vs δ4)) ds1 a (clr vs1 δ3)) noR else cL2 t tt FI1 t1 tt1 sd vs vs1 P r a (clr vs δ2)) noR
def cW2 {α : Type} (FI : W (List D)) (t : T) (tt : W Bool) (FI1 : W (List D)) (t1 : T) (tt1 : W Bool) (sd : α → Env → (α → Env → Prop) → Prop) (a0 : α) (out : α → D) (vs vs1 : List Nat) : W D := fun δ P R => FI δ (fun ds δ1 => cL2 t tt FI1 t1 tt1 sd vs vs1 (fun a δ2 => P (out a) (rst vs δ1 δ2)) ds a0 (clr vs δ1)) R
theorem wipe_sub {σ2 σ : L2.St} {vs vs1 : List Nat} (h : ∀ i ∈ vs1, i ∈ vs) (w : wipe σ2 vs = wipe σ vs) : wipe (wipe σ2 vs1) vs = wipe σ vs := by
  rw [← w]
  apply List.ext_getElem?
  intro i
  by_cases z : i ∈ vs
  · rw [wipe_in z, wipe_in z, wipe_length]
  · rw [wipe_out z, wipe_out z, wipe_out fun m => z (h i m)]
theorem m_comp2 {FI1 : W (List D)} {t1 : T} {FB1 : W Bool} {rd : Hp → HO → α → Prop} {st : Addr → L2.St → Hp → (Hp → Prop) → Prop} {sd : α → Env → (α → Env → Prop) → Prop} {a0 : α} {out : α → D} {o0 : HO} {vs vs1 : List Nat}
    (h : PE X e (tC2 (tI X.K E FI) (tgD X.K (fun i => i ∉ vs) t) (tT X.K E0 FB) (tI X.K E0 FI1) (tgD X.K (fun i => i ∉ vs1) t1) (tT X.K E0 FB1) st o0 vs vs1)) (ok : IntoOk X.K rd st sd) (r0 : ∀ Hm, rd Hm o0 a0) (mono : ∀ {Hm Hm' o a}, Same Hm Hm' → rd Hm o a → rd Hm' o a)
    (fin : ∀ {Hm q o a}, rd Hm o a → Dq X.K (upd Hm q o) (.ref q) (out a) ∨ ∃ u, Hm q = some u) (nd : vs.Nodup) (sb : ∀ i ∈ vs1, i ∈ vs) : PE X e (tE X.K E (cW2 FI t FB FI1 t1 FB1 sd a0 out vs vs1)) := peI h fun σ H Q ⟨Hm, δ, fp, P, R, env, hF, hP, hR⟩ => by
  refine ⟨Hm, δ, fp, _, R, env, hF, fun ds δ0 h0 J Hm0 H0 fp0 s0 e0 it => fun q nq => ?_, hR⟩
  obtain ⟨n0, b0, t0⟩ := e0.beside nq o0
  refine ⟨fun i m H' => m = ds.length - i ∧ i ≤ ds.length ∧ ∃ a o Hm' δ' fp', EnvOk X.K Hm' H' (wipe σ vs) δ' fp' ∧ cL2 t FB FI1 t1 FB1 sd vs vs1 (fun a δ2 => P (out a) (rst vs δ0 δ2)) (ds.drop i) a δ' ∧ Beside X.K q Hm' H' fp' o ∧ rd Hm' o a ∧ Step Hm0 H0 fp0 Hm' H' fp' ∧ (∀ i, i ∈ vs → slot δ' i = .no), ?_, ?_⟩
  · exact ⟨_, rfl, Nat.zero_le _, a0, o0, Hm0, _, _, n0.wiped, h0, b0.clr vs, r0 _, t0.trans (step_clr ..), fun i hi => slot_clr vs _ hi⟩
  · rintro i m H1 ⟨rfl, il, a, o, Hm1, δ1, fp1, e1, h1, b1, r1, s1, c1⟩
    obtain ⟨stop, go⟩ := it i Hm1 H1 s1.mask e1.sub .none
    by_cases z : ds.length ≤ i
    · left
      rw [List.drop_eq_nil_iff.mpr z] at h1
      refine ⟨stop z, ?_⟩
      have e2 : EnvOk X.K Hm1 H1 σ (clr vs δ1) (clrF vs fp1) := e1.unwiped
      have b2 := b1.clr vs
      have e3 := e2.seal b2
      have s2 := (s1.trans (step_clr Hm1 H1 vs fp1)).seal nq e0.sub o
      have e4 := EnvOk.rst (δ0 := δ0) (σ := σ) (Hm := upd Hm1 q o) (H := H1) (fun i d hd => by
        obtain ⟨v, a, b⟩ := e0.sh i d hd
        exact ⟨v, a, b.le (.of s2.mask)⟩) vs nd e3 fun i hi => slot_clr vs _ hi
      refine hP _ _ h1 _ _ _ _ (s0.trans s2) e4 ?_
      rcases fin (q := q) r1 with y | ⟨u, y⟩
      · exact y
      · rw [b1.msk] at y; cases y
    · right
      have z : i < ds.length := Nat.lt_of_not_le z
      obtain ⟨g, y⟩ := go ds[i] (List.getElem?_eq_getElem z)
      rw [List.drop_eq_getElem_cons z] at h1
      refine ⟨g, fun H' => ∃ a o Hm' δ' fp', EnvOk X.K Hm' H' (wipe σ vs) δ' fp' ∧ cL2 t FB FI1 t1 FB1 sd vs vs1 (fun a δ2 => P (out a) (rst vs δ0 δ2)) (ds.drop (i + 1)) a δ' ∧ Beside X.K q Hm' H' fp' o ∧ rd Hm' o a ∧ Step Hm0 H0 fp0 Hm' H' fp' ∧ (∀ i, i ∈ vs → slot δ' i = .no), fun H' w => ⟨_, ?_, rfl, z, w⟩, fun x H2 yx => ?_⟩
      · omega
      · obtain ⟨Hm2, n, dx⟩ := y x H2 yx
        have e2 := e1.new n
        have b2 := b1.step (n.step fp1)
        have s2 := s1.trans (n.step fp1)
        refine ⟨Hm2, _, _, _, _, e2, dx, h1, fun δ3 h3 σ3 fp3 s3 e3 p3 => ?_⟩
        have w3 := wipe_pins p3
        have b3 := b2.step s3
        have s23 := s2.trans s3
        refine ⟨w3, Hm2, δ3, fp3, _, noR, e3, h3, fun c δ4 h4 v Hm4 H4 fp4 s4 e4 dv => ?_, fun e h => h.elim⟩
        have dv : v = c := dv
        subst dv
        have b4 := b3.step s4
        have s24 := s23.trans s4
        have r4 := mono s4.mask (mono s3.mask (mono n.mask r1))
        cases v with
        | false => exact ⟨a, o, Hm4, _, _, e4.back w3, h4, b4.clr vs, r4, s24.trans (step_clr ..), fun i hi => slot_clr vs _ hi⟩
        | true =>
          refine ⟨Hm4, δ4, fp4, _, noR, e4, h4, fun ds1 δ5 h5 J1 Hm5 H5 fp5 s5 e5 it1 => ?_, fun e h => h.elim⟩
          have b5 := b4.step s5
          have s25 := s24.trans s5
          have r5 := mono s5.mask r4
          refine ⟨fun j k H' => k = ds1.length - j ∧ j ≤ ds1.length ∧ ∃ a o Hm' δ' fp', EnvOk X.K Hm' H' (wipe σ3 vs1) δ' fp' ∧ cI t1 FB1 sd vs1 (fun a' δ4 => cL2 t FB FI1 t1 FB1 sd vs vs1 (fun a δ2 => P (out a) (rst vs δ0 δ2)) (ds.drop (i + 1)) a' (clr vs δ4)) (ds1.drop j) a δ' ∧ Beside X.K q Hm' H' fp' o ∧ rd Hm' o a ∧ Step Hm0 H0 fp0 Hm' H' fp' ∧ Same Hm5 Hm', ⟨_, rfl, Nat.zero_le _, a, o, Hm5, _, _, e5.wiped, h5, b5.clr vs1, r5, s25.trans (step_clr ..), Same.refl _⟩, ?_⟩
          rintro j k H6 ⟨rfl, jl, a6, o6, Hm6, δ6, fp6, e6, h6, b6, r6, s6, m6⟩
          obtain ⟨stop1, go1⟩ := it1 j Hm6 H6 m6 e6.sub .none
          by_cases z1 : ds1.length ≤ j
          · left
            rw [List.drop_eq_nil_iff.mpr z1] at h6
            exact ⟨stop1 z1, a6, o6, Hm6, _, _, e6.back (wipe_sub sb w3), h6, b6.clr vs, r6, s6.trans (step_clr ..), fun i hi => slot_clr vs _ hi⟩
          · right
            have z1 : j < ds1.length := Nat.lt_of_not_le z1
            obtain ⟨g1, y1⟩ := go1 ds1[j] (List.getElem?_eq_getElem z1)
            rw [List.drop_eq_getElem_cons z1] at h6
            refine ⟨g1, fun H' => ∃ a o Hm' δ' fp', EnvOk X.K Hm' H' (wipe σ3 vs1) δ' fp' ∧ cI t1 FB1 sd vs1 (fun a' δ4 => cL2 t FB FI1 t1 FB1 sd vs vs1 (fun a δ2 => P (out a) (rst vs δ0 δ2)) (ds.drop (i + 1)) a' (clr vs δ4)) (ds1.drop (j + 1)) a δ' ∧ Beside X.K q Hm' H' fp' o ∧ rd Hm' o a ∧ Step Hm0 H0 fp0 Hm' H' fp' ∧ Same Hm5 Hm', fun H' w => ⟨_, ?_, rfl, z1, w⟩, fun x1 H7 yx1 => ?_⟩
            · omega
            · obtain ⟨Hm7, n7, dx7⟩ := y1 x1 H7 yx1
              have e7 := e6.new n7
              have b7 := b6.step (n7.step fp6)
              have s7 := s6.trans (n7.step fp6)
              refine ⟨Hm7, _, _, _, _, e7, dx7, h6, fun δ8 h8 σ8 fp8 s8 e8 p8 => ?_⟩
              have w8 := wipe_pins p8
              have b8 := b7.step s8
              have s78 := s7.trans s8
              refine ⟨w8, Hm7, δ8, fp8, _, noR, e8, h8, fun c δ9 h9 v Hm9 H9 fp9 s9 e9 dv => ?_, fun e h => h.elim⟩
              have dv : v = c := dv
              subst dv
              have b9 := b8.step s9
              have s79 := s78.trans s9
              have mm := n7.mask.trans (s8.mask.trans s9.mask)
              have r9 := mono mm r6
              cases v with
              | true =>
                refine ok q Hm9 H9 σ8 δ9 fp9 o6 a6 _ _ e9 b9 r9 h9 fun a' δA hA HmA HA fpA oA sA eA bA rA => ?_
                exact ⟨a', oA, HmA, _, _, ((eA.off bA.msk bA.off).back w8), hA, ⟨upd_same, bA.msk, fun j hj => bA.off j (clrF_sub vs1 fpA j hj)⟩, rA, ((s79.trans sA).upd_new nq oA).trans (step_clr ..), m6.trans (mm.trans sA.mask)⟩
              | false => exact ⟨a6, o6, Hm9, _, _, e9.back w8, h9, b9.clr vs1, r9, s79.trans (step_clr ..), m6.trans mm⟩
end
/-! ### lists, dicts -/
def sL (F : W D) : List D → Env → (List D → Env → Prop) → Prop := fun acc δ N => F δ (fun y δ' => acc.length < sizeLine ∧ N (acc ++ [y]) δ') noR
section
variable {κ : Type} [DecidableEq κ]
def vD (kvs : List (κ × D)) (k : κ) : Option D := (kvs.find? fun kv => decide (kv.1 = k)).map (·.2)
def pD (kvs : List (κ × D)) (k : κ) (v : D) : List (κ × D) := if (kvs.any fun kv => decide (kv.1 = k)) = true then kvs.map (fun kv => if kv.1 = k then (kv.1, v) else kv) else kvs ++ [(k, v)]
variable {K : PySem.W.Frag} {H : Hp}
theorem DqP.val (k : κ) : ∀ {xs : List (κ × V)} {ds : List (κ × D)}, DqP K H xs ds → (valV xs k = none ∧ vD ds k = none) ∨ ∃ v d, valV xs k = some v ∧ vD ds k = some d ∧ Dq K H v d
  | _, _, .nil => .inl ⟨rfl, rfl⟩
  | _, _, .cons (k := k') (v := v) (d := d) (vs := vs) (ds := ds) h hs => by
    unfold valV vD
    rw [List.find?_cons, List.find?_cons]
    by_cases z : k' = k
    · rw [decide_eq_true z]
      exact .inr ⟨v, d, rfl, rfl, h⟩
    · rw [decide_eq_false z]
      exact DqP.val k hs
theorem DqP.app : ∀ {xs ys : List (κ × V)} {ds es : List (κ × D)}, DqP K H xs ds → DqP K H ys es → DqP K H (xs ++ ys) (ds ++ es)
  | _, _, _, _, .nil, g => g
  | _, _, _, _, .cons h hs, g => .cons h (hs.app g)
theorem DqP.mapK (k : κ) {v : V} {d : D} (g : Dq K H v d) : ∀ {xs : List (κ × V)} {ds : List (κ × D)}, DqP K H xs ds → DqP K H (xs.map fun kv => if kv.1 = k then (kv.1, v) else kv) (ds.map fun kv => if kv.1 = k then (kv.1, d) else kv)
  | _, _, .nil => .nil
  | _, _, .cons (k := k') (v := v') (d := d') (vs := vs) (ds := ds) h hs => by
    show DqP K H ((if k' = k then (k', v) else (k', v')) :: _) ((if k' = k then (k', d) else (k', d')) :: _)
    by_cases z : k' = k
    · rw [if_pos z, if_pos z]; exact .cons g (DqP.mapK k g hs)
    · rw [if_neg z, if_neg z]; exact .cons h (DqP.mapK k g hs)
theorem DqP.putD (k : κ) {v : V} {d : D} (g : Dq K H v d) {xs : List (κ × V)} {ds : List (κ × D)} (h : DqP K H xs ds) : DqP K H (putK xs k v) (pD ds k d) := by
  have ha : ∀ {xs : List (κ × V)} {ds : List (κ × D)}, DqP K H xs ds → (xs.any fun kv => decide (kv.1 = k)) = ds.any fun kv => decide (kv.1 = k) := fun {xs ds} h => by
    have e := congrArg (fun l => l.any fun x => decide (x = k)) h.keys
    simp only [List.any_map] at e
    exact e
  unfold putK pD
  rw [ha h]
  split
  · exact h.mapK k g
  · exact h.app (.cons g .nil)
end
/-- a key: an int, a text -/
def keyD : D → (Key → Prop) → Prop
  | .int i, P => P (.inl i)
  | .str z, P => P (.inr z)
  | _, _ => False
theorem of_key {K : PySem.W.Frag} {Hm : Hp} {v : V} {d : D} {P : Key → Prop} (h : Dq K Hm v d) (q : keyD d P) : ∃ k, v = kV k ∧ P k := by
  cases h with
  | int i => exact ⟨.inl i, rfl, q⟩
  | str z => exact ⟨.inr z, rfl, q⟩
  | _ => exact q.elim
def sD (Fk Fv : W D) : List (Key × D) → Env → (List (Key × D) → Env → Prop) → Prop := fun acc δ N => Fk δ (fun x δ1 => keyD x fun k => Fv δ1 (fun y δ2 => acc.length < sizeLine ∧ N (pD acc k y) δ2) noR) noR
theorem sL_ok {K : PySem.W.Frag} {F : W D} : IntoOk K (fun Hm o acc => ∃ xs, o = .lst xs ∧ DqL K Hm xs acc) (fun D σ H N => tE K E0 F σ H fun y H4 => ∃ acc, H4 D = some (.lst acc) ∧ acc.length < sizeLine ∧ N (upd H4 D (.lst (acc ++ [y])))) (sL F) := by
  rintro q Hm H σ δ fp o acc N N' env b ⟨xs, rfl, hx⟩ hs k
  refine ⟨Hm, δ, fp, _, noR, env, hs, fun y δ' h v Hm' H' fp' s e dv => ⟨xs, (b.step s).at_, by rw [hx.len]; exact h.1, k _ _ h.2 Hm' H' fp' _ s e (b.step s) ⟨_, rfl, (hx.le (.of s.mask)).app (.cons dv .nil)⟩⟩, fun e h => h.elim⟩
theorem sD_ok {K : PySem.W.Frag} {Fk Fv : W D} : IntoOk K (fun Hm o acc => ∃ xs, o = .dK xs ∧ DqP K Hm xs acc) (fun D σ H N => tE K E0 Fk σ H fun y H4 => tE K E0 Fv σ H4 fun z H5 => ∃ kvs k, y = kV k ∧ H5 D = some (.dK kvs) ∧ kvs.length < sizeLine ∧ N (upd H5 D (.dK (putK kvs k z)))) (sD Fk Fv) := by
  rintro q Hm H σ δ fp o acc N N' env b ⟨xs, rfl, hx⟩ hs k
  refine ⟨Hm, δ, fp, _, noR, env, hs, fun x δ' h v Hm' H' fp' s e dv => ?_, fun e h => h.elim⟩
  obtain ⟨ky, rfl, h⟩ := of_key dv h
  refine ⟨Hm', δ', fp', _, noR, e, h, fun y δ2 h2 v2 Hm2 H2 fp2 s2 e2 dv2 => ?_, fun e h => h.elim⟩
  have s12 := s.trans s2
  exact ⟨xs, ky, rfl, (b.step s12).at_, by rw [hx.len]; exact h2.1, k _ _ h2.2 Hm2 H2 fp2 _ s12 e2 (b.step s12) ⟨_, rfl, (hx.le (.of s12.mask)).putD ky dv2⟩⟩
def lcW (FI : W (List D)) (t : T) (tt : W Bool) (F : W D) (vs : List Nat) : W D := cW FI t tt (sL F) [] .lst vs
def dcW (FI : W (List D)) (t : T) (tt : W Bool) (Fk Fv : W D) (vs : List Nat) : W D := cW FI t tt (sD Fk Fv) [] .dic vs
def lc2W (FI : W (List D)) (t : T) (tt : W Bool) (FI1 : W (List D)) (t1 : T) (tt1 : W Bool) (F : W D) (vs vs1 : List Nat) : W D := cW2 FI t tt FI1 t1 tt1 (sL F) [] .lst vs vs1
def dc2W (FI : W (List D)) (t : T) (tt : W Bool) (FI1 : W (List D)) (t1 : T) (tt1 : W Bool) (Fk Fv : W D) (vs vs1 : List Nat) : W D := cW2 FI t tt FI1 t1 tt1 (sD Fk Fv) [] .dic vs vs1
theorem fin_lst {K : PySem.W.Frag} {Hm : Hp} {q : Addr} {o : HO} {a : List D} (h : ∃ xs, o = .lst xs ∧ DqL K Hm xs a) : Dq K (upd Hm q o) (.ref q) (.lst a) ∨ ∃ u, Hm q = some u := by
  obtain ⟨xs, rfl, h⟩ := h
  cases z : Hm q with
  | some u => exact .inr ⟨u, rfl⟩
  | none => exact .inl (.lst upd_same (h.le (.of (same_upd z))))
theorem fin_dic {K : PySem.W.Frag} {Hm : Hp} {q : Addr} {o : HO} {a : List (Key × D)} (h : ∃ xs, o = .dK xs ∧ DqP K Hm xs a) : Dq K (upd Hm q o) (.ref q) (.dic a) ∨ ∃ u, Hm q = some u := by
  obtain ⟨xs, rfl, h⟩ := h
  cases z : Hm q with
  | some u => exact .inr ⟨u, rfl⟩
  | none => exact .inl (.dic (.inl upd_same) (h.le (.of (same_upd z))))
section
variable {X : Cx} {E : XK} {e : Expr} {FI FI1 : W (List D)} {t t1 : T} {FB FB1 : W Bool} {F Fk Fv : W D} {vs vs1 : List Nat}
theorem m_lc (h : PE X e (tLc (tI X.K E FI) (tgD X.K (fun i => i ∉ vs) t) (tT X.K E0 FB) (tE X.K E0 F) vs)) (nd : vs.Nodup) : PE X e (tE X.K E (lcW FI t FB F vs)) :=
  m_comp (o0 := .lst []) h sL_ok (fun _ => ⟨[], rfl, .nil⟩) (fun s ⟨xs, e, h⟩ => ⟨xs, e, h.le (.of s)⟩) fin_lst nd
theorem m_dc (h : PE X e (tDc (tI X.K E FI) (tgD X.K (fun i => i ∉ vs) t) (tT X.K E0 FB) (tE X.K E0 Fk) (tE X.K E0 Fv) vs)) (nd : vs.Nodup) : PE X e (tE X.K E (dcW FI t FB Fk Fv vs)) :=
  m_comp (o0 := .dK []) h sD_ok (fun _ => ⟨[], rfl, .nil⟩) (fun s ⟨xs, e, h⟩ => ⟨xs, e, h.le (.of s)⟩) fin_dic nd
theorem m_lc2 (h : PE X e (tLc2 (tI X.K E FI) (tgD X.K (fun i => i ∉ vs) t) (tT X.K E0 FB) (tI X.K E0 FI1) (tgD X.K (fun i => i ∉ vs1) t1) (tT X.K E0 FB1) (tE X.K E0 F) vs vs1)) (nd : vs.Nodup) (sb : ∀ i ∈ vs1, i ∈ vs) : PE X e (tE X.K E (lc2W FI t FB FI1 t1 FB1 F vs vs1)) :=
  m_comp2 (o0 := .lst []) h sL_ok (fun _ => ⟨[], rfl, .nil⟩) (fun s ⟨xs, e, h⟩ => ⟨xs, e, h.le (.of s)⟩) fin_lst nd sb
theorem m_dc2 (h : PE X e (tDc2 (tI X.K E FI) (tgD X.K (fun i => i ∉ vs) t) (tT X.K E0 FB) (tI X.K E0 FI1) (tgD X.K (fun i => i ∉ vs1) t1) (tT X.K E0 FB1) (tE X.K E0 Fk) (tE X.K E0 Fv) vs vs1)) (nd : vs.Nodup) (sb : ∀ i ∈ vs1, i ∈ vs) : PE X e (tE X.K E (dc2W FI t FB FI1 t1 FB1 Fk Fv vs vs1)) :=
  m_comp2 (o0 := .dK []) h sD_ok (fun _ => ⟨[], rfl, .nil⟩) (fun s ⟨xs, e, h⟩ => ⟨xs, e, h.le (.of s)⟩) fin_dic nd sb
theorem ptsI {es : List Expr} {t t' : TT} (h : PTs X es t) (m : ∀ σ H Q, t' σ H Q → t σ H Q) : PTs X es t' := ⟨fun pins s σ H Q I q => h.run pins s σ H Q I (m σ H Q q)⟩
theorem m_yes {es : List Expr} (h : PTs X es tYes) : PTs X es (tT X.K E (ret true)) := ptsI h fun σ H Q ⟨Hm, δ, fp, P, R, env, hF, hP, hR⟩ => hP true δ hF true Hm H fp (.refl ..) env rfl
end
end DN
set_option Elab.async false
set_option linter.all false
set_option maxRecDepth 100000
set_option maxHeartbeats 4000000
/-! what is walked -/
namespace DN
open PySem PySem.Spec PyProof.Rows L2
theorem piI {X : Cx} {tg e : Expr} {t t' : TI} (h : PI X tg e t) (m : ∀ σ H R, t' σ H R → t σ H R) : PI X tg e t' := ⟨fun pins s σ H R I q => h.run pins s σ H R I (m σ H R q)⟩
def isL : D → (List D → Prop) → Prop
  | .lst ds, P => P ds
  | _, _ => False
def isT : D → (List D → Prop) → Prop
  | .tup ds, P => P ds
  | _, _ => False
def isS : D → (Str → Prop) → Prop
  | .str z, P => P z
  | _, _ => False
def isI : D → (Int → Prop) → Prop
  | .int i, P => P i
  | _, _ => False
section
variable {K : PySem.W.Frag} {Hm : Hp} {v : V} {d : D}
theorem rd_L {P : List D → Prop} (h : Dq K Hm v d) (q : isL d P) : ∃ a xs ds, v = .ref a ∧ d = .lst ds ∧ Hm a = some (.lst xs) ∧ DqL K Hm xs ds ∧ P ds := by
  cases h with
  | lst a b => exact ⟨_, _, _, rfl, rfl, a, b, q⟩
  | _ => exact q.elim
theorem rd_T {P : List D → Prop} (h : Dq K Hm v d) (q : isT d P) : ∃ a xs ds, v = .ref a ∧ d = .tup ds ∧ SqT K Hm a xs ∧ DqL K Hm xs ds ∧ P ds := by
  cases h with
  | tup a b => exact ⟨_, _, _, rfl, rfl, a, b, q⟩
  | _ => exact q.elim
theorem rd_S {P : Str → Prop} (h : Dq K Hm v d) (q : isS d P) : ∃ z, v = .str z ∧ d = .str z ∧ P z := by
  cases h with
  | str z => exact ⟨z, rfl, rfl, q⟩
  | _ => exact q.elim
theorem rd_I {P : Int → Prop} (h : Dq K Hm v d) (q : isI d P) : ∃ z, v = .int z ∧ d = .int z ∧ P z := by
  cases h with
  | int z => exact ⟨z, rfl, rfl, q⟩
  | _ => exact q.elim
end
def itL (F : W D) : W (List D) := fun δ P R => F δ (fun d δ1 => isL d fun ds => P ds δ1) R
def itT (F : W D) : W (List D) := fun δ P R => F δ (fun d δ1 => isT d fun ds => P ds δ1) R
def chs (z : Str) : List D := z.cps.toList.map fun c => .str ⟨#[c]⟩
def itS (F : W D) : W (List D) := fun δ P R => F δ (fun d δ1 => isS d fun z => P (chs z) δ1) R
def rngD (lo : Int) (n : Nat) : List D := (List.range n).map fun i => .int (lo + (i : Nat))
def itR1 (F : W (List D)) : W (List D) := fun δ P R => F δ (fun ds δ1 => match ds with
  | [.int j] => (-(2 ^ 62) ≤ j ∧ j < 2 ^ 62) ∧ P (rngD 0 j.toNat) δ1
  | _ => False) R
def itR2 (F : W (List D)) : W (List D) := fun δ P R => F δ (fun ds δ1 => match ds with
  | [.int i, .int j] => (-(2 ^ 62) ≤ i ∧ i < 2 ^ 62 ∧ -(2 ^ 62) ≤ j ∧ j < 2 ^ 62) ∧ P (rngD i (j - i).toNat) δ1
  | _ => False) R
def enumD : Nat → List D → List D
  | _, [] => []
  | i, d :: r => .tup [.int (i : Nat), d] :: enumD (i + 1) r
theorem enumD_get : ∀ (k : Nat) (ds : List D) (i : Nat), (enumD k ds)[i]? = ds[i]?.map fun d => D.tup [.int ((k + i : Nat) : Int), d]
  | _, [], i => rfl
  | k, d :: r, 0 => rfl
  | k, d :: r, i + 1 => by
    show (enumD (k + 1) r)[i]? = r[i]?.map _
    rw [enumD_get (k + 1) r i, show k + 1 + i = k + (i + 1) by omega]
theorem enumD_len : ∀ (k : Nat) (ds : List D), (enumD k ds).length = ds.length
  | _, [] => rfl
  | k, d :: r => congrArg Nat.succ (enumD_len (k + 1) r)
def itE (f : D → (List D → Prop) → Prop) (F : W (List D)) : W (List D) := fun δ P R => F δ (fun ds δ1 => match ds with
  | [d] => f d fun xs => P (enumD 0 xs) δ1
  | _ => False) R
def zipD : List D → List D → List D
  | x :: xs, y :: ys => .tup [x, y] :: zipD xs ys
  | _, _ => []
theorem zipD_get : ∀ (xs ys : List D) (i : Nat) (d : D), (zipD xs ys)[i]? = some d → ∃ x y, xs[i]? = some x ∧ ys[i]? = some y ∧ d = .tup [x, y]
  | x :: xs, y :: ys, 0, d, h => ⟨x, y, rfl, rfl, by cases h; rfl⟩
  | x :: xs, y :: ys, i + 1, d, h => zipD_get xs ys i d h
theorem zipD_len : ∀ (xs ys : List D), (zipD xs ys).length = min xs.length ys.length
  | [], _ => by simp [zipD]
  | _ :: _, [] => by simp [zipD]
  | x :: xs, y :: ys => by
    show (zipD xs ys).length + 1 = min (xs.length + 1) (ys.length + 1)
    rw [zipD_len xs ys]
    omega
def itZ (f g : D → (List D → Prop) → Prop) (F : W (List D)) : W (List D) := fun δ P R => F δ (fun ds δ1 => match ds with
  | [d, e] => f d fun xs => g e fun ys => P (zipD xs ys) δ1
  | _ => False) R
section
variable {X : Cx} {E : XK} {tg e : Expr} {F : W D} {FL : W (List D)}
theorem get_none {α : Type} {xs : List α} {i : Nat} (h : xs.length ≤ i) : xs[i]? = none := List.getElem?_eq_none h
theorem i_list (h : PI X tg e (iList X.K (tE X.K E F))) : PI X tg e (tI X.K E (itL F)) := piI h fun σ H Rr ⟨Hm, δ, fp, P, R, env, hF, hP, hR⟩ =>
  ⟨Hm, δ, fp, _, R, env, hF, fun d δ1 h1 v Hm1 H1 fp1 s1 e1 dv => by
    obtain ⟨a, xs, ds, rfl, rfl, hs, hx, h1⟩ := rd_L dv h1
    refine ⟨a, rfl, ⟨xs, e1.sub.seq (SqL.of hs)⟩, hP _ _ h1 _ Hm1 H1 fp1 s1 e1 fun i Hm2 H2 sm l _ => ?_⟩
    have hs2 : SqL X.K H2 a xs := l.seq ((Le.of sm).seq (SqL.of hs))
    refine ⟨fun z => ⟨xs, hs2, by rw [hx.len]; exact z⟩, fun d hd => ?_⟩
    obtain ⟨x, ex, dx⟩ := hx.get' hd
    exact ⟨⟨xs, x, hs2, ex⟩, fun y H' ⟨eh, ey⟩ => by
      subst eh
      have := ey xs hs2
      rw [ex] at this
      cases this
      exact ⟨Hm2, .refl l, dx.le (.of sm)⟩⟩, hR⟩
theorem i_tup (h : PI X tg e (iTup X.K (tE X.K E F))) : PI X tg e (tI X.K E (itT F)) := piI h fun σ H Rr ⟨Hm, δ, fp, P, R, env, hF, hP, hR⟩ =>
  ⟨Hm, δ, fp, _, R, env, hF, fun d δ1 h1 v Hm1 H1 fp1 s1 e1 dv => by
    obtain ⟨a, xs, ds, rfl, rfl, hs, hx, h1⟩ := rd_T dv h1
    refine ⟨a, rfl, ⟨xs, e1.sub.seqT hs⟩, hP _ _ h1 _ Hm1 H1 fp1 s1 e1 fun i Hm2 H2 sm l _ => ?_⟩
    have hs2 := l.seqT ((Le.of sm).seqT hs)
    refine ⟨fun z => ⟨xs, hs2, by rw [hx.len]; exact z⟩, fun d hd => ?_⟩
    obtain ⟨x, ex, dx⟩ := hx.get' hd
    exact ⟨⟨xs, x, hs2, ex⟩, fun y H' ⟨eh, ey⟩ => by
      subst eh
      have := ey xs hs2
      rw [ex] at this
      cases this
      exact ⟨Hm2, .refl l, dx.le (.of sm)⟩⟩, hR⟩
theorem i_str (h : PI X tg e (iStr (tE X.K E F))) : PI X tg e (tI X.K E (itS F)) := piI h fun σ H Rr ⟨Hm, δ, fp, P, R, env, hF, hP, hR⟩ =>
  ⟨Hm, δ, fp, _, R, env, hF, fun d δ1 h1 v Hm1 H1 fp1 s1 e1 dv => by
    obtain ⟨z, rfl, rfl, h1⟩ := rd_S dv h1
    refine ⟨z, rfl, hP _ _ h1 _ Hm1 H1 fp1 s1 e1 fun i Hm2 H2 sm l _ => ?_⟩
    refine ⟨fun k => ?_, fun d hd => ?_⟩
    · unfold chs at k
      rw [List.length_map, Array.length_toList] at k
      exact k
    · unfold chs at hd
      rw [List.getElem?_map] at hd
      cases q : z.cps.toList[i]? with
      | none => rw [q] at hd; cases hd
      | some c =>
        rw [q] at hd
        cases hd
        have ec : z.cps[i]? = some c := by rw [← Array.getElem?_toList]; exact q
        have il : i < z.cps.size := (Array.getElem?_eq_some_iff.mp ec).1
        exact ⟨il, fun y H' ⟨eh, c', ec', ey⟩ => by
          subst eh ey
          rw [ec] at ec'
          cases ec'
          exact ⟨Hm2, .refl l, .str _⟩⟩, hR⟩
theorem rng_ok {K : PySem.W.Frag} {Hm0 : Hp} {lo : Int} {n : Nat} : ItOk K Hm0 none (Itr lo n) (rngD lo n) := fun i Hm2 H2 sm l _ => by
  refine ⟨fun k => ?_, fun d hd => ?_⟩
  · unfold rngD at k
    rw [List.length_map, List.length_range] at k
    exact k
  · unfold rngD at hd
    rw [List.getElem?_map] at hd
    have il : i < n := by
      cases q : (List.range n)[i]? with
      | none => rw [q] at hd; cases hd
      | some c =>
        have := (List.getElem?_eq_some_iff.mp q).1
        rwa [List.length_range] at this
    rw [List.getElem?_range il] at hd
    cases hd
    exact ⟨il, fun y H' ⟨eh, ey⟩ => by
      subst eh ey
      exact ⟨Hm2, .refl l, .int _⟩⟩
theorem i_rng1 (h : PI X tg e (iRng1 (tL X.K E FL))) : PI X tg e (tI X.K E (itR1 FL)) := piI h fun σ H Rr ⟨Hm, δ, fp, P, R, env, hF, hP, hR⟩ =>
  ⟨Hm, δ, fp, _, R, env, hF, fun ds δ1 h1 v Hm1 H1 fp1 s1 e1 dv => by
    match ds, dv, h1 with
    | [.int j], .cons (.int _) .nil, h1 => exact ⟨j, rfl, h1.1.1, h1.1.2, hP _ _ h1.2 _ Hm1 H1 fp1 s1 e1 rng_ok⟩, hR⟩
theorem i_rng2 (h : PI X tg e (iRng2 (tL X.K E FL))) : PI X tg e (tI X.K E (itR2 FL)) := piI h fun σ H Rr ⟨Hm, δ, fp, P, R, env, hF, hP, hR⟩ =>
  ⟨Hm, δ, fp, _, R, env, hF, fun ds δ1 h1 v Hm1 H1 fp1 s1 e1 dv => by
    match ds, dv, h1 with
    | [.int i, .int j], .cons (.int _) (.cons (.int _) .nil), h1 => exact ⟨i, j, rfl, h1.1, hP _ _ h1.2 _ Hm1 H1 fp1 s1 e1 rng_ok⟩, hR⟩
theorem enum_at {K : PySem.W.Frag} {Hm2 H2 : Hp} {T : Addr} {i : Nat} {x : V} {d : D} (l : Le Hm2 H2) (n : H2 T = none) (dx : Dq K Hm2 x d) : ∃ Hm', New Hm2 H2 Hm' (upd H2 T (.tup [.int (i : Nat), x])) ∧ Dq K Hm' (.ref T) (.tup [.int (i : Nat), d]) :=
  ⟨_, New.one l n, .tup (.of upd_same) (.cons (.int _) (.cons (dx.le (.of (same_upd (none_of_le l n)))) .nil))⟩
theorem i_enum (h : PI X tg e (iEnum X.K (tL X.K E FL))) : PI X tg e (tI X.K E (itE isL FL)) := piI h fun σ H Rr ⟨Hm, δ, fp, P, R, env, hF, hP, hR⟩ =>
  ⟨Hm, δ, fp, _, R, env, hF, fun ds δ1 h1 v Hm1 H1 fp1 s1 e1 dv => by
    match ds, v, dv, h1 with
    | [d], [v], .cons dv .nil, h1 =>
      obtain ⟨a, xs, ds, rfl, rfl, hs, hx, h1⟩ := rd_L dv h1
      refine ⟨a, xs, rfl, e1.sub.seq (SqL.of hs), hP _ _ h1 _ Hm1 H1 fp1 s1 e1 fun i Hm2 H2 sm l _ => ?_⟩
      have hs2 : SqL X.K H2 a xs := l.seq ((Le.of sm).seq (SqL.of hs))
      refine ⟨fun z => ⟨xs, hs2, by rw [hx.len]; rw [enumD_len] at z; exact z⟩, fun d hd => ?_⟩
      rw [enumD_get] at hd
      cases q : ds[i]? with
      | none => rw [q] at hd; cases hd
      | some d' =>
        rw [q] at hd
        cases hd
        obtain ⟨x, ex, dx⟩ := hx.get' q
        exact ⟨⟨xs, x, hs2, ex⟩, fun y H' ⟨T, x', ey, nT, eh, eq⟩ => by
          subst eh ey
          have := eq xs hs2
          rw [ex] at this
          cases this
          rw [Nat.zero_add]
          exact enum_at l nT (dx.le (.of sm))⟩, hR⟩
theorem i_enumT (h : PI X tg e (ZLT.iEnumT X.K (tL X.K E FL))) : PI X tg e (tI X.K E (itE isT FL)) := piI h fun σ H Rr ⟨Hm, δ, fp, P, R, env, hF, hP, hR⟩ =>
  ⟨Hm, δ, fp, _, R, env, hF, fun ds δ1 h1 v Hm1 H1 fp1 s1 e1 dv => by
    match ds, v, dv, h1 with
    | [d], [v], .cons dv .nil, h1 =>
      obtain ⟨a, xs, ds, rfl, rfl, hs, hx, h1⟩ := rd_T dv h1
      refine ⟨a, xs, rfl, e1.sub.seqT hs, hP _ _ h1 _ Hm1 H1 fp1 s1 e1 fun i Hm2 H2 sm l _ => ?_⟩
      have hs2 := l.seqT ((Le.of sm).seqT hs)
      refine ⟨fun z => ⟨xs, hs2, by rw [hx.len]; rw [enumD_len] at z; exact z⟩, fun d hd => ?_⟩
      rw [enumD_get] at hd
      cases q : ds[i]? with
      | none => rw [q] at hd; cases hd
      | some d' =>
        rw [q] at hd
        cases hd
        obtain ⟨x, ex, dx⟩ := hx.get' q
        exact ⟨⟨xs, x, hs2, ex⟩, fun y H' ⟨T, x', ey, nT, eh, eq⟩ => by
          subst eh ey
          have := eq xs hs2
          rw [ex] at this
          cases this
          rw [Nat.zero_add]
          exact enum_at l nT (dx.le (.of sm))⟩, hR⟩
theorem zip_at {K : PySem.W.Frag} {Hm2 H2 : Hp} {T : Addr} {x y : V} {d d' : D} (l : Le Hm2 H2) (n : H2 T = none) (dx : Dq K Hm2 x d) (dy : Dq K Hm2 y d') : ∃ Hm', New Hm2 H2 Hm' (upd H2 T (.tup [x, y])) ∧ Dq K Hm' (.ref T) (.tup [d, d']) := by
  have s := Le.of (same_upd (o := .tup [x, y]) (none_of_le l n))
  exact ⟨_, New.one l n, .tup (.of upd_same) (.cons (dx.le s) (.cons (dy.le s) .nil))⟩
theorem i_zip (h : PI X tg e (iZip X.K (tL X.K E FL))) : PI X tg e (tI X.K E (itZ isL isL FL)) := piI h fun σ H Rr ⟨Hm, δ, fp, P, R, env, hF, hP, hR⟩ =>
  ⟨Hm, δ, fp, _, R, env, hF, fun ds δ1 h1 v Hm1 H1 fp1 s1 e1 dv => by
    match ds, v, dv, h1 with
    | [d, d2], [v, v2], .cons dv (.cons dv2 .nil), h1 =>
      obtain ⟨a, xs, ds, rfl, rfl, hs, hx, h1⟩ := rd_L dv h1
      obtain ⟨b, ys, es, rfl, rfl, ht, hy, h1⟩ := rd_L dv2 h1
      refine ⟨a, b, xs, ys, rfl, e1.sub.seq (SqL.of hs), e1.sub.seq (SqL.of ht), hP _ _ h1 _ Hm1 H1 fp1 s1 e1 fun i Hm2 H2 sm l _ => ?_⟩
      have hs2 : SqL X.K H2 a xs := l.seq ((Le.of sm).seq (SqL.of hs))
      have ht2 : SqL X.K H2 b ys := l.seq ((Le.of sm).seq (SqL.of ht))
      refine ⟨fun z => ⟨xs, ys, hs2, ht2, by rw [hx.len, hy.len]; rw [zipD_len] at z; omega⟩, fun d hd => ?_⟩
      obtain ⟨d1, d2, q1, q2, rfl⟩ := zipD_get _ _ _ _ hd
      obtain ⟨x, ex, dx⟩ := hx.get' q1
      obtain ⟨y, ey, dy⟩ := hy.get' q2
      exact ⟨⟨xs, ys, x, y, hs2, ht2, ex, ey⟩, fun z H' ⟨T, x', y', ez, nT, eh, eq1, eq2⟩ => by
        subst eh ez
        have t1 := eq1 xs hs2
        have t2 := eq2 ys ht2
        rw [ex] at t1
        rw [ey] at t2
        cases t1
        cases t2
        exact zip_at l nT (dx.le (.of sm)) (dy.le (.of sm))⟩, hR⟩
theorem i_zipLT (h : PI X tg e (ZLT.iZipLT X.K (tL X.K E FL))) : PI X tg e (tI X.K E (itZ isL isT FL)) := piI h fun σ H Rr ⟨Hm, δ, fp, P, R, env, hF, hP, hR⟩ =>
  ⟨Hm, δ, fp, _, R, env, hF, fun ds δ1 h1 v Hm1 H1 fp1 s1 e1 dv => by
    match ds, v, dv, h1 with
    | [d, d2], [v, v2], .cons dv (.cons dv2 .nil), h1 =>
      obtain ⟨a, xs, ds, rfl, rfl, hs, hx, h1⟩ := rd_L dv h1
      obtain ⟨b, ys, es, rfl, rfl, ht, hy, h1⟩ := rd_T dv2 h1
      refine ⟨a, b, xs, ys, rfl, e1.sub.seq (SqL.of hs), e1.sub.seqT ht, hP _ _ h1 _ Hm1 H1 fp1 s1 e1 fun i Hm2 H2 sm l _ => ?_⟩
      have hs2 : SqL X.K H2 a xs := l.seq ((Le.of sm).seq (SqL.of hs))
      have ht2 := l.seqT ((Le.of sm).seqT ht)
      refine ⟨fun z => ⟨xs, ys, hs2, ht2, by rw [hx.len, hy.len]; rw [zipD_len] at z; omega⟩, fun d hd => ?_⟩
      obtain ⟨d1, d2, q1, q2, rfl⟩ := zipD_get _ _ _ _ hd
      obtain ⟨x, ex, dx⟩ := hx.get' q1
      obtain ⟨y, ey, dy⟩ := hy.get' q2
      exact ⟨⟨xs, ys, x, y, hs2, ht2, ex, ey⟩, fun z H' ⟨T, x', y', ez, nT, eh, eq1, eq2⟩ => by
        subst eh ez
        have t1 := eq1 xs hs2
        have t2 := eq2 ys ht2
        rw [ex] at t1
        rw [ey] at t2
        cases t1
        cases t2
        exact zip_at l nT (dx.le (.of sm)) (dy.le (.of sm))⟩, hR⟩
/-! ### over a dict at a slot, locked meanwhile -/
theorem psOr {st : Stmt} {t u : TS} (h : PS X st t) (g : PS X st u) : PS X st (fun D σ H => t D σ H ∨ u D σ H) := ⟨fun pins s σ H D I q => q.elim (h.run pins s σ H D I) (g.run pins s σ H D I)⟩
theorem peOr {e : Expr} {t u : TE} (h : PE X e t) (g : PE X e u) : PE X e (fun σ H Q => t σ H Q ∨ u σ H Q) := ⟨fun pins s σ H Q I q => q.elim (h.run pins s σ H Q I) (g.run pins s σ H Q I)⟩
end
def isDic : D → (List (Key × D) → Prop) → Prop
  | .dic kvs, P => P kvs
  | _, _ => False
def isDit : D → (List (List Key × D) → Prop) → Prop
  | .dit kvs, P => P kvs
  | _, _ => False
theorem rd_dic {K : PySem.W.Frag} {Hm : Hp} {v : V} {d : D} {P : List (Key × D) → Prop} (h : Dq K Hm v d) (q : isDic d P) : ∃ a xs ds, v = .ref a ∧ d = .dic ds ∧ Rd Hm a (.dK xs) ∧ DqP K Hm xs ds ∧ P ds := by
  cases h with
  | dic a b => exact ⟨_, _, _, rfl, rfl, a, b, q⟩
  | _ => exact q.elim
theorem rd_dit {K : PySem.W.Frag} {Hm : Hp} {v : V} {d : D} {P : List (List Key × D) → Prop} (h : Dq K Hm v d) (q : isDit d P) : ∃ a xs ds, v = .ref a ∧ d = .dit ds ∧ Rd Hm a (.dT xs) ∧ DqP K Hm xs ds ∧ P ds := by
  cases h with
  | dit a b => exact ⟨_, _, _, rfl, rfl, a, b, q⟩
  | _ => exact q.elim
def kD : Key → D
  | .inl i => .int i
  | .inr z => .str z
theorem kD_dq {K : PySem.W.Frag} {H : Hp} (k : Key) : Dq K H (kV k) (kD k) := by
  cases k with
  | inl i => exact .int i
  | inr z => exact .str z
def keysD (kvs : List (Key × D)) : List D := kvs.map fun p => kD p.1
def valsD (kvs : List (Key × D)) : List D := kvs.map fun p => p.2
def itemsD (kvs : List (Key × D)) : List D := kvs.map fun p => .tup [kD p.1, p.2]
end DN
set_option Elab.async false
set_option linter.all false
set_option maxRecDepth 100000
/-! sets of small numbers as bits of a natural number; xs[j] read for xs[j] op= e -/
namespace L2
open PySem PySem.Spec PyProof.Rows
section
variable {X : Cx}
/-- a natural number and another one -/
def rN2 (g : Nat → Nat → Nat) : R2 := fun x y H Q => ∃ a b : Nat, x = .int a ∧ y = .int b ∧ Q (.int (g a b : Nat)) H
/-- the same, the other one being a place -/
def rNK (g : Nat → Nat → Nat) : R2 := fun x y H Q => ∃ a b : Nat, x = .int a ∧ y = .int b ∧ b ≤ 1000000 ∧ Q (.int (g a b : Nat)) H
theorem orN (a b : Nat) : Builtin.bitOr (a : Int) (b : Int) = ((a ||| b : Nat) : Int) := bitOr_nn (Int.natCast_nonneg _) (Int.natCast_nonneg _)
theorem andN (a b : Nat) : Builtin.bitAnd (a : Int) (b : Int) = ((a &&& b : Nat) : Int) := by
  first
    | exact Bits.bitAnd_pp (Int.natCast_nonneg _) (Int.natCast_nonneg _)
    | exact bitAnd_pp (Int.natCast_nonneg _) (Int.natCast_nonneg _)
theorem op_orN : OpR X (binaryOp .BitOr) (rN2 (· ||| ·)) := by
  rintro pins s σ H x y v u Q I rx ry ⟨a, b, rfl, rfl, q⟩
  exact op_or pins s σ H _ _ v u Q I rx ry ⟨a, b, rfl, rfl, by show Q (.int (Builtin.bitOr _ _)) H; rw [orN]; exact q⟩
theorem op_andN : OpR X (binaryOp .BitAnd) (rN2 (· &&& ·)) := by
  rintro pins s σ H x y v u Q I rx ry ⟨a, b, rfl, rfl, q⟩
  exact op_and pins s σ H _ _ v u Q I rx ry ⟨a, b, rfl, rfl, by show Q (.int (Builtin.bitAnd _ _)) H; rw [andN]; exact q⟩
theorem op_shrNN : OpR X (binaryOp .RShift) (rN2 (· >>> ·)) := by
  rintro pins s σ H x y v u Q I rx ry ⟨a, b, rfl, rfl, q⟩
  refine op_shr pins s σ H _ _ v u Q I rx ry ⟨a, b, rfl, rfl, Int.natCast_nonneg _, ?_⟩
  have e : (a : Int) / 2 ^ (b : Int).toNat = ((a >>> b : Nat) : Int) := by
    rw [Int.toNat_natCast, Nat.shiftRight_eq_div_pow, Int.natCast_ediv, ← PySem.W.kbt_cast b]
  show Q (.int ((a : Int) / 2 ^ (b : Int).toNat)) H
  rw [e]
  exact q
theorem op_bitN : OpR X (binaryOp .LShift) (fun x y H Q => ∃ b : Nat, x = .int 1 ∧ y = .int b ∧ b ≤ 1000000 ∧ Q (.int ((1 <<< b : Nat))) H) := by
  rintro pins s σ H x y v u Q I rx ry ⟨b, rfl, rfl, hb, q⟩
  refine op_shl pins s σ H _ _ v u Q I rx ry ⟨1, b, rfl, rfl, ⟨Int.natCast_nonneg _, by omega, by decide⟩, ?_⟩
  have e : ∀ n : Nat, (1 : Int) * (2 : Int) ^ n = ((1 <<< n : Nat) : Int) := fun n => by
    rw [Nat.shiftLeft_eq, Nat.one_mul, Int.one_mul]
    exact (PySem.W.kbt_cast n).symm
  show Q (.int (1 * (2 : Int) ^ (b : Int).toNat)) H
  rw [e, Int.toNat_natCast]
  exact q
theorem ip_orN : PIp X .BitOr (rN2 (· ||| ·)) := by
  rintro pins s σ H x y v u Q I rx ry ⟨a, b, rfl, rfl, q⟩
  exact iop_or pins s σ H _ _ v u Q I rx ry ⟨a, b, rfl, rfl, by show Q (.int (Builtin.bitOr _ _)) H; rw [orN]; exact q⟩
/-- the bit itself -/
theorem bit_and (a k : Nat) : (a >>> k) &&& 1 = (a.testBit k).toNat := by
  rw [Nat.testBit, Nat.and_comm]
  rcases Nat.mod_two_eq_zero_or_one (a >>> k) with h | h <;> simp [Nat.one_and_eq_mod_two, h]
/-- the truth of a number -/
def tNum (ta : TE) : TT := fun σ H Q => ta σ H fun x H' => ∃ i : Int, x = .int i ∧ Q (i != 0) H'
theorem pt_num {a : Expr} {ta : TE} (ha : PE X a ta) (he : ∀ whole, isTrue a X.env whole = (do let v ← whole; standAt a.pos; holding [v] (truthy v)) := by intro _; rfl) : PT X a (tNum ta) :=
  ⟨fun pins s σ H Q I h => isTrue_plain (thn (ha.run pins s σ H _ I h) fun v s1 ⟨x, H1, I1, r1, i, e, q⟩ => tru_ok pins s1 σ H1 x v Q I1 r1 ⟨i != 0, by subst e; rfl, q⟩) (he _)⟩
/-- xs[j], a list's -/
def rGetN : V → V → Hp → VK → Prop := fun o i H Q => ∃ p xs v, ∃ j : Nat, o = .ref p ∧ i = .int j ∧ H p = some (.lst xs) ∧ xs[j]? = some v ∧ Q v H
theorem get_lstN : PGet X rGetN := by
  rintro pins s σ H o i ov iv Q I ro ri ⟨p, xs, v, j, rfl, rfl, hp, hx, q⟩
  cases ro
  obtain ⟨t, rfl⟩ := ri
  obtain ⟨its, n, r, ho, hz⟩ := I.lst hp
  obtain ⟨u, hu, ru⟩ := r.get hx
  have lt : j < xs.length := (List.getElem?_eq_some_iff.1 hx).1
  have h63 := line63
  exact wpAny_getItem_list (x := u) ⟨_, ho, rfl, n, rfl⟩ (Int.natCast_nonneg _) (by omega) (by simpa using hu) ⟨v, H, I, ru, q⟩
end
end L2
set_option Elab.async false
set_option linter.all false
set_option maxRecDepth 100000
set_option maxHeartbeats 4000000
/-! t[::-1] of a tuple -/
namespace HTR
open PySem PySem.Spec PyProof.Rows HT
section
variable {prog : Program} {w : World} {A : Around} {E : Value → Shared → Prop} {s : Shared}
theorem adj_rev (n : Nat) : Builtin.Slice.sliceAdjust none none (-1) (n : Int) = ((n : Int) - 1, -1) := rfl
theorem places_rev (n : Nat) : Builtin.Slice.slicePlaces ((n : Int) - 1) (-1) (-1) = n := by
  unfold Builtin.Slice.slicePlaces
  rw [if_neg (by decide)]
  by_cases h : (n : Int) - 1 > -1
  · rw [if_pos h]
    show (((n : Int) - 1 - -1 - 1) / 1 + 1).toNat = n
    rw [Int.ediv_one]
    omega
  · rw [if_neg h]
    show 0 = n
    omega
theorem pick_rev (xs : Array Value) : (List.range xs.size).filterMap (fun (k : Nat) => xs[((xs.size : Int) - 1 + (k : Int) * -1).toNat]?) = xs.toList.reverse := by
  apply List.ext_getElem?
  intro i
  have e : ∀ m, m ≤ xs.size → (List.range m).filterMap (fun (k : Nat) => xs[((xs.size : Int) - 1 + (k : Int) * -1).toNat]?) = xs.toList.reverse.take m := by
    intro m
    induction m with
    | zero => intro _; rfl
    | succ m ih =>
      intro h
      rw [List.range_succ, List.filterMap_append, ih (by omega)]
      have hm : m < xs.toList.reverse.length := by rw [List.length_reverse, Array.length_toList]; omega
      rw [List.take_add_one, List.getElem?_eq_getElem hm, List.getElem_reverse]
      have e2 : ((xs.size : Int) - 1 + (m : Int) * -1).toNat = xs.toList.length - 1 - m := by rw [Array.length_toList]; omega
      have e3 : xs[((xs.size : Int) - 1 + (m : Int) * -1).toNat]? = some (xs.toList[xs.toList.length - 1 - m]'(by rw [Array.length_toList]; omega)) := by
        rw [e2, ← Array.getElem?_toList, List.getElem?_eq_getElem]
      show _ ++ List.filterMap _ [m] = _
      rw [List.filterMap_cons, e3]
      rfl
  rw [e _ (Nat.le_refl _), List.take_of_length_le (by rw [List.length_reverse, Array.length_toList]; exact Nat.le_refl _)]
theorem sliceApplied_rev {sl : Addr} {vl vu vs : Value} {n : Nat} {Q : Int × Int × Nat → Shared → Prop} (hs : s.heap.IsSliceOf sl vl vu vs) (pl : IsPart vl none) (pu : IsPart vu none) (ps : IsPart vs (some (-1)))
    (h : Q ((n : Int) - 1, -1, n) s) : wpAny (model prog w) A (Builtin.Slice.sliceApplied (.ref sl) (pure (n : Int))) Q E s := by
  obtain ⟨os, hos, hcs, hds⟩ := id hs
  unfold Builtin.Slice.sliceApplied Builtin.Slice.sliceFields
  refine wpAny_bind (wpAny_bind (wpAny_field hos hds (x := vl) rfl (wpAny_bind (wpAny_field hos hds (x := vu) rfl (wpAny_bind (wpAny_field hos hds (x := vs) rfl (wpAny_pure ?_)))))))
  refine wpAny_bind (slicePart_ ps ?_)
  show wpAny _ _ (if ((-1 : Int) == 0) = true then _ else _) _ _ s
  rw [if_neg (by decide)]
  refine wpAny_bind (slicePart_ pl (wpAny_bind (slicePart_ pu (wpAny_bind (wpAny_pure ?_)))))
  show wpAny _ _ (match Builtin.Slice.sliceAdjust none none (-1) (n : Int) with | (lo, hi) => pure (lo, (-1 : Int), Builtin.Slice.slicePlaces lo hi (-1))) _ _ s
  rw [adj_rev n]
  show wpAny _ _ (pure ((n : Int) - 1, (-1 : Int), Builtin.Slice.slicePlaces ((n : Int) - 1) (-1) (-1))) _ _ s
  rw [places_rev]
  exact wpAny_pure h
theorem getItem_tuple_rev {t sl : Addr} {items : Array Value} {vl vu vs : Value} {Q : Value → Shared → Prop} (ht : IsTup s.heap t items) (hs : s.heap.IsSliceOf sl vl vu vs) (pl : IsPart vl none) (pu : IsPart vu none) (ps : IsPart vs (some (-1)))
    (h : Q (.ref s.heap.objs.size) { s with heap := s.heap.push { cls := .type "tuple", data := .seq items.toList.reverse.toArray } })
    (hsz : items.size ≤ sizeLine) : wpAny (model prog w) A (getItem (.ref t) (.ref sl)) Q E s := by
  have htake : sizeOk (.seq items.toList.reverse.toArray) := by
    show items.toList.reverse.toArray.size ≤ sizeLine
    rw [List.size_toArray, List.length_reverse, Array.length_toList]
    exact hsz
  obtain ⟨os, hos, hcs, hds⟩ := id hs
  have hTs : s.TypeIs (.ref sl) "slice" := ⟨os, hos, hcs⟩
  unfold getItem
  try with_reducible refine wpAny_holding ?_
  first | refine wpAny_bind (wpAny_pure ?_) | skip
  refine wpAny_bind (wpAny_sequenceKey ht.typeIs (by decide) ?_)
  refine wpAny_bind (wpAny_callSpecial?_slot (name := Str.ofString "__getitem__") ht.typeIs PyProof.Rows.slot_tuple_getitem
    (wpAny_call_entry PyProof.Rows.slot_tuple_getitem ht.typeIs entry_tuple_getitem ?_ (args_tuple_getitem _ _)))
  show wpAny _ _ (Builtin.Tuple.tupleItemsOf (.ref t) >>= _) _ _ s
  refine wpAny_bind (tupleItemsOf_ ht ?_)
  refine wpAny_bind (wpAny_typeOf hTs ?_)
  rw [if_pos (by decide)]
  refine wpAny_bind (sliceApplied_rev hs pl pu ps ?_)
  have hno : ¬ (((((items.size : Nat) : Int) - 1) == 0 && (-1 : Int) == 1 && items.size == items.size) = true) := by
    intro q
    rw [Bool.and_eq_true, Bool.and_eq_true] at q
    exact absurd (eq_of_beq q.1.2) (by decide)
  show wpAny _ _ (if ((((items.size : Nat) : Int) - 1) == 0 && (-1 : Int) == 1 && items.size == items.size) = true then _ else _) _ _ s
  rw [if_neg hno, pick_rev]
  first
    | exact wpAny_bind (m := Builtin.Tuple.tupleExact _) (wpAny_newObj_type (wpAny_pure ⟨_, rfl, wpAny_pure h⟩) htake)
    | exact wpAny_bind (m := Builtin.Tuple.tupleExact _) (wpAny_newObj_type (wpAny_bind (wpAny_pure (wpAny_pure ⟨_, rfl, wpAny_pure h⟩))) htake)
    | exact wpAny_bind (wpAny_bind (m := Builtin.Tuple.tupleExact _) (wpAny_newObj_type (wpAny_pure (wpAny_pure ⟨_, rfl, wpAny_pure h⟩)) htake))
    | exact wpAny_bind (wpAny_bind (m := Builtin.Tuple.tupleExact _) (wpAny_newObj_type (wpAny_pure ⟨_, rfl, wpAny_pure h⟩) htake))
end
end HTR
namespace L2
open PySem PySem.Spec PyProof.Rows
section
variable {X : Cx}
def tRevT (K : PySem.W.Frag) (te : TE) : TE := fun σ H Q => te σ H fun x H1 => ∃ a xs, x = .ref a ∧ SqT K H1 a xs ∧ ∀ p, H1 p = none → Q (.ref p) (upd H1 p (.tup xs.reverse))
theorem pe_revT {e : Expr} {te : TE} {k : Nat} {p1 p2 p3 pos : Pos} (he : PE X e te) : PE X (.Subscript e (.Slice none none (some (.UnaryOp .USub (.Constant (.int 1) k p1) p2)) p3) pos) (tRevT X.K te) := by
  refine ⟨fun pins s σ H Q I h => ?_⟩
  refine Subscript_ (thn (he.run pins s σ H _ I h) fun v s1 ⟨x, H1, I1, r1, q1⟩ => ?_)
  obtain ⟨a, xs, ex, hx, q⟩ := q1
  subst ex
  cases r1
  have hst : PO X (some (.UnaryOp .USub (.Constant (.int 1) k p1) p2)) (tPart (tUn (rU fun i => .int (-i)) (tC (.int 1)))) := po_some (pe_un un_neg pe_int)
  refine wpAny_Slice (thn (po_none.run pins s1 σ H1 (fun o H2 => o = none ∧ H2 = H1) I1 ⟨rfl, rfl⟩) fun vl s2 ⟨l, H2, I2, pl, el, e2⟩ => ?_)
  subst el e2
  refine thn (po_none.run pins s2 σ H2 (fun o H3 => o = none ∧ H3 = H2) I2 ⟨rfl, rfl⟩) fun vu s3 ⟨u, H3, I3, pu, eu, e3⟩ => ?_
  subst eu e3
  refine thn (hst.run pins s3 σ H3 (fun o H4 => o = some (-1) ∧ H4 = H3) I3 ⟨1, rfl, -1, rfl, rfl, rfl⟩) fun vs s4 ⟨o, H4, I4, ps, eo, e4⟩ => ?_
  subst eo e4
  have I5 : Inv X pins σ H4 { s4 with heap := s4.heap.push { cls := .type "slice", data := .fields #[vl, vu, vs] } } := I4.kept (t' := s4.toks) fun b ob q => Heap.get?_push_of_some _ q
  obtain ⟨its, r, ht, hz⟩ := I5.tuple hx
  have hlen := r.length
  show wpAny (model X.prog X.w) X.A (subscriptTail e (.Slice none none (some (.UnaryOp .USub (.Constant (.int 1) k p1) p2)) p3) (.ref a) (.ref s4.heap.objs.size)) (EP X pins σ Q) X.xe { s4 with heap := s4.heap.push { cls := .type "slice", data := .fields #[vl, vu, vs] } }
  refine tail_any (ops := [.ref a, .ref s4.heap.objs.size]) ht.typeIs (PyProof.Rows.slot_tuple_getitem.lookup) ?_ (by with_unfolding_all rfl)
  refine HTR.getItem_tuple_rev ht (Heap.IsSliceOf.new _ vl vu vs) pl pu ps ?_ (by rw [List.size_toArray]; omega)
  refine ⟨.ref _, _, I5.laid (t' := s4.toks) (o := .tup xs.reverse) (fun b ob q => Heap.get?_push_of_some _ q) (Nat.le_refl _) ?_, rfl, q _ (I5.hok.fresh (Nat.le_refl _))⟩
  exact ⟨by rw [List.length_reverse]; exact hz, _, r.reverse, _, Heap.get?_push_size _ rfl, rfl, 0, rfl⟩
end
end L2
set_option Elab.async false
set_option linter.all false
set_option maxRecDepth 100000
set_option maxHeartbeats 4000000
/-! operations on data -/
namespace DN
open PySem PySem.Spec PyProof.Rows L2
section
variable {K : PySem.W.Frag}
theorem dq_c {Hm : Hp} {v : V} {d : D} (h : Dq K Hm v d) (H : Hp) (f : match d with
  | .non => True
  | .bl _ => True
  | .int _ => True
  | .str _ => True
  | _ => False) : Dq K H v d := by
  cases h with
  | non => exact .non
  | bl b => exact .bl b
  | int b => exact .int b
  | str b => exact .str b
  | _ => exact f.elim
/-! whole numbers -/
def int2 (f : Int → Int → D) : G2 := fun x y P => isI x fun a => isI y fun b => P (f a b)
def int2c (C : Int → Int → Prop) (f : Int → Int → D) : G2 := fun x y P => isI x fun a => isI y fun b => C a b ∧ P (f a b)
theorem p_int2 {v : Int → Int → V} {f : Int → Int → D} (h : ∀ a b H, Dq K H (v a b) (f a b)) : Prim2 K (rI0 v) (int2 f) := fun Hm H u w x y P Q l hx hy g k => by
  obtain ⟨a, rfl, rfl, g⟩ := rd_I hx g
  obtain ⟨b, rfl, rfl, g⟩ := rd_I hy g
  exact ⟨a, b, rfl, rfl, k _ _ Hm H g (.refl l) (h a b Hm)⟩
theorem p_int2c {C : Int → Int → Prop} {v : Int → Int → V} {f : Int → Int → D} (h : ∀ a b H, Dq K H (v a b) (f a b)) : Prim2 K (rI C v) (int2c C f) := fun Hm H u w x y P Q l hx hy g k => by
  obtain ⟨a, rfl, rfl, g⟩ := rd_I hx g
  obtain ⟨b, rfl, rfl, g⟩ := rd_I hy g
  exact ⟨a, b, rfl, rfl, g.1, k _ _ Hm H g.2 (.refl l) (h a b Hm)⟩
def gAdd : G2 := int2 fun a b => .int (a + b)
def qSub : G2 := int2 fun a b => .int (a - b)
def gMul : G2 := int2c CMul fun a b => .int (a * b)
def gMulW : G2 := int2c CMulW fun a b => .int (a * b)
def gDivW : G2 := int2c CDivW fun a b => .int (a / b)
def gMod : G2 := int2c (fun _ b => 0 < b) fun a b => .int (a % b)
def gLt : G2 := int2 fun a b => .bl (decide (a < b))
def gLe : G2 := int2 fun a b => .bl (decide (a ≤ b))
def gGt : G2 := int2 fun a b => .bl (decide (b < a))
def gGe : G2 := int2 fun a b => .bl (decide (b ≤ a))
theorem p_add : Prim2 K (rI0 fun i j => .int (i + j)) gAdd := p_int2 fun _ _ _ => .int _
theorem p_sub : Prim2 K (rI0 fun i j => .int (i - j)) qSub := p_int2 fun _ _ _ => .int _
theorem p_mul : Prim2 K (rI CMul fun i j => .int (i * j)) gMul := p_int2c fun _ _ _ => .int _
theorem p_mulW : Prim2 K (rI CMulW fun i j => .int (i * j)) gMulW := p_int2c fun _ _ _ => .int _
theorem p_divW : Prim2 K (rI CDivW fun i j => .int (i / j)) gDivW := p_int2c fun _ _ _ => .int _
theorem p_mod : Prim2 K (rI (fun _ j => 0 < j) fun i j => .int (i % j)) gMod := p_int2c fun _ _ _ => .int _
theorem p_lt : Prim2 K (rI0 fun i j => .bl (decide (i < j))) gLt := p_int2 fun _ _ _ => .bl _
theorem p_le : Prim2 K (rI0 fun i j => .bl (decide (i ≤ j))) gLe := p_int2 fun _ _ _ => .bl _
theorem p_gt : Prim2 K (rI0 fun i j => .bl (decide (j < i))) gGt := p_int2 fun _ _ _ => .bl _
theorem p_ge : Prim2 K (rI0 fun i j => .bl (decide (j ≤ i))) gGe := p_int2 fun _ _ _ => .bl _
/-- numbers as sets of bits -/
def isN : D → (Nat → Prop) → Prop
  | .int (.ofNat n), P => P n
  | _, _ => False
theorem rd_N {Hm : Hp} {v : V} {d : D} {P : Nat → Prop} (h : Dq K Hm v d) (q : isN d P) : ∃ n : Nat, v = .int (n : Nat) ∧ d = .int (n : Nat) ∧ P n := by
  cases h with
  | int z =>
    cases z with
    | ofNat n => exact ⟨n, rfl, rfl, q⟩
    | negSucc n => exact q.elim
  | _ => exact q.elim
def nat2 (f : Nat → Nat → Nat) : G2 := fun x y P => isN x fun a => isN y fun b => P (.int (f a b : Nat))
theorem p_nat2 {f : Nat → Nat → Nat} : Prim2 K (rN2 f) (nat2 f) := fun Hm H u w x y P Q l hx hy g k => by
  obtain ⟨a, rfl, rfl, g⟩ := rd_N hx g
  obtain ⟨b, rfl, rfl, g⟩ := rd_N hy g
  exact ⟨a, b, rfl, rfl, k _ _ Hm H g (.refl l) (.int _)⟩
def gOr : G2 := nat2 (· ||| ·)
def gAnd : G2 := nat2 (· &&& ·)
def gShr : G2 := nat2 (· >>> ·)
theorem p_or : Prim2 K (rN2 (· ||| ·)) gOr := p_nat2
theorem p_and : Prim2 K (rN2 (· &&& ·)) gAnd := p_nat2
theorem p_shr : Prim2 K (rN2 (· >>> ·)) gShr := p_nat2
def gBit : G2 := fun x y P => isI x fun a => a = 1 ∧ isN y fun b => b ≤ 1000000 ∧ P (.int (1 <<< b : Nat))
theorem p_bit : Prim2 K (fun x y H Q => ∃ b : Nat, x = .int 1 ∧ y = .int b ∧ b ≤ 1000000 ∧ Q (.int ((1 <<< b : Nat))) H) gBit := fun Hm H u w x y P Q l hx hy g k => by
  obtain ⟨a, rfl, rfl, ea, g2⟩ := rd_I hx g
  obtain ⟨b, rfl, rfl, g3⟩ := rd_N hy g2
  exact ⟨b, by rw [ea], rfl, g3.1, k _ _ Hm H g3.2 (.refl l) (.int _)⟩
def gNeg : G1 := fun x P => isI x fun a => P (.int (-a))
theorem p_neg : Prim1 K (rU fun i => .int (-i)) gNeg := fun Hm H v x P Q l hx g k => by
  obtain ⟨a, rfl, rfl, g⟩ := rd_I hx g
  exact ⟨a, rfl, k _ _ Hm H g (.refl l) (.int _)⟩
/-! equality of flat things -/
def flatEq : D → D → (Bool → Prop) → Prop
  | .non, .non, P => P true
  | .bl a, .bl b, P => P (decide (a = b))
  | .int a, .int b, P => P (decide (a = b))
  | .str a, .str b, P => P (decide (a = b))
  | _, _, _ => False
theorem scal_int (a b : Int) : scal (.int a) (.int b) = true := rfl
def gEq : G2 := fun x y P => flatEq x y fun b => P (.bl b)
def gNe : G2 := fun x y P => flatEq x y fun b => P (.bl (!b))
theorem dec_int (a b : Int) : decide (V.int a = V.int b) = decide (a = b) := decide_eq_decide.mpr ⟨V.int.inj, fun e => by rw [e]⟩
theorem dec_str (a b : Str) : decide (V.str a = V.str b) = decide (a = b) := decide_eq_decide.mpr ⟨V.str.inj, fun e => by rw [e]⟩
theorem dec_bl (a b : Bool) : decide (V.bl a = V.bl b) = decide (a = b) := decide_eq_decide.mpr ⟨V.bl.inj, fun e => by rw [e]⟩
theorem rd_eq {Hm : Hp} {v w : V} {x y : D} {P : Bool → Prop} (hx : Dq K Hm v x) (hy : Dq K Hm w y) (g : flatEq x y P) : scal v w = true ∧ P (decide (v = w)) := by
  cases hx with
  | non => cases hy with
    | non => exact ⟨rfl, by rw [decide_eq_true rfl]; exact g⟩
    | _ => exact g.elim
  | bl a => cases hy with
    | bl b => exact ⟨rfl, by rw [dec_bl]; exact g⟩
    | _ => exact g.elim
  | int a => cases hy with
    | int b => exact ⟨rfl, by rw [DN.dec_int]; exact g⟩
    | _ => exact g.elim
  | str a => cases hy with
    | str b => exact ⟨rfl, by rw [dec_str]; exact g⟩
    | _ => exact g.elim
  | lst _ _ => cases hy <;> exact g.elim
  | tup _ _ => cases hy <;> exact g.elim
  | dic _ _ => cases hy <;> exact g.elim
  | dit _ _ => cases hy <;> exact g.elim
  | scr _ => cases hy <;> exact g.elim
  | obj _ _ => cases hy <;> exact g.elim
theorem p_eq : Prim2 K rEq gEq := fun Hm H u w x y P Q l hx hy g k => by
  obtain ⟨a, b⟩ := rd_eq hx hy g
  exact ⟨a, k _ _ Hm H b (.refl l) (.bl _)⟩
theorem p_ne : Prim2 K rNe gNe := fun Hm H u w x y P Q l hx hy g k => by
  obtain ⟨a, b⟩ := rd_eq hx hy g
  exact ⟨a, k _ _ Hm H b (.refl l) (.bl _)⟩
/-! is None -/
def isNo : D → Bool
  | .non => true
  | _ => false
def gIsN : G2 := fun x y P => match y with
  | .non => P (.bl (isNo x))
  | _ => False
def gNotN : G2 := fun x y P => match y with
  | .non => P (.bl (!isNo x))
  | _ => False
theorem dec_non {Hm : Hp} {v : V} {x : D} (h : Dq K Hm v x) : decide (v = .non) = isNo x := by
  cases h with
  | non => rfl
  | _ => exact decide_eq_false (by nofun)
theorem p_isN : Prim2 K (fun x y H Q => y = .non ∧ Q (.bl (decide (x = .non))) H) gIsN := fun Hm H u w x y P Q l hx hy g k => by
  cases hy with
  | non => exact ⟨rfl, by rw [dec_non hx]; exact k _ _ Hm H g (.refl l) (.bl _)⟩
  | _ => exact g.elim
theorem p_notN : Prim2 K (fun x y H Q => y = .non ∧ Q (.bl (!decide (x = .non))) H) gNotN := fun Hm H u w x y P Q l hx hy g k => by
  cases hy with
  | non => exact ⟨rfl, by rw [dec_non hx]; exact k _ _ Hm H g (.refl l) (.bl _)⟩
  | _ => exact g.elim
/-! plain data: == and in at any depth -/
mutual
def pyD : D → PyData
  | .non => .none
  | .bl b => .bool b
  | .int i => .int i
  | .str z => .str z
  | .lst xs => .list (pyL xs)
  | .tup xs => .tuple (pyL xs)
  | .dic _ => .dict []
  | .dit _ => .dict []
  | .obj _ _ => .dict []
  | .scr _ => .dict []
def pyL : List D → List PyData
  | [] => []
  | x :: xs => pyD x :: pyL xs
end
mutual
theorem dp_of {K : PySem.W.Frag} {H : Hp} : ∀ {v : V} {d : D}, Dq K H v d → (pyD d).canLay0 = true → Dp K H v (pyD d)
  | _, _, .non, _ => .non
  | _, _, .bl b, _ => .bl b
  | _, _, .int b, _ => .int b
  | _, _, .str b, _ => .str b
  | _, _, .lst h hs, c => .lst (.of h) (dpL_of hs (by simpa only [pyD, PyData.canLay0] using c))
  | _, _, .tup h hs, c => .tup h (dpL_of hs (by simpa only [pyD, PyData.canLay0] using c))
  | _, _, .dic h hs, c => by simp [pyD, PyData.canLay0] at c
  | _, _, .dit h hs, c => by simp [pyD, PyData.canLay0] at c
  | _, _, .obj h hs, c => by simp [pyD, PyData.canLay0] at c
  | _, _, .scr h, c => by simp [pyD, PyData.canLay0] at c
theorem dpL_of {K : PySem.W.Frag} {H : Hp} : ∀ {vs : List V} {ds : List D}, DqL K H vs ds → PyData.canLayAll0 (pyL ds) = true → DpAll K H vs (pyL ds)
  | _, _, .nil, _ => .nil
  | _, _, .cons h hs, c => by
    simp only [pyL, PyData.canLayAll0, Bool.and_eq_true] at c
    exact .cons (dp_of h c.1) (dpL_of hs c.2)
end
/-- data that == may be asked of -/
def Pl (d : D) : Prop := SeqAt.shaped (pyD d) = true
theorem Pl.lay {d : D} (h : Pl d) : (pyD d).canLay0 = true := SeqAt.canLay_of_shaped h
theorem Pl.dp {K : PySem.W.Frag} {Hm H : Hp} {v : V} {d : D} (p : Pl d) (h : Dq K Hm v d) (l : Le Hm H) : Dp K H v (pyD d) := dp_of (h.le l) p.lay
def eqD (x y : D) : Bool := PyData.eqv (pyD x) (pyD y)
def gEqD : G2 := fun x y P => Pl x ∧ Pl y ∧ P (.bl (eqD x y))
def gNeD : G2 := fun x y P => Pl x ∧ Pl y ∧ P (.bl (!eqD x y))
theorem p_eqD : Prim2 K (rEqD K) gEqD := fun Hm H u w x y P Q l hx hy g k => ⟨_, _, g.1.dp hx l, g.2.1.dp hy l, g.1, g.2.1, k _ _ Hm H g.2.2 (.refl l) (.bl _)⟩
theorem p_neD : Prim2 K (rNeD K) gNeD := fun Hm H u w x y P Q l hx hy g k => ⟨_, _, g.1.dp hx l, g.2.1.dp hy l, g.1, g.2.1, k _ _ Hm H g.2.2 (.refl l) (.bl _)⟩
def memD (x : D) (ys : List D) : Bool := ys.any fun y => eqD y x
theorem any_py {x : D} : ∀ ys : List D, (pyL ys).any (fun z => PyData.eqv z (pyD x)) = memD x ys
  | [] => rfl
  | y :: r => by
    show (PyData.eqv (pyD y) (pyD x) || (pyL r).any _) = (eqD y x || memD x r)
    rw [any_py r]
    rfl
def gIn (f : D → (List D → Prop) → Prop) (neg : Bool) : G2 := fun x y P => Pl x ∧ Pl y ∧ f y fun ys => P (.bl (if neg then !memD x ys else memD x ys))
theorem p_inL : Prim2 K (rInD K) (gIn isL false) := fun Hm H u w x y P Q l hx hy g k => by
  obtain ⟨p1, p2, g⟩ := g
  obtain ⟨a, xs, ds, rfl, rfl, hs, hd, g⟩ := rd_L hy g
  refine ⟨_, pyL ds, p1.dp hx l, p2.dp hy l, p1, p2, ?_⟩
  rw [any_py]
  exact k _ _ Hm H g (.refl l) (.bl _)
theorem p_ninL : Prim2 K (rNotInD K) (gIn isL true) := fun Hm H u w x y P Q l hx hy g k => by
  obtain ⟨p1, p2, g⟩ := g
  obtain ⟨a, xs, ds, rfl, rfl, hs, hd, g⟩ := rd_L hy g
  refine ⟨_, pyL ds, p1.dp hx l, p2.dp hy l, p1, p2, ?_⟩
  rw [any_py]
  exact k _ _ Hm H g (.refl l) (.bl _)
theorem p_inT : Prim2 K (rInDT K false) (gIn isT false) := fun Hm H u w x y P Q l hx hy g k => by
  obtain ⟨p1, p2, g⟩ := g
  obtain ⟨a, xs, ds, rfl, rfl, hs, hd, g⟩ := rd_T hy g
  refine ⟨_, pyL ds, p1.dp hx l, p2.dp hy l, p1, p2, ?_⟩
  rw [any_py]
  exact k _ _ Hm H g (.refl l) (.bl _)
theorem p_ninT : Prim2 K (rInDT K true) (gIn isT true) := fun Hm H u w x y P Q l hx hy g k => by
  obtain ⟨p1, p2, g⟩ := g
  obtain ⟨a, xs, ds, rfl, rfl, hs, hd, g⟩ := rd_T hy g
  refine ⟨_, pyL ds, p1.dp hx l, p2.dp hy l, p1, p2, ?_⟩
  rw [any_py]
  exact k _ _ Hm H g (.refl l) (.bl _)
/-! texts -/
def gAddS : G2 := fun x y P => isS x fun a => isS y fun b => a.length + b.length ≤ sizeLine ∧ P (.str (a ++ b))
theorem p_addS : Prim2 K (fun x y H Q => ∃ i j, x = .str i ∧ y = .str j ∧ i.length + j.length ≤ sizeLine ∧ Q (.str (i ++ j)) H) gAddS := fun Hm H u w x y P Q l hx hy g k => by
  obtain ⟨a, rfl, rfl, g⟩ := rd_S hx g
  obtain ⟨b, rfl, rfl, g⟩ := rd_S hy g
  exact ⟨a, b, rfl, rfl, g.1, k _ _ Hm H g.2 (.refl l) (.str _)⟩
def hasS (a b : Str) : Bool := !(Builtin.Str.occurrences b a 0 b.length 1).isEmpty
def gInS (neg : Bool) : G2 := fun x y P => isS x fun a => isS y fun b => P (.bl (if neg then !hasS a b else hasS a b))
theorem p_inS : Prim2 K (fun x y H Q => ∃ i j, x = .str i ∧ y = .str j ∧ Q (.bl (!(Builtin.Str.occurrences j i 0 j.length 1).isEmpty)) H) (gInS false) := fun Hm H u w x y P Q l hx hy g k => by
  obtain ⟨a, rfl, rfl, g⟩ := rd_S hx g
  obtain ⟨b, rfl, rfl, g⟩ := rd_S hy g
  exact ⟨a, b, rfl, rfl, k _ _ Hm H g (.refl l) (.bl _)⟩
theorem p_ninS : Prim2 K (fun x y H Q => ∃ i j, x = .str i ∧ y = .str j ∧ Q (.bl (!(!(Builtin.Str.occurrences j i 0 j.length 1).isEmpty))) H) (gInS true) := fun Hm H u w x y P Q l hx hy g k => by
  obtain ⟨a, rfl, rfl, g⟩ := rd_S hx g
  obtain ⟨b, rfl, rfl, g⟩ := rd_S hy g
  exact ⟨a, b, rfl, rfl, k _ _ Hm H g (.refl l) (.bl _)⟩
def gLtS : G2 := fun x y P => isS x fun a => isS y fun b => P (.bl (decide (a.cps.toList < b.cps.toList)))
theorem p_ltS : Prim2 K (fun x y H Q => ∃ i j, x = .str i ∧ y = .str j ∧ Q (.bl (decide (i.cps.toList < j.cps.toList))) H) gLtS := fun Hm H u w x y P Q l hx hy g k => by
  obtain ⟨a, rfl, rfl, g⟩ := rd_S hx g
  obtain ⟨b, rfl, rfl, g⟩ := rd_S hy g
  exact ⟨a, b, rfl, rfl, k _ _ Hm H g (.refl l) (.bl _)⟩
/-! lists and tuples -/
def gCatL : G2 := fun x y P => isL x fun a => isL y fun b => a.length + b.length ≤ sizeLine ∧ P (.lst (a ++ b))
theorem p_catL : Prim2 K rCat gCatL := fun Hm H u w x y P Q l hx hy g k => by
  obtain ⟨a, xs, ds, rfl, rfl, hs, hd, g⟩ := rd_L hx g
  obtain ⟨b, ys, es, rfl, rfl, ht, he, g⟩ := rd_L hy g
  refine ⟨a, b, xs, ys, rfl, rfl, l.lst hs, l.lst ht, by rw [hd.len, he.len]; exact g.1, fun p np => ?_⟩
  have n := New.one l (o := .lst (xs ++ ys)) np
  exact k _ _ _ _ g.2 n (.lst upd_same ((hd.app he).le (.of n.mask)))
def gCatT : G2 := fun x y P => isT x fun a => isT y fun b => a.length + b.length ≤ sizeLine ∧ P (.tup (a ++ b))
theorem p_catT : Prim2 K (rCatA K) gCatT := fun Hm H u w x y P Q l hx hy g k => by
  obtain ⟨a, xs, ds, rfl, rfl, hs, hd, g⟩ := rd_T hx g
  obtain ⟨b, ys, es, rfl, rfl, ht, he, g⟩ := rd_T hy g
  refine ⟨a, b, xs, ys, rfl, rfl, l.seqT hs, l.seqT ht, by rw [hd.len, he.len]; exact g.1, fun z => ?_, fun z1 z => ?_, fun _ _ p np => ?_⟩
  · subst z
    cases hd
    exact k _ _ _ _ g.2 (.refl l) hy
  · subst z
    cases he
    rw [List.append_nil] at g
    exact k _ _ _ _ g.2 (.refl l) hx
  · have n := New.one l (o := .tup (xs ++ ys)) np
    exact k _ _ _ _ g.2 n (.tup (.of upd_same) ((hd.app he).le (.of n.mask)))
def repL (ds : List D) (n : Nat) : List D := (List.replicate n ds).flatten
theorem DqL.repL {H : Hp} {vs : List V} {ds : List D} (h : DqL K H vs ds) : ∀ n : Nat, DqL K H (List.replicate n vs).flatten (repL ds n)
  | 0 => .nil
  | n + 1 => by
    unfold DN.repL
    rw [List.replicate_succ, List.replicate_succ, List.flatten_cons, List.flatten_cons]
    exact h.app (DqL.repL h n)
def gRepL : G2 := fun x y P => isL x fun a => isI y fun n => -(2 ^ 63) ≤ n ∧ n < 2 ^ 63 ∧ a.length * n.toNat ≤ sizeLine ∧ P (.lst (repL a n.toNat))
theorem p_repL : Prim2 K rRep gRepL := fun Hm H u w x y P Q l hx hy g k => by
  obtain ⟨a, xs, ds, rfl, rfl, hs, hd, g⟩ := rd_L hx g
  obtain ⟨n, rfl, rfl, g1, g2, g3, g⟩ := rd_I hy g
  refine ⟨a, n, xs, rfl, rfl, l.lst hs, g1, g2, by rw [hd.len]; exact g3, fun p np => ?_⟩
  have n' := New.one l (o := .lst (List.replicate n.toNat xs).flatten) np
  exact k _ _ _ _ g n' (.lst upd_same ((hd.repL n.toNat).le (.of n'.mask)))
/-- the item at an index of any sign -/
def gIx (f : D → (List D → Prop) → Prop) : G2 := fun x y P => f x fun a => isI y fun i => optD (atI a i) P
theorem dq_atI {Hm : Hp} {xs : List V} {ds : List D} {i : Int} {d : D} (h : DqL K Hm xs ds) (e : atI ds i = some d) : ∃ v, atI xs i = some v ∧ Dq K Hm v d := by
  unfold atI at e ⊢
  rw [h.len]
  cases z : ixN ds.length i with
  | none => rw [z] at e; cases e
  | some j =>
    rw [z] at e
    exact h.get' (show ds[j]? = some d from e)
theorem p_ixL : Prim2 K (rIxL K) (gIx isL) := fun Hm H u w x y P Q l hx hy g k => by
  obtain ⟨a, xs, ds, rfl, rfl, hs, hd, g⟩ := rd_L hx g
  obtain ⟨i, rfl, rfl, g⟩ := rd_I hy g
  obtain ⟨d, e, g⟩ := of_opt g
  obtain ⟨v, ev, dv⟩ := dq_atI hd e
  exact ⟨a, xs, i, v, rfl, rfl, l.seq (.of hs), ev, k _ _ Hm H g (.refl l) dv⟩
theorem p_ixT : Prim2 K (rIxT K) (gIx isT) := fun Hm H u w x y P Q l hx hy g k => by
  obtain ⟨a, xs, ds, rfl, rfl, hs, hd, g⟩ := rd_T hx g
  obtain ⟨i, rfl, rfl, g⟩ := rd_I hy g
  obtain ⟨d, e, g⟩ := of_opt g
  obtain ⟨v, ev, dv⟩ := dq_atI hd e
  exact ⟨a, xs, i, v, rfl, rfl, l.seqT hs, ev, k _ _ Hm H g (.refl l) dv⟩
def gIxS : G2 := fun x y P => isS x fun z => isI y fun i => z.length ≤ sizeLine ∧ optD (atI z.cps.toList i) fun c => P (.str ⟨#[c]⟩)
theorem p_ixS : Prim2 K rIxS gIxS := fun Hm H u w x y P Q l hx hy g k => by
  obtain ⟨z, rfl, rfl, g⟩ := rd_S hx g
  obtain ⟨i, rfl, rfl, g0, g⟩ := rd_I hy g
  obtain ⟨c, e, g⟩ := of_opt g
  exact ⟨z, i, c, rfl, rfl, g0, e, k _ _ Hm H g (.refl l) (.str _)⟩
/-! length, truth -/
def gLenL : GN := fun ds P => match ds with
  | [.lst xs] => P (.int (xs.length : Nat))
  | [.tup xs] => P (.int (xs.length : Nat))
  | [.scr xs] => P (.int (xs.length : Nat))
  | _ => False
theorem p_lenL : PrimN K (fun xs H Q => ∃ p ys, xs = [.ref p] ∧ (SqL K H p ys ∨ SqT K H p ys) ∧ Q (.int ys.length) H) gLenL := fun Hm H vs ds P Q l hv g k => by
  match ds, vs, hv, g with
  | [.lst xs], [v], .cons hv .nil, g =>
    cases hv with
    | lst a b => exact ⟨_, _, rfl, .inl (l.seq (.of a)), by rw [b.len]; exact k _ _ Hm H g (.refl l) (.int _)⟩
  | [.tup xs], [v], .cons hv .nil, g =>
    cases hv with
    | tup a b => exact ⟨_, _, rfl, .inr (l.seqT a), by rw [b.len]; exact k _ _ Hm H g (.refl l) (.int _)⟩
  | [.scr xs], [v], .cons hv .nil, g =>
    cases hv with
    | scr a => exact ⟨_, _, rfl, .inl (l.seq a), by rw [List.length_map]; exact k _ _ Hm H g (.refl l) (.int _)⟩
def gLenS : GN := fun ds P => match ds with
  | [.str z] => z.length ≤ sizeLine ∧ P (.int (z.length : Nat))
  | _ => False
theorem p_lenS : PrimN K (fun xs H Q => ∃ z, xs = [.str z] ∧ z.length ≤ sizeLine ∧ Q (.int z.length) H) gLenS := fun Hm H vs ds P Q l hv g k => by
  match ds, vs, hv, g with
  | [.str z], [v], .cons hv .nil, g =>
    cases hv with
    | str z => exact ⟨z, rfl, g.1, k _ _ Hm H g.2 (.refl l) (.int _)⟩
def truD : D → (Bool → Prop) → Prop
  | .non, P => P false
  | .bl b, P => P b
  | .int i, P => P (i != 0)
  | .str z, P => z.length ≤ sizeLine ∧ P ((z.length : Int) != 0)
  | .lst xs, P => P (!xs.isEmpty)
  | .tup xs, P => P (!xs.isEmpty)
  | _, _ => False
def truT (F : W D) : W Bool := fun δ P R => F δ (fun d δ1 => truD d fun b => P b δ1) R
theorem emp_len {Hm : Hp} {vs : List V} {ds : List D} (h : DqL K Hm vs ds) : (!vs.isEmpty) = !ds.isEmpty := by cases h <;> rfl
theorem tru_ok {Hm H : Hp} {v : V} {d : D} {P : Bool → Prop} (l : Le Hm H) (h : Dq K Hm v d) (g : truD d P) : ∃ k, TruV K v H k ∧ P k := by
  cases h with
  | non => exact ⟨_, rfl, g⟩
  | bl b => exact ⟨_, rfl, g⟩
  | int b => exact ⟨_, rfl, g⟩
  | str z => exact ⟨_, ⟨g.1, rfl⟩, g.2⟩
  | lst a b => exact ⟨_, .inl ⟨_, l.seq (.of a), rfl⟩, by rw [emp_len b]; exact g⟩
  | tup a b => exact ⟨_, .inr (.inl ⟨_, l.seqT a, rfl⟩), by rw [emp_len b]; exact g⟩
  | _ => exact g.elim
theorem m_truth {X : Cx} {E : XK} {e : Expr} {F : W D} (h : PT X e (fun σ H Q => tE X.K E F σ H fun x H' => ∃ k, TruV X.K x H' k ∧ Q k H')) : PT X e (tT X.K E (truT F)) := ptI h fun σ H Q ⟨Hm, δ, fp, P, R, env, hF, hP, hR⟩ =>
  ⟨Hm, δ, fp, _, R, env, hF, fun x δ1 h1 v Hm1 H1 fp1 s1 e1 dv => by
    obtain ⟨k, a, b⟩ := tru_ok e1.sub dv h1
    exact ⟨k, a, hP k δ1 b k Hm1 H1 fp1 s1 e1 rfl⟩, hR⟩
def numT (F : W D) : W Bool := fun δ P R => F δ (fun d δ1 => isI d fun i => P (i != 0) δ1) R
theorem m_num {X : Cx} {E : XK} {e : Expr} {F : W D} (h : PT X e (tNum (tE X.K E F))) : PT X e (tT X.K E (numT F)) := ptI h fun σ H Q ⟨Hm, δ, fp, P, R, env, hF, hP, hR⟩ =>
  ⟨Hm, δ, fp, _, R, env, hF, fun x δ1 h1 v Hm1 H1 fp1 s1 e1 dv => by
    obtain ⟨i, rfl, rfl, h1⟩ := rd_I dv h1
    exact ⟨i, rfl, hP _ δ1 h1 _ Hm1 H1 fp1 s1 e1 rfl⟩, hR⟩
end
end DN
set_option Elab.async false
set_option linter.all false
set_option maxRecDepth 100000
/-! calls whose question names K -/
namespace L2
open PySem PySem.Spec PyProof.Rows
variable {X : Cx}
/-- tuple(list) -/
def rTupL (K : PySem.W.Frag) : List V → Hp → VK → Prop := fun vs H Q => ∃ p ys, vs = [.ref p] ∧ SqL K H p ys ∧ ∀ l, H l = none → Q (.ref l) (upd H l (.tup ys))
theorem cl_tupL : CallR X (.type "tuple") (rTupL X.K) := by
  rintro pins s σ H vs us Q I r ⟨p, ys, rfl, h, q⟩
  exact call_tuple_of pins s σ H _ us Q I r ⟨p, ys, rfl, .inl ⟨h, q⟩⟩
section
variable {X : Cx} {k : Nat} {ps : List Str} {sp : Sp} {x : Str} {p pos : Pos} {e : Expr} {es : List Expr} {t : TA}
/-- f(e, .., *xs), f a def of the module's top that keeps its promise -/
theorem pe_dfS (G : Df X.prog X.w X.K X.mg X.base x k ps sp) (hr : Room k X.A) (hg : Gl X x) (ha : PA X (e :: es) t) (hdb : (x == ("__debug__" : Str)) = false := by decide)
    (he : starEach (e :: es) X.env = (false, eval e X.env) :: starEach es X.env := by rfl) (hst : (backTo pos (starEach es X.env)).any (·.1) = true := by rfl) :
    PE X (.Call (.Name x p) (e :: es) [] pos) (tCall sp [] E0 t) := by
  obtain ⟨f, fd, F, m, kp, b⟩ := G.ex
  refine ⟨fun pins s σ H Q I h => ?_⟩
  refine wpAny_Call_Name_kw (ld_glob I hg m ?_ hdb)
  refine PySem.W.callWith_S2 (h₀ := X.base) I.ok.mod.kin kp (thn (ha.run pos pins s σ H _ I h) fun us s1 ⟨vs, H1, I1, r, q⟩ => ⟨I1.kIn, ?_⟩) he hst
  exact run_fn F hr b .nil pass0 I1 r q
end
end L2
set_option Elab.async false
set_option linter.all false
set_option maxRecDepth 100000
set_option maxHeartbeats 4000000
/-! slices, dicts, conversions; what is owned and changes -/
namespace DN
open PySem PySem.Spec PyProof.Rows L2
/-! ### slices -/
abbrev tOI (K : PySem.W.Frag) (E : XK) (F : W (Option Int)) : TO := tG K E (fun _ a b => a = b) F
theorem poI {X : Cx} {e : Option Expr} {t t' : TO} (h : PO X e t) (m : ∀ σ H Q, t' σ H Q → t σ H Q) : PO X e t' := ⟨fun pins s σ H Q I q => h.run pins s σ H Q I (m σ H Q q)⟩
def partW (F : W D) : W (Option Int) := fun δ P R => F δ (fun d δ1 => isI d fun i => P (some i) δ1) R
abbrev G3 := D → Option Int → Option Int → (D → Prop) → Prop
def slW (g : G3) (F : W D) (L U : W (Option Int)) : W D := fun δ P R => F δ (fun x δ1 => L δ1 (fun l δ2 => U δ2 (fun u δ3 => g x l u fun d => P d δ3) R) R) R
def Prim3 (K : PySem.W.Frag) (r : V → Option Int → Option Int → Hp → VK → Prop) (g : G3) : Prop := ∀ Hm H v x lo hi P Q, Le Hm H → Dq K Hm v x → g x lo hi P → (∀ d u Hm' H', P d → New Hm H Hm' H' → Dq K Hm' u d → Q u H') → r v lo hi H Q
def cutD {α : Type} (xs : List α) (lo hi : Option Int) : List α := (xs.drop (HT.sIx xs.length 0 lo)).take (HT.sIx xs.length xs.length hi - HT.sIx xs.length 0 lo)
theorem DqL.cut {K : PySem.W.Frag} {H : Hp} {vs : List V} {ds : List D} (h : DqL K H vs ds) (lo hi : Option Int) : DqL K H (cutV vs lo hi) (cutD ds lo hi) := by
  unfold cutV cutD
  rw [h.len]
  exact (h.drop _).take _
def gCutL : G3 := fun x lo hi P => isL x fun a => P (.lst (cutD a lo hi))
def gCutT : G3 := fun x lo hi P => isT x fun a => P (.tup (cutD a lo hi))
def gCutS : G3 := fun x lo hi P => isS x fun z => z.length ≤ sizeLine ∧ P (.str (cutS z lo hi))
section
variable {K : PySem.W.Frag}
theorem p_cutL : Prim3 K (rSlL K) gCutL := fun Hm H v x lo hi P Q l hx g k => by
  obtain ⟨a, xs, ds, rfl, rfl, hs, hd, g⟩ := rd_L hx g
  refine ⟨a, xs, rfl, l.seq (.of hs), fun p np => ?_⟩
  have n := New.one l (o := .lst (cutV xs lo hi)) np
  exact k _ _ _ _ g n (.lst upd_same ((hd.cut lo hi).le (.of n.mask)))
theorem cut_whole {α : Type} (xs : List α) (lo hi : Option Int) (h : HT.sIx xs.length 0 lo = 0 ∧ HT.sIx xs.length xs.length hi = xs.length) : cutD xs lo hi = xs := by
  unfold cutD
  rw [h.1, h.2]
  simp
theorem p_cutT : Prim3 K (rSlA K) gCutT := fun Hm H v x lo hi P Q l hx g k => by
  obtain ⟨a, xs, ds, rfl, rfl, hs, hd, g⟩ := rd_T hx g
  refine ⟨a, xs, rfl, l.seqT hs, fun z => ?_, fun z p np => ?_⟩
  · rw [hd.len] at z
    rw [cut_whole ds lo hi z] at g
    exact k _ _ _ _ g (.refl l) hx
  · have n := New.one l (o := .tup (cutV xs lo hi)) np
    exact k _ _ _ _ g n (.tup (.of upd_same) ((hd.cut lo hi).le (.of n.mask)))
theorem p_cutS : Prim3 K rSlS gCutS := fun Hm H v x lo hi P Q l hx g k => by
  obtain ⟨z, rfl, rfl, g⟩ := rd_S hx g
  exact ⟨z, rfl, g.1, k _ _ Hm H g.2 (.refl l) (.str _)⟩
end
section
variable {X : Cx} {E : XK} {e : Expr} {oe : Option Expr} {F Fa Fb : W D} {L U : W (Option Int)}
theorem m_poN (h : PO X oe tNoPart) : PO X oe (tOI X.K E (ret none)) := poI h fun σ H Q ⟨Hm, δ, fp, P, R, env, hF, hP, hR⟩ => hP none δ hF none Hm H fp (.refl ..) env rfl
theorem m_po (h : PO X oe (tPart (tE X.K E F))) : PO X oe (tOI X.K E (partW F)) := poI h fun σ H Q ⟨Hm, δ, fp, P, R, env, hF, hP, hR⟩ =>
  ⟨Hm, δ, fp, _, R, env, hF, fun d δ1 h1 v Hm1 H1 fp1 s1 e1 dv => by
    obtain ⟨i, rfl, rfl, h1⟩ := rd_I dv h1
    exact ⟨i, rfl, hP _ δ1 h1 _ Hm1 H1 fp1 s1 e1 rfl⟩, hR⟩
theorem m_sl {r : V → Option Int → Option Int → Hp → VK → Prop} {g : G3} (h : PE X e (tSl r (tE X.K E F) (tOI X.K E L) (tOI X.K E U))) (p : Prim3 X.K r g) : PE X e (tE X.K E (slW g F L U)) := peI h fun σ H Q ⟨Hm, δ, fp, P, R, env, hF, hP, hR⟩ =>
  ⟨Hm, δ, fp, _, R, env, hF, fun d δ1 h1 v Hm1 H1 fp1 s1 e1 dv => ⟨Hm1, δ1, fp1, _, R, e1, h1, fun lo δ2 h2 lv Hm2 H2 fp2 s2 e2 dl => ⟨Hm2, δ2, fp2, _, R, e2, h2, fun u δ3 h3 uv Hm3 H3 fp3 s3 e3 du => by
    have dl : lv = lo := dl
    have du : uv = u := du
    subst dl du
    exact p Hm3 H3 v d lv uv _ _ e3.sub ((dv.le (.of s2.mask)).le (.of s3.mask)) h3 fun d w Hm4 H4 hp n dw => hP d δ3 hp w Hm4 H4 fp3 (((s1.trans s2).trans s3).trans (n.step _)) (e3.new n) dw, fun e he => (hR e he).step (s1.trans s2)⟩, fun e he => (hR e he).step s1⟩, hR⟩
def gRevT : G1 := fun x P => isT x fun a => P (.tup a.reverse)
def gRevL : G1 := fun x P => isL x fun a => P (.lst a.reverse)
theorem m_revT (h : PE X e (tRevT X.K (tE X.K E F))) : PE X e (tE X.K E (ap1 gRevT F)) := peI h fun σ H Q ⟨Hm, δ, fp, P, R, env, hF, hP, hR⟩ =>
  ⟨Hm, δ, fp, _, R, env, hF, fun d δ1 h1 v Hm1 H1 fp1 s1 e1 dv => by
    obtain ⟨a, xs, ds, rfl, rfl, hs, hd, h1⟩ := rd_T dv h1
    refine ⟨a, xs, rfl, e1.sub.seqT hs, fun p np => ?_⟩
    have n := New.one e1.sub (o := .tup xs.reverse) np
    exact hP _ δ1 h1 _ _ _ fp1 (s1.trans (n.step _)) (e1.new n) (.tup (.of upd_same) (hd.rev.le (.of n.mask))), hR⟩
theorem m_revL (h : PE X e (tRevL X.K (tE X.K E F))) : PE X e (tE X.K E (ap1 gRevL F)) := peI h fun σ H Q ⟨Hm, δ, fp, P, R, env, hF, hP, hR⟩ =>
  ⟨Hm, δ, fp, _, R, env, hF, fun d δ1 h1 v Hm1 H1 fp1 s1 e1 dv => by
    obtain ⟨a, xs, ds, rfl, rfl, hs, hd, h1⟩ := rd_L dv h1
    refine ⟨a, xs, rfl, e1.sub.seq (.of hs), fun p np => ?_⟩
    have n := New.one e1.sub (o := .lst xs.reverse) np
    exact hP _ δ1 h1 _ _ _ fp1 (s1.trans (n.step _)) (e1.new n) (.lst upd_same (hd.rev.le (.of n.mask))), hR⟩
/-! ### dicts that are read -/
def gGet : G2 := fun x y P => isDic x fun kvs => keyD y fun k => optD (vD kvs k) P
def gHas (neg : Bool) : G2 := fun y x P => isDic x fun kvs => keyD y fun k => P (.bl (if neg then !(vD kvs k).isSome else (vD kvs k).isSome))
theorem dic_get {K : PySem.W.Frag} {Hm H : Hp} {a : Addr} {xs : List (Key × V)} {ds : List (Key × D)} (l : Le Hm H) (h : Rd Hm a (.dK xs)) (k : Key) : DGet H a (kV k) (valV xs k) := .inl ⟨xs, k, l.rdD rfl h, rfl, rfl⟩
theorem m_get (h : PE X e (tDGet (tE X.K E Fa) (tE X.K E Fb))) : PE X e (tE X.K E (ap2 gGet Fa Fb)) := peI h fun σ H Q ⟨Hm, δ, fp, P, R, env, hF, hP, hR⟩ =>
  ⟨Hm, δ, fp, _, R, env, hF, fun x δ1 h1 v Hm1 H1 fp1 s1 e1 dv => ⟨Hm1, δ1, fp1, _, R, e1, h1, fun y δ2 h2 w Hm2 H2 fp2 s2 e2 dw => by
    obtain ⟨a, xs, ds, rfl, rfl, hr, hx, h2⟩ := rd_dic (dv.le (.of s2.mask)) h2
    obtain ⟨k, rfl, h2⟩ := of_key dw h2
    obtain ⟨d, hd, h2⟩ := of_opt h2
    rcases hx.val k with ⟨_, z⟩ | ⟨u, d', z1, z2, q⟩
    · rw [z] at hd; cases hd
    · rw [z2] at hd
      cases hd
      exact ⟨a, u, rfl, by have g := dic_get (K := X.K) (ds := ds) e2.sub hr k; rw [z1] at g; exact g, hP _ δ2 h2 u Hm2 H2 fp2 (s1.trans s2) e2 q⟩, fun e he => (hR e he).step s1⟩, hR⟩
theorem x_din : ∀ σ H Q, tE X.K E (ap2 (gHas false) Fa Fb) σ H Q → tDIn (tE X.K E Fa) (tE X.K E Fb) σ H Q := fun σ H Q ⟨Hm, δ, fp, P, R, env, hF, hP, hR⟩ =>
  ⟨Hm, δ, fp, _, R, env, hF, fun y δ1 h1 w Hm1 H1 fp1 s1 e1 dw => ⟨Hm1, δ1, fp1, _, R, e1, h1, fun x δ2 h2 v Hm2 H2 fp2 s2 e2 dv => by
    obtain ⟨a, xs, ds, rfl, rfl, hr, hx, h2⟩ := rd_dic dv h2
    obtain ⟨k, rfl, h2⟩ := of_key (dw.le (.of s2.mask)) h2
    refine ⟨a, _, rfl, dic_get (K := X.K) (ds := ds) e2.sub hr k, ?_⟩
    have ei : (valV xs k).isSome = (vD ds k).isSome := by
      rcases hx.val k with ⟨z1, z2⟩ | ⟨u, d', z1, z2, q⟩
      · rw [z1, z2]; rfl
      · rw [z1, z2]; rfl
    rw [ei]
    exact hP _ δ2 h2 _ Hm2 H2 fp2 (s1.trans s2) e2 (.bl _), fun e he => (hR e he).step s1⟩, hR⟩
theorem m_din (h : PE X e (tDIn (tE X.K E Fa) (tE X.K E Fb))) : PE X e (tE X.K E (ap2 (gHas false) Fa Fb)) := peI h x_din
theorem m_dinT (h : PT X e (tB (tDIn (tE X.K E Fa) (tE X.K E Fb)))) : PT X e (tT X.K E (tst (ap2 (gHas false) Fa Fb))) := m_val (ptI h fun σ H Q => x_din σ H _)
theorem x_dnin : ∀ σ H Q, tE X.K E (ap2 (gHas true) Fa Fb) σ H Q → tDNotIn (tE X.K E Fa) (tE X.K E Fb) σ H Q := fun σ H Q ⟨Hm, δ, fp, P, R, env, hF, hP, hR⟩ =>
  ⟨Hm, δ, fp, _, R, env, hF, fun y δ1 h1 w Hm1 H1 fp1 s1 e1 dw => ⟨Hm1, δ1, fp1, _, R, e1, h1, fun x δ2 h2 v Hm2 H2 fp2 s2 e2 dv => by
    obtain ⟨a, xs, ds, rfl, rfl, hr, hx, h2⟩ := rd_dic dv h2
    obtain ⟨k, rfl, h2⟩ := of_key (dw.le (.of s2.mask)) h2
    refine ⟨a, _, rfl, dic_get (K := X.K) (ds := ds) e2.sub hr k, ?_⟩
    have ei : (valV xs k).isSome = (vD ds k).isSome := by
      rcases hx.val k with ⟨z1, z2⟩ | ⟨u, d', z1, z2, q⟩
      · rw [z1, z2]; rfl
      · rw [z1, z2]; rfl
    rw [ei]
    exact hP _ δ2 h2 _ Hm2 H2 fp2 (s1.trans s2) e2 (.bl _), fun e he => (hR e he).step s1⟩, hR⟩
theorem m_dnin (h : PE X e (tDNotIn (tE X.K E Fa) (tE X.K E Fb))) : PE X e (tE X.K E (ap2 (gHas true) Fa Fb)) := peI h x_dnin
theorem m_dninT (h : PT X e (tB (tDNotIn (tE X.K E Fa) (tE X.K E Fb)))) : PT X e (tT X.K E (tst (ap2 (gHas true) Fa Fb))) := m_val (ptI h fun σ H Q => x_dnin σ H _)
/-- a comparison's value as a test -/
theorem m_tB (h : PT X e (tB (tE X.K E F))) : PT X e (tT X.K E (tst F)) := m_val h
/-! ### conversions -/
def qTup : GN := fun ds P => match ds with
  | [.lst xs] => P (.tup xs)
  | _ => False
theorem p_tup {K : PySem.W.Frag} : PrimN K (rTupL K) qTup := fun Hm H vs ds P Q l hv g k => by
  match ds, vs, hv, g with
  | [.lst xs], [v], .cons hv .nil, g =>
    cases hv with
    | lst a b =>
      refine ⟨_, _, rfl, l.seq (.of a), fun p np => ?_⟩
      exact k _ _ _ _ g (New.one l np) (.tup (.of upd_same) (b.le (.of (same_upd (none_of_le l np)))))
def gList : GN := fun ds P => match ds with
  | [.lst xs] => P (.lst xs)
  | [.tup xs] => P (.lst xs)
  | _ => False
theorem p_list {K : PySem.W.Frag} : PrimN K (fun xs H Q => ∃ p ys, xs = [.ref p] ∧ (SqL K H p ys ∨ SqT K H p ys) ∧ ∀ l, H l = none → Q (.ref l) (upd H l (.lst ys))) gList := fun Hm H vs ds P Q l hv g k => by
  match ds, vs, hv, g with
  | [.lst xs], [v], .cons hv .nil, g =>
    cases hv with
    | lst a b =>
      refine ⟨_, _, rfl, .inl (l.seq (.of a)), fun p np => ?_⟩
      exact k _ _ _ _ g (New.one l np) (.lst upd_same (b.le (.of (same_upd (none_of_le l np)))))
  | [.tup xs], [v], .cons hv .nil, g =>
    cases hv with
    | tup a b =>
      refine ⟨_, _, rfl, .inr (l.seqT a), fun p np => ?_⟩
      exact k _ _ _ _ g (New.one l np) (.lst upd_same (b.le (.of (same_upd (none_of_le l np)))))
def rgW (F : W D) : W D := fun δ P R => F δ (fun d δ1 => isI d fun n => RgOk 0 n ∧ P (.lst (rngD 0 n.toNat)) δ1) R
theorem rgV_dq {K : PySem.W.Frag} {H : Hp} (n : Int) : DqL K H (rgV 0 n) (rngD 0 n.toNat) := by
  unfold rgV rngD
  rw [Int.sub_zero]
  have : ∀ l : List Nat, DqL K H (l.map fun i : Nat => V.int (0 + ((i : Nat) : Int))) (l.map fun i : Nat => D.int (0 + ((i : Nat) : Int))) := fun l => by
    induction l with
    | nil => exact .nil
    | cons x r ih => exact .cons (.int _) ih
  exact this _
theorem m_listRg (h : PE X e (tLstRg (tRg1 (tE X.K E F)))) : PE X e (tE X.K E (rgW F)) := peI h fun σ H Q ⟨Hm, δ, fp, P, R, env, hF, hP, hR⟩ =>
  ⟨Hm, δ, fp, _, R, env, hF, fun d δ1 h1 v Hm1 H1 fp1 s1 e1 dv => by
    obtain ⟨i, rfl, rfl, ok, h1⟩ := rd_I dv h1
    refine ⟨i, rfl, ok, fun p np => ?_⟩
    have n := New.one e1.sub (o := .lst (rgV 0 i)) np
    exact hP _ δ1 h1 _ _ _ fp1 (s1.trans (n.step _)) (e1.new n) (.lst upd_same (rgV_dq i)), hR⟩
end
end DN
set_option Elab.async false
set_option linter.all false
set_option maxRecDepth 100000
set_option maxHeartbeats 4000000
/-! what is owned and changes -/
namespace DN
open PySem PySem.Spec PyProof.Rows L2
def isOL : Sl → (List D → Prop) → Prop
  | .ow (.lst ds), P => P ds
  | _, _ => False
def isOD : Sl → (List (Key × D) → Prop) → Prop
  | .ow (.dic ds), P => P ds
  | _, _ => False
def isOT : Sl → (List (List Key × D) → Prop) → Prop
  | .ow (.dit ds), P => P ds
  | _, _ => False
def isPur : Sl → (Nat → Prop) → Prop
  | .ow (.pur n), P => P n
  | _, _ => False
theorem of_OL {s : Sl} {P : List D → Prop} (h : isOL s P) : ∃ ds, s = .ow (.lst ds) ∧ P ds := by
  match s, h with
  | .ow (.lst ds), h => exact ⟨ds, rfl, h⟩
theorem of_OD {s : Sl} {P : List (Key × D) → Prop} (h : isOD s P) : ∃ ds, s = .ow (.dic ds) ∧ P ds := by
  match s, h with
  | .ow (.dic ds), h => exact ⟨ds, rfl, h⟩
theorem of_OT {s : Sl} {P : List (List Key × D) → Prop} (h : isOT s P) : ∃ ds, s = .ow (.dit ds) ∧ P ds := by
  match s, h with
  | .ow (.dit ds), h => exact ⟨ds, rfl, h⟩
theorem of_Pur {s : Sl} {P : Nat → Prop} (h : isPur s P) : ∃ n, s = .ow (.pur n) ∧ P n := by
  match s, h with
  | .ow (.pur n), h => exact ⟨n, rfl, h⟩
section
variable {K : PySem.W.Frag} {Hm H : Hp} {σ : L2.St} {δ : Env} {fp : Fp}
/-- the one object at slot i is rewritten -/
theorem EnvOk.own1 (env : EnvOk K Hm H σ δ fp) {i : Nat} {o o' : O} {p : Addr} {u : HO} (hs : slot δ i = .ow o) (hv : σ[i]? = some (some (.ref p))) (hg : fp i = [p]) (h : OwAt K Hm (upd H p u) (.ref p) o' [p]) :
    EnvOk K Hm (upd H p u) σ (put δ i (.ow o')) fp ∧ Step Hm H fp Hm (upd H p u) fp :=
  env.own hs hv (fun q w nq e => by rw [upd_ne fun z => nq (by rw [hg, z]; exact List.mem_cons_self)]; exact e) (by rw [hg]; exact h)
/-- the list at slot i -/
theorem EnvOk.olist (env : EnvOk K Hm H σ δ fp) {i : Nat} {ds : List D} (hs : slot δ i = .ow (.lst ds)) : ∃ p xs, σ[i]? = some (some (.ref p)) ∧ fp i = [p] ∧ Hm p = none ∧ H p = some (.lst xs) ∧ DqL K Hm xs ds := by
  obtain ⟨v, a, b⟩ := env.ow i _ hs
  obtain ⟨p, xs, rfl, hg, h1, h2, h3⟩ := b.lst_inv
  exact ⟨p, xs, a, hg, h1, h2, h3⟩
theorem EnvOk.odict (env : EnvOk K Hm H σ δ fp) {i : Nat} {ds : List (Key × D)} (hs : slot δ i = .ow (.dic ds)) : ∃ p xs, σ[i]? = some (some (.ref p)) ∧ fp i = [p] ∧ Hm p = none ∧ H p = some (.dK xs) ∧ DqP K Hm xs ds := by
  obtain ⟨v, a, b⟩ := env.ow i _ hs
  obtain ⟨p, xs, rfl, hg, h1, h2, h3⟩ := b.dic_inv
  exact ⟨p, xs, a, hg, h1, h2, h3⟩
theorem EnvOk.odit (env : EnvOk K Hm H σ δ fp) {i : Nat} {ds : List (List Key × D)} (hs : slot δ i = .ow (.dit ds)) : ∃ p xs, σ[i]? = some (some (.ref p)) ∧ fp i = [p] ∧ Hm p = none ∧ H p = some (.dT xs) ∧ DqP K Hm xs ds := by
  obtain ⟨v, a, b⟩ := env.ow i _ hs
  obtain ⟨p, xs, rfl, hg, h1, h2, h3⟩ := b.dit_inv
  exact ⟨p, xs, a, hg, h1, h2, h3⟩
/-- owned things become shared -/
def toD : O → D
  | .lst ds => .lst ds
  | .dic ds => .dic ds
  | .dit ds => .dit ds
  | .obj C fs => .obj C fs
  | .pur _ => .non
def frz (i : Nat) (δ : Env) : Env := match slot δ i with
  | .ow (.pur _) => δ
  | .ow o => put δ i (.sh (toD o))
  | _ => δ
theorem EnvOk.frz (env : EnvOk K Hm H σ δ fp) (i : Nat) : ∃ Hm' fp', EnvOk K Hm' H σ (frz i δ) fp' ∧ Step Hm H fp Hm' H fp' := by
  unfold DN.frz
  have main : ∀ o, slot δ i = .ow o → (∀ n, o ≠ .pur n) → ∃ Hm' fp', EnvOk K Hm' H σ (put δ i (.sh (toD o))) fp' ∧ Step Hm H fp Hm' H fp' := fun o hs np => by
    obtain ⟨v, a, b⟩ := env.ow i o hs
    have sm : Same Hm fun q => if q ∈ fp i then H q else Hm q := fun q u e => by
      show (if q ∈ fp i then H q else Hm q) = some u
      rw [if_neg fun z => by rw [b.msk q z] at e; cases e]
      exact e
    have hl : Le (fun q => if q ∈ fp i then H q else Hm q) H := fun q u e => by
      have e : (if q ∈ fp i then H q else Hm q) = some u := e
      by_cases z : q ∈ fp i
      · rw [if_pos z] at e; exact .inl e
      · rw [if_neg z] at e; exact env.sub q u e
    have at_ : ∀ {q : Addr}, q ∈ fp i → (fun q => if q ∈ fp i then H q else Hm q) q = H q := fun {q} hq => if_pos hq
    have dq : Dq K (fun q => if q ∈ fp i then H q else Hm q) v (toD o) := by
      generalize hg : fp i = g at b at_ sm
      cases b with
      | lst h1 h2 h3 => exact .lst ((at_ List.mem_cons_self).trans h2) (h3.le (.of sm))
      | dic h1 h2 h3 => exact .dic (.inl ((at_ List.mem_cons_self).trans h2)) (h3.le (.of sm))
      | dit h1 h2 h3 => exact .dit (.inl ((at_ List.mem_cons_self).trans h2)) (h3.le (.of sm))
      | obj h1 h2 n h3 h4 h5 => exact .obj ((at_ List.mem_cons_self).trans h3) (h5.le (.of sm))
      | pur _ _ _ => exact absurd rfl (np _)
    have e1 : EnvOk K (fun q => if q ∈ fp i then H q else Hm q) H σ (put δ i .no) fun j => if j = i then [] else fp j := by
      have e0 := env.forget i
      refine ⟨e0.len, hl, fun j d q => ?_, fun j o q => ?_, e0.non, e0.dis⟩
      · obtain ⟨w, x, y⟩ := e0.sh j d q
        exact ⟨w, x, y.le (.of sm)⟩
      · obtain ⟨w, x, y⟩ := e0.ow j o q
        refine ⟨w, x, y.frame (.of sm) (fun p hp => ?_) fun p hp u e => e⟩
        have ji : j ≠ i := fun z => by rw [if_pos z] at hp; cases hp
        have hp' := hp
        rw [if_neg ji] at hp'
        show (if p ∈ fp i then H p else Hm p) = none
        rw [if_neg fun z => ji (env.dis j i p hp' z)]
        exact y.msk p hp
    have e2 := e1.add_sh i (d := toD o) (by
      rw [slot_put]
      split
      · rfl
      · rename_i n
        exact absurd ⟨rfl, slot_lt (by rw [hs]; nofun)⟩ n) a dq
    have ep : ∀ (δ : Env) (i : Nat) (s s' : Sl), put (put δ i s) i s' = put δ i s' := fun δ => by
      induction δ with
      | nil => intros; rfl
      | cons x r ih =>
        intro i s s'
        cases i with
        | zero => rfl
        | succ i => exact congrArg (x :: ·) (ih i s s')
    rw [ep] at e2
    refine ⟨_, _, e2, sm, fun p u e _ => e, fun j p hp => ?_, fun p u e => ?_, fun _ h => h⟩
    · by_cases z : j = i
      · rw [if_pos z] at hp; cases hp
      · rw [if_neg z] at hp; exact .inl ⟨j, hp⟩
    · have e : (if p ∈ fp i then H p else Hm p) = some u := e
      by_cases z : p ∈ fp i
      · exact .inr (.inl ⟨i, z⟩)
      · rw [if_neg z] at e; exact .inl ⟨u, e⟩
  cases hs : slot δ i with
  | no => exact ⟨Hm, fp, env, .refl ..⟩
  | sh d => exact ⟨Hm, fp, env, .refl ..⟩
  | ow o =>
    cases o with
    | pur n => exact ⟨Hm, fp, env, .refl ..⟩
    | lst _ => exact main _ hs (by nofun)
    | dic _ => exact main _ hs (by nofun)
    | dit _ => exact main _ hs (by nofun)
    | obj _ _ => exact main _ hs (by nofun)
end
def frzS (i : Nat) (F : S) : S := fun δ P => F (frz i δ) P
section
variable {X : Cx} {E : XK} {pn : Nat → Prop} {st : Stmt} {sts : List Stmt} {e : Expr} {F : S} {Fa Fb : W D} {FL : W (List D)} {i : Nat}
theorem s_frz (h : PSs X sts (tS X.K E pn F)) : PSs X sts (tS X.K E pn (frzS i F)) := pssI h fun D σ H ⟨Hm, δ, fp, P, env, hF, k⟩ => by
  obtain ⟨Hm', fp', e, s⟩ := env.frz i
  exact ⟨Hm', _, fp', P, e, hF, k.go s (.refl ..)⟩
/-- an expression that reads slot i alone, frozen ahead of it -/
def frzE (i : Nat) (F : W D) : W D := fun δ P R => F (frz i δ) P R
theorem m_frz (h : PE X e (tE X.K E Fa)) : PE X e (tE X.K E (frzE i Fa)) := peI h fun σ H Q ⟨Hm, δ, fp, P, R, env, hF, hP, hR⟩ => by
  obtain ⟨Hm', fp', e, s⟩ := env.frz i
  exact ⟨Hm', _, fp', P, R, e, hF, fun d δ' h v Hm2 H2 fp2 s2 e2 dv => hP d δ' h v Hm2 H2 fp2 (s.trans s2) e2 dv, fun e he => (hR e he).step s⟩
/-! ### a new list, owned -/
def tOw (K : PySem.W.Frag) (E : XK) (F : W (List D)) : TE := fun σ H Q => ∃ Hm δ fp P R, EnvOk K Hm H σ δ fp ∧ F δ P R ∧
  (∀ ds δ', P ds δ' → ∀ p xs Hm' H' fp', Step Hm H fp Hm' H' fp' → EnvOk K Hm' H' σ δ' fp' → Beside K p Hm' H' fp' (.lst xs) → H p = none → DqL K Hm' xs ds → Q (.ref p) H') ∧ ∀ e, R e → XOk K E Hm H fp e
def okL (F : W (List D)) : W (List D) := fun δ P R => F δ (fun ds δ1 => ds.length ≤ sizeLine ∧ P ds δ1) R
theorem m_owL (h : PE X e (tLst (tL X.K E FL))) : PE X e (tOw X.K E (okL FL)) := peI h fun σ H Q ⟨Hm, δ, fp, P, R, env, hF, hP, hR⟩ =>
  ⟨Hm, δ, fp, _, R, env, hF, fun ds δ1 h1 v Hm1 H1 fp1 s1 e1 dv => ⟨by rw [dv.len]; exact h1.1, fun p hp => by
    obtain ⟨a, b, c⟩ := e1.beside hp (.lst v)
    exact hP _ δ1 h1.2 p v Hm1 _ fp1 (s1.trans c) a b (s1.dom p hp) dv⟩, hR⟩
theorem m_owR (h : PE X e (tOp rRep (tE X.K E Fa) (tE X.K E Fb))) : PE X e (tOw X.K E fun δ P R => Fa δ (fun x δ1 => Fb δ1 (fun y δ2 => gRepL x y fun d => isL d fun ds => P ds δ2) R) R) := peI h fun σ H Q ⟨Hm, δ, fp, P, R, env, hF, hP, hR⟩ =>
  ⟨Hm, δ, fp, _, R, env, hF, fun x δ1 h1 v Hm1 H1 fp1 s1 e1 dv => ⟨Hm1, δ1, fp1, _, R, e1, h1, fun y δ2 h2 w Hm2 H2 fp2 s2 e2 dw => by
    obtain ⟨a, xs, ds, rfl, rfl, hs, hd, g⟩ := rd_L (dv.le (.of s2.mask)) h2
    obtain ⟨n, rfl, rfl, g1, g2, g3, g⟩ := rd_I dw g
    refine ⟨a, n, xs, rfl, rfl, e2.sub.lst hs, g1, g2, by rw [hd.len]; exact g3, fun p np => ?_⟩
    obtain ⟨b1, b2, b3⟩ := e2.beside np (.lst (List.replicate n.toNat xs).flatten)
    exact hP _ δ2 g p _ Hm2 _ fp2 ((s1.trans s2).trans b3) b1 b2 (s1.dom p (s2.dom p np)) (hd.repL n.toNat), fun e he => (hR e he).step s1⟩, hR⟩
def setO (F : W (List D)) (i : Nat) : S := fun δ P => F δ (fun ds δ1 => i < δ1.length ∧ P.nx (put δ1 i (.ow (.lst ds)))) P.er
theorem s_setO {F : W (List D)} (h : PS X st (tAsg (tOw X.K E F) (gName i))) (hi : ¬ pn i) : PS X st (tS X.K E pn (setO F i)) := psI h fun D σ H ⟨Hm, δ, fp, P, env, hF, k⟩ =>
  ⟨Hm, δ, fp, _, _, env, hF, fun ds δ1 h1 p xs Hm1 H1 fp1 s1 e1 b1 np dv => by
    have e2 := e1.put_ow i h1.1 (v := .ref p) (o := .lst ds) (g := [p]) (.lst b1.msk b1.at_ dv) fun j q hq hm => by
      rw [List.mem_singleton.mp hm] at hq
      exact absurd hq (b1.off j)
    exact k.nx _ h1.2 _ Hm1 H1 _ ⟨s1.mask, s1.keep, fun j q hq => by
      by_cases z : j = i
      · rw [if_pos z] at hq
        rw [List.mem_singleton.mp hq]
        exact .inr np
      · rw [if_neg z] at hq
        exact s1.new j q hq, s1.only, s1.dom⟩ e2 (.set hi), k.er⟩
/-! ### a list at a slot changes -/
/-- x.append(e) -/
def appS (i : Nat) (F : W D) : S := fun δ P => isOL (slot δ i) fun _ => F δ (fun y δ1 => isOL (slot δ1 i) fun ds => ds.length < sizeLine ∧ P.nx (put δ1 i (.ow (.lst (ds ++ [y]))))) P.er
theorem tyO {K : PySem.W.Frag} {H : Hp} {p : Addr} {xs : List V} (h : H p = some (.lst xs)) : tyV K "list" (.ref p) H := .inl ⟨rfl, _, .inl (.inl h)⟩
theorem s_app (h : PS X st (tDrop (tBM X.K "list" rAppend (tVar i) (tCons (tE X.K E Fa) tNil)))) : PS X st (tS X.K E pn (appS i Fa)) := psI h fun D σ H ⟨Hm, δ, fp, P, env, hF, k⟩ => by
  obtain ⟨ds0, hs0, hF⟩ := of_OL hF
  obtain ⟨p0, xs0, a0, g0, m0, h0, d0⟩ := env.olist hs0
  refine ⟨_, a0, tyO h0, Hm, δ, fp, _, _, env, hF, fun y δ1 h1 v Hm1 H1 fp1 s1 e1 dv => ?_, k.er⟩
  obtain ⟨ds, hs, few, h1⟩ := of_OL h1
  obtain ⟨p, xs, a, g, m, hp, dq⟩ := e1.olist hs
  rw [a0] at a
  cases a
  obtain ⟨e2, s2⟩ := e1.own1 (u := .lst (xs ++ [v])) hs a0 g (.lst m upd_same (dq.app (.cons dv .nil)))
  exact ⟨_, xs, v, rfl, rfl, hp, by rw [dq.len]; exact few, k.nx _ h1 σ Hm1 _ fp1 (s1.trans s2) e2 (.refl ..)⟩
/-- x.extend(e) -/
def extS (i : Nat) (F : W D) : S := fun δ P => isOL (slot δ i) fun _ => F δ (fun y δ1 => isL y fun es => isOL (slot δ1 i) fun ds => ds.length + es.length ≤ sizeLine ∧ P.nx (put δ1 i (.ow (.lst (ds ++ es))))) P.er
theorem s_ext (h : PS X st (tDrop (tBM X.K "list" rExtend (tVar i) (tCons (tE X.K E Fa) tNil)))) : PS X st (tS X.K E pn (extS i Fa)) := psI h fun D σ H ⟨Hm, δ, fp, P, env, hF, k⟩ => by
  obtain ⟨ds0, hs0, hF⟩ := of_OL hF
  obtain ⟨p0, xs0, a0, g0, m0, h0, d0⟩ := env.olist hs0
  refine ⟨_, a0, tyO h0, Hm, δ, fp, _, _, env, hF, fun y δ1 h1 v Hm1 H1 fp1 s1 e1 dv => ?_, k.er⟩
  obtain ⟨b, ys, es, rfl, rfl, hb, db, h1⟩ := rd_L dv h1
  obtain ⟨ds, hs, few, h1⟩ := of_OL h1
  obtain ⟨p, xs, a, g, m, hp, dq⟩ := e1.olist hs
  rw [a0] at a
  cases a
  obtain ⟨e2, s2⟩ := e1.own1 (u := .lst (xs ++ ys)) hs a0 g (.lst m upd_same (dq.app db))
  exact ⟨_, b, xs, ys, rfl, rfl, hp, e1.sub.lst hb, by rw [dq.len, db.len]; exact few, k.nx _ h1 σ Hm1 _ fp1 (s1.trans s2) e2 (.refl ..)⟩
/-- x.pop() -/
def popW (i : Nat) : W D := fun δ P _ => isOL (slot δ i) fun ds => optD ds[ds.length - 1]? fun d => P d (put δ i (.ow (.lst ds.dropLast)))
theorem DqL.last {K : PySem.W.Frag} {H : Hp} : ∀ {vs : List V} {ds : List D}, DqL K H vs ds → DqL K H vs.dropLast ds.dropLast
  | _, _, .nil => .nil
  | _, _, .cons _ .nil => .nil
  | _, _, .cons h (.cons g r) => .cons h (DqL.last (.cons g r))
theorem m_pop (h : PE X e (tBM0 X.K "list" rPop (tVar i))) : PE X e (tE X.K E (popW i)) := peI h fun σ H Q ⟨Hm, δ, fp, P, R, env, hF, hP, hR⟩ => by
  obtain ⟨ds, hs, hF⟩ := of_OL hF
  obtain ⟨d, ed, hF⟩ := of_opt hF
  obtain ⟨p, xs, a, g, m, hp, dq⟩ := env.olist hs
  obtain ⟨v, ev, dv⟩ := dq.get' ed
  obtain ⟨e2, s2⟩ := env.own1 (u := .lst xs.dropLast) hs a g (.lst m upd_same dq.last)
  exact ⟨_, a, tyO hp, _, xs, v, rfl, rfl, hp, by rw [dq.len]; exact ev, hP d _ hF v Hm _ fp s2 e2 dv⟩
/-- x.pop(k) -/
def popAtW (i : Nat) (F : W D) : W D := fun δ P R => isOL (slot δ i) fun _ => F δ (fun y δ1 => isI y fun j => isOL (slot δ1 i) fun ds => (-(2 ^ 63) ≤ j ∧ j < 2 ^ 63) ∧ optD (seqIndex? j ds.length) fun n => optD ds[n]? fun d => P d (put δ1 i (.ow (.lst (ds.eraseIdx n))))) R
theorem DqL.erase {K : PySem.W.Frag} {H : Hp} : ∀ {vs : List V} {ds : List D} (n : Nat), DqL K H vs ds → DqL K H (vs.eraseIdx n) (ds.eraseIdx n)
  | _, _, _, .nil => .nil
  | _, _, 0, .cons _ h => h
  | _, _, n + 1, .cons a h => .cons a (DqL.erase n h)
theorem m_popAt (h : PE X e (tBM X.K "list" rPopAt (tVar i) (tCons (tE X.K E Fa) tNil))) : PE X e (tE X.K E (popAtW i Fa)) := peI h fun σ H Q ⟨Hm, δ, fp, P, R, env, hF, hP, hR⟩ => by
  obtain ⟨ds0, hs0, hF⟩ := of_OL hF
  obtain ⟨p0, xs0, a0, g0, m0, h0, d0⟩ := env.olist hs0
  refine ⟨_, a0, tyO h0, Hm, δ, fp, _, R, env, hF, fun y δ1 h1 v Hm1 H1 fp1 s1 e1 dv => ?_, hR⟩
  obtain ⟨j, rfl, rfl, h1⟩ := rd_I dv h1
  obtain ⟨ds, hs, ⟨b1, b2⟩, h1⟩ := of_OL h1
  obtain ⟨n, en, h1⟩ := of_opt h1
  obtain ⟨d, ed, h1⟩ := of_opt h1
  obtain ⟨p, xs, a, g, m, hp, dq⟩ := e1.olist hs
  rw [a0] at a
  cases a
  obtain ⟨u, eu, du⟩ := dq.get' ed
  obtain ⟨e2, s2⟩ := e1.own1 (u := .lst (xs.eraseIdx n)) hs a0 g (.lst m upd_same (dq.erase n))
  exact ⟨_, xs, j, n, u, rfl, rfl, hp, b1, b2, by rw [dq.len]; exact en, eu, hP d _ h1 u Hm1 _ fp1 (s1.trans s2) e2 du⟩
/-- x[k] = e -/
def setAtS (i : Nat) (G F : W D) : S := fun δ P => F δ (fun y δ1 => isOL (slot δ1 i) fun _ => G δ1 (fun x δ2 => isI x fun j => isOL (slot δ2 i) fun ds => optD (ixN ds.length j) fun n => P.nx (put δ2 i (.ow (.lst (ds.set n y))))) P.er) P.er
theorem s_setAt (h : PS X st (tAsg (tE X.K E Fa) (gSub (tVar i) (tE X.K E Fb) rSetL))) : PS X st (tS X.K E pn (setAtS i Fb Fa)) := psI h fun D σ H ⟨Hm, δ, fp, P, env, hF, k⟩ =>
  ⟨Hm, δ, fp, _, _, env, hF, fun y δ1 h1 v Hm1 H1 fp1 s1 e1 dv => by
    obtain ⟨ds0, hs0, h1⟩ := of_OL h1
    obtain ⟨p0, xs0, a0, g0, m0, h0, d0⟩ := e1.olist hs0
    refine ⟨_, a0, Hm1, δ1, fp1, _, _, e1, h1, fun x δ2 h2 w Hm2 H2 fp2 s2 e2 dw => ?_, fun e he => (k.er e he).step s1⟩
    obtain ⟨j, rfl, rfl, h2⟩ := rd_I dw h2
    obtain ⟨ds, hs, h2⟩ := of_OL h2
    obtain ⟨n, en, h2⟩ := of_opt h2
    obtain ⟨p, xs, a, g, m, hp, dq⟩ := e2.olist hs
    rw [a0] at a
    cases a
    obtain ⟨e3, s3⟩ := e2.own1 (u := .lst (xs.set n v)) hs a0 g (.lst m upd_same (dq.setAt n (dv.le (.of s2.mask))))
    exact ⟨_, xs, j, n, rfl, rfl, hp, by rw [dq.len]; exact en, k.nx _ h2 σ Hm2 _ fp2 ((s1.trans s2).trans s3) e3 (.refl ..)⟩, k.er⟩
/-- x[k] op= e, x a list of natural numbers -/
def augAtS (i : Nat) (G F : W D) (f : Nat → Nat → Nat) : S := fun δ P => isOL (slot δ i) fun _ => G δ (fun x δ1 => isN x fun j => isOL (slot δ1 i) fun ds => optD ds[j]? fun old => F δ1 (fun y δ2 => isN old fun a => isN y fun b => isOL (slot δ2 i) fun ds2 => j < ds2.length ∧ P.nx (put δ2 i (.ow (.lst (ds2.set j (.int (f a b : Nat))))))) P.er) P.er
theorem s_augAt {f : Nat → Nat → Nat} (h : PS X st (tAugS (tVar i) (tE X.K E Fb) (tE X.K E Fa) rGetN (rN2 f) rSetL)) : PS X st (tS X.K E pn (augAtS i Fb Fa f)) := psI h fun D σ H ⟨Hm, δ, fp, P, env, hF, k⟩ => by
  obtain ⟨ds0, hs0, hF⟩ := of_OL hF
  obtain ⟨p0, xs0, a0, g0, m0, h0, d0⟩ := env.olist hs0
  refine ⟨_, a0, Hm, δ, fp, _, _, env, hF, fun x δ1 h1 v Hm1 H1 fp1 s1 e1 dv => ?_, k.er⟩
  obtain ⟨j, rfl, rfl, h1⟩ := rd_N dv h1
  obtain ⟨ds, hs, h1⟩ := of_OL h1
  obtain ⟨old, eo, h1⟩ := of_opt h1
  obtain ⟨p1, xs1, a1, g1, m1, hp1, dq1⟩ := e1.olist hs
  rw [a0] at a1
  cases a1
  obtain ⟨u, eu, du⟩ := dq1.get' eo
  refine ⟨_, xs1, u, j, rfl, rfl, hp1, eu, Hm1, δ1, fp1, _, _, e1, h1, fun y δ2 h2 w Hm2 H2 fp2 s2 e2 dw => ?_, fun e he => (k.er e he).step s1⟩
  obtain ⟨na, rfl, rfl, h2⟩ := rd_N du h2
  obtain ⟨nb, rfl, rfl, h2⟩ := rd_N dw h2
  obtain ⟨ds2, hs2, jl, h2⟩ := of_OL h2
  obtain ⟨p, xs, a, g, m, hp, dq⟩ := e2.olist hs2
  rw [a0] at a
  cases a
  obtain ⟨e3, s3⟩ := e2.own1 (u := .lst (xs.set j (.int (f na nb : Nat)))) hs2 a0 g (.lst m upd_same (dq.setAt j (.int _)))
  have il : ixN xs.length ((j : Nat) : Int) = some j := by
    unfold ixN
    rw [if_pos (Int.natCast_nonneg j), if_pos (by rw [dq.len]; omega)]
    rfl
  exact ⟨na, nb, rfl, rfl, _, xs, ((j : Nat) : Int), j, rfl, rfl, hp, il, k.nx _ h2 σ Hm2 _ fp2 ((s1.trans s2).trans s3) e3 (.refl ..)⟩
/-! reading what is owned -/
def ixO (i : Nat) (F : W D) : W D := fun δ P R => isOL (slot δ i) fun _ => F δ (fun x δ1 => isI x fun j => isOL (slot δ1 i) fun ds => optD (atI ds j) fun d => P d δ1) R
theorem m_ixO (h : PE X e (tOp (rIxL X.K) (tVar i) (tE X.K E Fa))) : PE X e (tE X.K E (ixO i Fa)) := peI h fun σ H Q ⟨Hm, δ, fp, P, R, env, hF, hP, hR⟩ => by
  obtain ⟨ds0, hs0, hF⟩ := of_OL hF
  obtain ⟨p0, xs0, a0, g0, m0, h0, d0⟩ := env.olist hs0
  refine ⟨_, a0, Hm, δ, fp, _, R, env, hF, fun x δ1 h1 v Hm1 H1 fp1 s1 e1 dv => ?_, hR⟩
  obtain ⟨j, rfl, rfl, h1⟩ := rd_I dv h1
  obtain ⟨ds, hs, h1⟩ := of_OL h1
  obtain ⟨d, ed, h1⟩ := of_opt h1
  obtain ⟨p, xs, a, g, m, hp, dq⟩ := e1.olist hs
  rw [a0] at a
  cases a
  obtain ⟨u, eu, du⟩ := dq_atI dq ed
  exact ⟨_, xs, j, u, rfl, rfl, .of hp, eu, hP d _ h1 u Hm1 H1 fp1 s1 e1 du⟩
def lenO (i : Nat) : W D := fun δ P _ => isOL (slot δ i) fun ds => P (.int (ds.length : Nat)) δ
theorem m_lenO (h : PE X e (tCB (fun xs H Q => ∃ p ys, xs = [.ref p] ∧ (SqL X.K H p ys ∨ SqT X.K H p ys) ∧ Q (.int ys.length) H) (tCons (tVar i) tNil))) : PE X e (tE X.K E (lenO i)) := peI h fun σ H Q ⟨Hm, δ, fp, P, R, env, hF, hP, hR⟩ => by
  obtain ⟨ds, hs, hF⟩ := of_OL hF
  obtain ⟨p, xs, a, g, m, hp, dq⟩ := env.olist hs
  exact ⟨_, a, p, xs, rfl, .inl (.of hp), by rw [dq.len]; exact hP _ _ hF _ Hm H fp (.refl ..) env (.int _)⟩
end
end DN
set_option Elab.async false
set_option linter.all false
set_option maxRecDepth 100000
set_option maxHeartbeats 4000000
/-! dicts that are owned; draws; loops over dicts; isinstance, any, all, sum, min, max -/
namespace DN
open PySem PySem.Spec PyProof.Rows L2
/-- a new object at p, owned: what it is, as data -/
def tOx {α : Type} (K : PySem.W.Frag) (E : XK) (rd : Hp → HO → α → Prop) (F : W α) : TE := fun σ H Q => ∃ Hm δ fp P R, EnvOk K Hm H σ δ fp ∧ F δ P R ∧
  (∀ a δ', P a δ' → ∀ p o Hm' H' fp', Step Hm H fp Hm' H' fp' → EnvOk K Hm' H' σ δ' fp' → Beside K p Hm' H' fp' o → H p = none → rd Hm' o a → Q (.ref p) H') ∧ ∀ e, R e → XOk K E Hm H fp e
abbrev rdD (K : PySem.W.Frag) : Hp → HO → List (Key × D) → Prop := fun Hm o acc => ∃ xs, o = .dK xs ∧ DqP K Hm xs acc
abbrev rdT (K : PySem.W.Frag) : Hp → HO → List (List Key × D) → Prop := fun Hm o acc => ∃ xs, o = .dT xs ∧ DqP K Hm xs acc
abbrev rdL (K : PySem.W.Frag) : Hp → HO → List D → Prop := fun Hm o acc => ∃ xs, o = .lst xs ∧ DqL K Hm xs acc
section
variable {X : Cx} {E : XK} {pn : Nat → Prop} {st : Stmt} {e : Expr} {α : Type} {FI FI1 : W (List D)} {t t1 : T} {FB FB1 : W Bool} {Fa Fb Fk Fv : W D} {FL : W (List D)} {i : Nat} {vs vs1 : List Nat}
theorem own_step {Hm H Hm1 H1 : Hp} {fp fp1 : Fp} {p : Addr} (s1 : Step Hm H fp Hm1 H1 fp1) (np : H p = none) (i : Nat) : Step Hm H fp Hm1 H1 fun j => if j = i then [p] else fp1 j := by
  refine ⟨s1.mask, s1.keep, fun j q hq => ?_, s1.only, s1.dom⟩
  by_cases z : j = i
  · rw [if_pos z] at hq
    rw [List.mem_singleton.mp hq]
    exact .inr np
  · rw [if_neg z] at hq
    exact s1.new j q hq
def setOX (o : α → O) (F : W α) (i : Nat) : S := fun δ P => F δ (fun a δ1 => i < δ1.length ∧ P.nx (put δ1 i (.ow (o a)))) P.er
theorem s_setOX {rd : Hp → HO → α → Prop} {o : α → O} {F : W α} (h : PS X st (tAsg (tOx X.K E rd F) (gName i))) (hi : ¬ pn i) (ok : ∀ {Hm H p ob a}, Hm p = none → H p = some ob → rd Hm ob a → OwAt X.K Hm H (.ref p) (o a) [p]) : PS X st (tS X.K E pn (setOX o F i)) := psI h fun D σ H ⟨Hm, δ, fp, P, env, hF, k⟩ =>
  ⟨Hm, δ, fp, _, _, env, hF, fun a δ1 h1 p ob Hm1 H1 fp1 s1 e1 b1 np r => k.nx _ h1.2 _ Hm1 H1 _ (own_step s1 np i) (e1.put_ow i h1.1 (ok b1.msk b1.at_ r) fun j q hq hm => absurd (by rw [List.mem_singleton.mp hm] at hq; exact hq) (b1.off j)) (.set hi), k.er⟩
theorem ok_dic {K : PySem.W.Frag} {Hm H : Hp} {p : Addr} {ob : HO} {a : List (Key × D)} (h1 : Hm p = none) (h2 : H p = some ob) (r : rdD K Hm ob a) : OwAt K Hm H (.ref p) (.dic a) [p] := by
  obtain ⟨xs, rfl, r⟩ := r
  exact .dic h1 h2 r
theorem ok_dit {K : PySem.W.Frag} {Hm H : Hp} {p : Addr} {ob : HO} {a : List (List Key × D)} (h1 : Hm p = none) (h2 : H p = some ob) (r : rdT K Hm ob a) : OwAt K Hm H (.ref p) (.dit a) [p] := by
  obtain ⟨xs, rfl, r⟩ := r
  exact .dit h1 h2 r
theorem ok_lst {K : PySem.W.Frag} {Hm H : Hp} {p : Addr} {ob : HO} {a : List D} (h1 : Hm p = none) (h2 : H p = some ob) (r : rdL K Hm ob a) : OwAt K Hm H (.ref p) (.lst a) [p] := by
  obtain ⟨xs, rfl, r⟩ := r
  exact .lst h1 h2 r
/-- {} -/
theorem m_owD (h : PE X e (fun _ H Q => ∀ d, H d = none → Q (.ref d) (upd H d (.dK [])))) : PE X e (tOx X.K E (rdD X.K) (ret [])) := peI h fun σ H Q ⟨Hm, δ, fp, P, R, env, hF, hP, hR⟩ => fun d nd => by
  obtain ⟨a, b, c⟩ := env.beside nd (.dK [])
  exact hP _ _ hF d _ Hm _ fp c a b nd ⟨[], rfl, .nil⟩
theorem m_owT (h : PE X e (fun _ H Q => ∀ d, H d = none → Q (.ref d) (upd H d (.dT [])))) : PE X e (tOx X.K E (rdT X.K) (ret [])) := peI h fun σ H Q ⟨Hm, δ, fp, P, R, env, hF, hP, hR⟩ => fun d nd => by
  obtain ⟨a, b, c⟩ := env.beside nd (.dT [])
  exact hP _ _ hF d _ Hm _ fp c a b nd ⟨[], rfl, .nil⟩
/-- a comprehension, owned -/
def cWo {α : Type} (FI : W (List D)) (t : T) (tt : W Bool) (sd : α → Env → (α → Env → Prop) → Prop) (a0 : α) (vs : List Nat) : W α := fun δ P R => FI δ (fun ds δ1 => cL t tt sd vs (fun a δ2 => P a (rst vs δ1 δ2)) ds a0 (clr vs δ1)) R
theorem m_compO {rd : Hp → HO → α → Prop} {stp : Addr → L2.St → Hp → (Hp → Prop) → Prop} {sd : α → Env → (α → Env → Prop) → Prop} {a0 : α} {o0 : HO}
    (h : PE X e (tC (tI X.K E FI) (tgD X.K (fun i => i ∉ vs) t) (tT X.K E0 FB) stp o0 vs)) (ok : IntoOk X.K rd stp sd) (r0 : ∀ Hm, rd Hm o0 a0) (mono : ∀ {Hm Hm' o a}, Same Hm Hm' → rd Hm o a → rd Hm' o a) (nd : vs.Nodup) : PE X e (tOx X.K E rd (cWo FI t FB sd a0 vs)) := peI h fun σ H Q ⟨Hm, δ, fp, P, R, env, hF, hP, hR⟩ =>
  ⟨Hm, δ, fp, _, R, env, hF, fun ds δ0 h0 J Hm0 H0 fp0 s0 e0 it => fun q nq => compCore0 (ok q) r0 mono nd e0 h0 it .none nq fun a δ' h o Hm' H' fp' s e b r _ => hP a δ' h q o Hm' H' fp' (s0.trans s) e b (s0.dom q nq) r, hR⟩
theorem m_lcO (h : PE X e (tLc (tI X.K E FI) (tgD X.K (fun i => i ∉ vs) t) (tT X.K E0 FB) (tE X.K E0 Fa) vs)) (nd : vs.Nodup) : PE X e (tOx X.K E (rdL X.K) (cWo FI t FB (sL Fa) [] vs)) :=
  m_compO (o0 := .lst []) h sL_ok (fun _ => ⟨[], rfl, .nil⟩) (fun s ⟨xs, e, h⟩ => ⟨xs, e, h.le (.of s)⟩) nd
theorem m_dcO (h : PE X e (tDc (tI X.K E FI) (tgD X.K (fun i => i ∉ vs) t) (tT X.K E0 FB) (tE X.K E0 Fk) (tE X.K E0 Fv) vs)) (nd : vs.Nodup) : PE X e (tOx X.K E (rdD X.K) (cWo FI t FB (sD Fk Fv) [] vs)) :=
  m_compO (o0 := .dK []) h sD_ok (fun _ => ⟨[], rfl, .nil⟩) (fun s ⟨xs, e, h⟩ => ⟨xs, e, h.le (.of s)⟩) nd
/-- x = [..], the comprehension stored within its own frame -/
theorem psAsg {t t' : TE} {g : TG} (h : PS X st (tAsg t g)) (m : ∀ σ H Q, t' σ H Q → t σ H Q) : PS X st (tAsg t' g) := psI h fun D σ H q => m σ H _ q
theorem s_lcO (h : PS X st (tAsg (tLc (tI X.K E FI) (tgD X.K (fun i => i ∉ vs) t) (tT X.K E0 FB) (tE X.K E0 Fa) vs) (gName i))) (nd : vs.Nodup) : PS X st (tAsg (tOx X.K E (rdL X.K) (cWo FI t FB (sL Fa) [] vs)) (gName i)) := psAsg h fun σ H Q ⟨Hm, δ, fp, P, R, env, hF, hP, hR⟩ =>
  ⟨Hm, δ, fp, _, R, env, hF, fun ds δ0 h0 J Hm0 H0 fp0 s0 e0 it => fun q nq => compCore0 (sL_ok (K := X.K) (F := Fa) _) (fun _ => ⟨[], rfl, .nil⟩) (fun s ⟨xs, e, h⟩ => ⟨xs, e, h.le (.of s)⟩) nd e0 h0 it .none nq fun a δ' h o Hm' H' fp' s e b r _ => hP a δ' h q o Hm' H' fp' (s0.trans s) e b (s0.dom q nq) r, hR⟩
theorem s_dcO (h : PS X st (tAsg (tDc (tI X.K E FI) (tgD X.K (fun i => i ∉ vs) t) (tT X.K E0 FB) (tE X.K E0 Fk) (tE X.K E0 Fv) vs) (gName i))) (nd : vs.Nodup) : PS X st (tAsg (tOx X.K E (rdD X.K) (cWo FI t FB (sD Fk Fv) [] vs)) (gName i)) := psAsg h fun σ H Q ⟨Hm, δ, fp, P, R, env, hF, hP, hR⟩ =>
  ⟨Hm, δ, fp, _, R, env, hF, fun ds δ0 h0 J Hm0 H0 fp0 s0 e0 it => fun q nq => compCore0 (sD_ok (K := X.K) (Fk := Fk) (Fv := Fv) _) (fun _ => ⟨[], rfl, .nil⟩) (fun s ⟨xs, e, h⟩ => ⟨xs, e, h.le (.of s)⟩) nd e0 h0 it .none nq fun a δ' h o Hm' H' fp' s e b r _ => hP a δ' h q o Hm' H' fp' (s0.trans s) e b (s0.dom q nq) r, hR⟩
/-- .. shared -/
theorem s_lcS (h : PS X st (tAsg (tLc (tI X.K E FI) (tgD X.K (fun i => i ∉ vs) t) (tT X.K E0 FB) (tE X.K E0 Fa) vs) (gName i))) (nd : vs.Nodup) : PS X st (tAsg (tE X.K E (lcW FI t FB Fa vs)) (gName i)) := psAsg h fun σ H Q ⟨Hm, δ, fp, P, R, env, hF, hP, hR⟩ =>
  ⟨Hm, δ, fp, _, R, env, hF, fun ds δ0 h0 J Hm0 H0 fp0 s0 e0 it => fun q nq => compCore (out := .lst) (sL_ok (K := X.K) (F := Fa)) (fun _ => ⟨[], rfl, .nil⟩) (fun s ⟨xs, e, h⟩ => ⟨xs, e, h.le (.of s)⟩) fin_lst nd e0 h0 it .none nq fun d δ' h v Hm' H' fp' s e _ dv => hP d δ' h v Hm' H' fp' (s0.trans s) e dv, hR⟩
theorem s_dcS (h : PS X st (tAsg (tDc (tI X.K E FI) (tgD X.K (fun i => i ∉ vs) t) (tT X.K E0 FB) (tE X.K E0 Fk) (tE X.K E0 Fv) vs) (gName i))) (nd : vs.Nodup) : PS X st (tAsg (tE X.K E (dcW FI t FB Fk Fv vs)) (gName i)) := psAsg h fun σ H Q ⟨Hm, δ, fp, P, R, env, hF, hP, hR⟩ =>
  ⟨Hm, δ, fp, _, R, env, hF, fun ds δ0 h0 J Hm0 H0 fp0 s0 e0 it => fun q nq => compCore (out := .dic) (sD_ok (K := X.K) (Fk := Fk) (Fv := Fv)) (fun _ => ⟨[], rfl, .nil⟩) (fun s ⟨xs, e, h⟩ => ⟨xs, e, h.le (.of s)⟩) fin_dic nd e0 h0 it .none nq fun d δ' h v Hm' H' fp' s e _ dv => hP d δ' h v Hm' H' fp' (s0.trans s) e dv, hR⟩
/-! d[k] = v, d[k], k in d of an owned dict -/
def putS (i : Nat) (Fk Fv : W D) : S := fun δ P => Fv δ (fun y δ1 => isOD (slot δ1 i) fun _ => Fk δ1 (fun x δ2 => keyD x fun k => isOD (slot δ2 i) fun ds => ds.length < sizeLine ∧ P.nx (put δ2 i (.ow (.dic (pD ds k y))))) P.er) P.er
theorem s_put (h : PS X st (sDPut (tVar i) (tE X.K E Fk) (tE X.K E Fv))) : PS X st (tS X.K E pn (putS i Fk Fv)) := psI h fun D σ H ⟨Hm, δ, fp, P, env, hF, k⟩ =>
  ⟨Hm, δ, fp, _, _, env, hF, fun y δ1 h1 v Hm1 H1 fp1 s1 e1 dv => by
    obtain ⟨ds0, hs0, h1⟩ := of_OD h1
    obtain ⟨p0, xs0, a0, g0, m0, h0, d0⟩ := e1.odict hs0
    refine ⟨_, a0, Hm1, δ1, fp1, _, _, e1, h1, fun x δ2 h2 w Hm2 H2 fp2 s2 e2 dw => ?_, fun e he => (k.er e he).step s1⟩
    obtain ⟨ky, rfl, h2⟩ := of_key dw h2
    obtain ⟨ds, hs, few, h2⟩ := of_OD h2
    obtain ⟨p, xs, a, g, m, hp, dq⟩ := e2.odict hs
    rw [a0] at a
    cases a
    obtain ⟨e3, s3⟩ := e2.own1 (u := .dK (putK xs ky v)) hs a0 g (.dic m upd_same (dq.putD ky (dv.le (.of s2.mask))))
    exact ⟨_, _, rfl, .k hp (by rw [dq.len]; exact few), k.nx _ h2 σ Hm2 _ fp2 ((s1.trans s2).trans s3) e3 (.refl ..)⟩, k.er⟩
def getO (i : Nat) (F : W D) : W D := fun δ P R => isOD (slot δ i) fun _ => F δ (fun x δ1 => keyD x fun k => isOD (slot δ1 i) fun ds => optD (vD ds k) fun d => P d δ1) R
theorem m_getO (h : PE X e (tDGet (tVar i) (tE X.K E Fa))) : PE X e (tE X.K E (getO i Fa)) := peI h fun σ H Q ⟨Hm, δ, fp, P, R, env, hF, hP, hR⟩ => by
  obtain ⟨ds0, hs0, hF⟩ := of_OD hF
  obtain ⟨p0, xs0, a0, g0, m0, h0, d0⟩ := env.odict hs0
  refine ⟨_, a0, Hm, δ, fp, _, R, env, hF, fun x δ1 h1 v Hm1 H1 fp1 s1 e1 dv => ?_, hR⟩
  obtain ⟨k, rfl, h1⟩ := of_key dv h1
  obtain ⟨ds, hs, h1⟩ := of_OD h1
  obtain ⟨d, ed, h1⟩ := of_opt h1
  obtain ⟨p, xs, a, g, m, hp, dq⟩ := e1.odict hs
  rw [a0] at a
  cases a
  rcases dq.val k with ⟨_, z⟩ | ⟨u, d', z1, z2, q⟩
  · rw [z] at ed; cases ed
  · rw [z2] at ed
    cases ed
    exact ⟨_, u, rfl, by have g := DGet.k (k := k) hp; rw [z1] at g; exact g, hP d _ h1 u Hm1 H1 fp1 s1 e1 q⟩
def hasO (neg : Bool) (F : W D) (i : Nat) : W D := fun δ P R => F δ (fun x δ1 => keyD x fun k => isOD (slot δ1 i) fun ds => P (.bl (if neg then !(vD ds k).isSome else (vD ds k).isSome)) δ1) R
theorem is_val {κ : Type} [DecidableEq κ] {K : PySem.W.Frag} {H : Hp} {xs : List (κ × V)} {ds : List (κ × D)} (h : DqP K H xs ds) (k : κ) : (valV xs k).isSome = (vD ds k).isSome := by
  rcases h.val k with ⟨z1, z2⟩ | ⟨u, d', z1, z2, q⟩
  · rw [z1, z2]; rfl
  · rw [z1, z2]; rfl
theorem x_dinO : ∀ σ H Q, tE X.K E (hasO false Fa i) σ H Q → tDIn (tE X.K E Fa) (tVar i) σ H Q := fun σ H Q ⟨Hm, δ, fp, P, R, env, hF, hP, hR⟩ =>
  ⟨Hm, δ, fp, _, R, env, hF, fun x δ1 h1 v Hm1 H1 fp1 s1 e1 dv => by
    obtain ⟨k, rfl, h1⟩ := of_key dv h1
    obtain ⟨ds, hs, h1⟩ := of_OD h1
    obtain ⟨p, xs, a, g, m, hp, dq⟩ := e1.odict hs
    exact ⟨_, a, p, _, rfl, DGet.k hp, by rw [is_val dq]; exact hP _ _ h1 _ Hm1 H1 fp1 s1 e1 (.bl _)⟩, hR⟩
theorem m_dinO (h : PE X e (tDIn (tE X.K E Fa) (tVar i))) : PE X e (tE X.K E (hasO false Fa i)) := peI h x_dinO
theorem m_dinOT (h : PT X e (tB (tDIn (tE X.K E Fa) (tVar i)))) : PT X e (tT X.K E (tst (hasO false Fa i))) := m_val (ptI h fun σ H Q => x_dinO σ H _)
theorem x_dninO : ∀ σ H Q, tE X.K E (hasO true Fa i) σ H Q → tDNotIn (tE X.K E Fa) (tVar i) σ H Q := fun σ H Q ⟨Hm, δ, fp, P, R, env, hF, hP, hR⟩ =>
  ⟨Hm, δ, fp, _, R, env, hF, fun x δ1 h1 v Hm1 H1 fp1 s1 e1 dv => by
    obtain ⟨k, rfl, h1⟩ := of_key dv h1
    obtain ⟨ds, hs, h1⟩ := of_OD h1
    obtain ⟨p, xs, a, g, m, hp, dq⟩ := e1.odict hs
    exact ⟨_, a, p, _, rfl, DGet.k hp, by rw [is_val dq]; exact hP _ _ h1 _ Hm1 H1 fp1 s1 e1 (.bl _)⟩, hR⟩
theorem m_dninO (h : PE X e (tDNotIn (tE X.K E Fa) (tVar i))) : PE X e (tE X.K E (hasO true Fa i)) := peI h x_dninO
theorem m_dninOT (h : PT X e (tB (tDNotIn (tE X.K E Fa) (tVar i)))) : PT X e (tT X.K E (tst (hasO true Fa i))) := m_val (ptI h fun σ H Q => x_dninO σ H _)
/-! ### draws -/
theorem EnvOk.opur {K : PySem.W.Frag} {Hm H : Hp} {σ : L2.St} {δ : Env} {fp : Fp} (env : EnvOk K Hm H σ δ fp) {i n : Nat} (hs : slot δ i = .ow (.pur n)) : ∃ p p0 p1 p2, σ[i]? = some (some (.ref p)) ∧ fp i = [p] ∧ Hm p = none ∧ H p = some (.lst [.int p0, .int p1, .int p2]) ∧ PurseOk p0 p1 p2 n := by
  obtain ⟨v, a, b⟩ := env.ow i _ hs
  obtain ⟨p, p0, p1, p2, rfl, hg, h1, h2, h3⟩ := b.pur_inv
  exact ⟨p, p0, p1, p2, a, hg, h1, h2, h3⟩
def drawW (i : Nat) (F : W D) : W D := fun δ P R => isPur (slot δ i) fun _ => F δ (fun x δ1 => isI x fun m => (1 ≤ m ∧ m < 2 ^ 62) ∧ isPur (slot δ1 i) fun n => n < 2 ^ 39 ∧ ∀ d, 0 ≤ d → d < m → P (.int d) (put δ1 i (.ow (.pur (n + 1))))) R
theorem m_draw (h : PE X e (tCall spDraw [] E0 (tCons (tVar i) (tCons (tE X.K E0 Fa) tNil)))) : PE X e (tE X.K E0 (drawW i Fa)) := peI h fun σ H Q ⟨Hm, δ, fp, P, R, env, hF, hP, hR⟩ => by
  obtain ⟨n0, hs0, hF⟩ := of_Pur hF
  obtain ⟨p0, x0, y0, z0, a0, _⟩ := env.opur hs0
  refine ⟨_, a0, Hm, δ, fp, _, R, env, hF, fun x δ1 h1 v Hm1 H1 fp1 s1 e1 dv => ?_, hR⟩
  obtain ⟨m, rfl, rfl, ⟨m1, m2⟩, h1⟩ := rd_I dv h1
  obtain ⟨n, hs, hn, h1⟩ := of_Pur h1
  obtain ⟨p, q0, q1, q2, a, g, mm, hp, B⟩ := e1.opur hs
  rw [a0] at a
  cases a
  refine ⟨_, q0, q1, q2, n, m, rfl, hp, B, hn, m1, m2, fun d r0 r1 r2 d0 d1 B' => ?_⟩
  obtain ⟨e2, s2⟩ := e1.own1 (u := .lst [.int r0, .int r1, .int r2]) hs a0 g (.pur mm upd_same B')
  exact hP _ _ (h1 d d0 d1) _ Hm1 _ fp1 (s1.trans s2) e2 (.int d)
/-! ### a def whose first argument is a purse -/
abbrev UF := Nat → List D → (D → Nat → Prop) → (Er → Prop) → Prop
def spU (K : PySem.W.Frag) (n : Nat) (f : UF) : Sp := fun vs H Q _ => ∃ p vs', vs = .ref p :: vs' ∧ vs'.length = n ∧ ∃ Hm ds P k p0 p1 p2, Le Hm H ∧ Hm p = none ∧ H p = some (.lst [.int p0, .int p1, .int p2]) ∧ PurseOk p0 p1 p2 k ∧ DqL K Hm vs' ds ∧ f k ds P noR ∧
  ∀ d k', P d k' → ∀ v Hm' H' q0 q1 q2, Same Hm Hm' → Le Hm' H' → (∀ b o, H b = some o → b ≠ p → H' b = some o) → (∀ b o, Hm' b = some o → (∃ u, Hm b = some u) ∨ H b = none) → H' p = some (.lst [.int q0, .int q1, .int q2]) → PurseOk q0 q1 q2 k' → Dq K Hm' v d → Q v H'
def fnU (m n : Nat) (F : S) : UF := fun k ds P R => ds.length = m ∧ F (.ow (.pur k) :: env0 (n - 1) ds) { nx := fun δ => isPur (slot δ 0) fun k' => P .non k', rt := fun d δ => isPur (slot δ 0) fun k' => P d k', er := R }
section
variable {Pg : Program} {w : World} {K : PySem.W.Frag} {mg : Str → Option Value} {base : Heap}
theorem u_env {Hm H : Hp} {p : Addr} {N : List Str} {n : Str} {vs : List V} {ds : List D} {k : Nat} {p0 p1 p2 : Int} (l : Le Hm H) (h : DqL K Hm vs ds) (m : Hm p = none) (hp : H p = some (.lst [.int p0, .int p1, .int p2])) (B : PurseOk p0 p1 p2 k) :
    EnvOk K Hm H (L2.start (n :: N) (.ref p :: vs)) (.ow (.pur k) :: env0 N.length ds) fun i => if i = 0 then [p] else [] := by
  have e := env0_ok (N := N) l h
  have es : L2.start (n :: N) (.ref p :: vs) = some (.ref p) :: L2.start N vs := by
    unfold L2.start
    rw [List.length_cons, List.length_cons, Nat.add_sub_add_right]
    rfl
  rw [es]
  refine ⟨by rw [List.length_cons, List.length_cons, e.len], l, fun i d q => ?_, fun i o q => ?_, fun i q => ?_, fun i j p hi hj => ?_⟩
  · cases i with
    | zero => cases q
    | succ i => exact e.sh i d q
  · cases i with
    | zero =>
      cases q
      exact ⟨_, rfl, .pur m hp B⟩
    | succ i =>
      have z : slot (env0 N.length ds) i = .ow o := q
      unfold env0 at z
      rw [slot_app] at z
      cases y : ds[i]? with
      | none => rw [y] at z; cases z
      | some d => rw [y] at z; cases z
  · cases i with
    | zero => exact absurd rfl (q (.pur k))
    | succ i => rfl
  · by_cases a : i = 0
    · by_cases b : j = 0
      · rw [a, b]
      · rw [if_neg b] at hj; cases hj
    · rw [if_neg a] at hi; cases hi
theorem u_ok {x q : Str} {st : Stmt} {f : Addr} {fd : FuncData} {n0 : Str} {N ps : List Str} {k : Nat} {B : S} (F : Fun K x q st f fd) (sc : FnScope (n0 :: N) (n0 :: ps) (defScope st))
    (body : ∀ (cdv : Value) (A : Around) (outer : List PySem.Env) (s : Shared) (H : Hp) (E : XK), Room k (A.deeper (envOfC q (defScope st) s.heap.objs.size f cdv)) → PSs (cxOf CX0 Pg w K mg base (n0 :: N) q (defScope st) f cdv A outer s H E).nox (defBody st) (tS K E0 (fun i => i = 0) B)) :
    FnOk Pg w K mg base CX0 (k + 1) f fd (n0 :: ps) (spU K ps.length (fnU ps.length (N.length + 1) B)) := by
  refine F.ok sc (fun vs H Q E h => ?_) (fun cdv A outer s H vs Q E hr h => ?_)
  · obtain ⟨x, vs', rfl, hl, _⟩ := h
    rw [List.length_cons, List.length_cons, hl]
  · obtain ⟨p, vs', rfl, hl, Hm, ds, Pr, kk, p0, p1, p2, l, m, hp, BB, hv, hf, hq⟩ := h
    have e0 := u_env (n := n0) (N := N) l hv m hp BB
    have nx : ∀ q, q ≠ p → ∀ i, q ∉ (fun i => if i = 0 then [p] else []) i := fun q h1 i z => by
      by_cases y : i = 0
      · rw [y] at z
        have z : q ∈ [p] := z
        exact h1 (List.mem_singleton.mp z)
      · have z : q ∈ (if i = 0 then [p] else []) := z
        rw [if_neg y] at z
        cases z
    have fin : ∀ d δ', (isPur (slot δ' 0) fun k' => Pr d k') → ∀ v σ' Hm' H' fp', Step Hm H (fun i => if i = 0 then [p] else []) Hm' H' fp' → EnvOk K Hm' H' σ' δ' fp' → Pins (fun i => i = 0) (L2.start (n0 :: N) (.ref p :: vs')) σ' → Dq K Hm' v d → Q v H' := fun d δ' h v σ' Hm' H' fp' s' e' p' dv => by
      obtain ⟨k', hs, h⟩ := of_Pur h
      obtain ⟨p2, q0, q1, q2, a, g, mm, hp', B'⟩ := e'.opur hs
      have av : σ'[0]? = some (some (.ref p)) := (p'.at_ 0 rfl).trans rfl
      rw [av] at a
      obtain rfl : p = p2 := by injection (Option.some.inj a) with a; injection a
      refine hq d k' h v Hm' H' q0 q1 q2 s'.mask e'.sub (fun b o e n => s'.keep b o e (nx b n)) (fun b o e => (s'.only b o e).imp_right fun z => z.elim (fun ⟨j, hj⟩ => ?_) id) hp' B' dv
      by_cases y : b = p
      · rw [y, mm] at e; cases e
      · exact absurd hj (nx b y j)
    exact ⟨_, body cdv A outer s H E hr, Hm, _, _, _, e0, hf.2, fun δ' h σ' Hm' H' fp' s' e' p' => fin .non δ' h .non σ' Hm' H' fp' s' e' p' .non, fun d δ' h v σ' Hm' H' fp' s' e' p' dv => fin d δ' h v σ' Hm' H' fp' s' e' p' dv, fun _ h => h.elim, fun _ h => h.elim, fun e h => h.elim⟩
end
/-- f(purse, ..) -/
def callU (f : UF) (i : Nat) (F : W (List D)) : W D := fun δ P R => isPur (slot δ i) fun _ => F δ (fun ds δ1 => isPur (slot δ1 i) fun k => f k ds (fun d k' => P d (put δ1 i (.ow (.pur k')))) noR) R
theorem m_callU {n : Nat} {f : UF} (h : PE X e (tCall (spU X.K n f) [] E0 (tCons (tVar i) (tL X.K E0 FL)))) (len : ∀ k ds P R, f k ds P R → ds.length = n) : PE X e (tE X.K E0 (callU f i FL)) := peI h fun σ H Q ⟨Hm, δ, fp, P, R, env, hF, hP, hR⟩ => by
  obtain ⟨n0, hs0, hF⟩ := of_Pur hF
  obtain ⟨p0, x0, y0, z0, a0, _⟩ := env.opur hs0
  refine ⟨_, a0, Hm, δ, fp, _, R, env, hF, fun ds δ1 h1 v Hm1 H1 fp1 s1 e1 dv => ?_, hR⟩
  obtain ⟨k, hs, h1⟩ := of_Pur h1
  have hl := len _ _ _ _ h1
  obtain ⟨p, q0, q1, q2, a, g, mm, hp, B⟩ := e1.opur hs
  rw [a0] at a
  have hpp : p = p0 := by
    injection (Option.some.inj a) with a
    injection a with a
    exact a.symm
  subst hpp
  show spU X.K n f (.ref p :: (v ++ [])) H1 Q E0
  rw [List.append_nil]
  refine ⟨p, v, rfl, by rw [dv.len]; exact hl, Hm1, ds, _, k, q0, q1, q2, e1.sub, mm, hp, B, dv, h1, fun d k' hd v2 Hm2 H2 r0 r1 r2 mk sub kp ol hp2 B2 dv2 => ?_⟩
  have m2 : Hm2 p = none := by
    cases z : Hm2 p with
    | none => rfl
    | some u =>
      rcases ol p u z with ⟨u, y⟩ | y
      · rw [mm] at y; cases y
      · rw [hp] at y; cases y
  have st : Step Hm1 H1 fp1 Hm2 H2 fp1 := by
    refine ⟨mk, fun b o e n => kp b o e fun z => n i (by rw [g, z]; exact List.mem_cons_self), fun j b hb => .inl ⟨j, hb⟩, fun b o e => (ol b o e).imp_right .inr, fun b z => ?_⟩
    cases y : H1 b with
    | none => rfl
    | some u =>
      by_cases bp : b = p
      · rw [bp, hp2] at z; cases z
      · rw [kp b u y bp] at z; cases z
  have e2 : EnvOk X.K Hm2 H2 σ (put δ1 i (.ow (.pur k'))) fp1 := by
    have hi : i < δ1.length := slot_lt (by rw [hs]; nofun)
    refine ⟨by rw [put_len]; exact e1.len, sub, fun j d e => ?_, fun j o e => ?_, fun j hj => ?_, e1.dis⟩
    · rw [slot_put] at e
      split at e
      · cases e
      · obtain ⟨w, x, y⟩ := e1.sh j d e
        exact ⟨w, x, y.le (.of mk)⟩
    · rw [slot_put] at e
      split at e
      · rename_i z
        cases e
        rw [← z.1]
        exact ⟨_, a0, by rw [g]; exact .pur m2 hp2 B2⟩
      · rename_i z
        have ji : j ≠ i := fun y => z ⟨y.symm, hi⟩
        obtain ⟨w, x, y⟩ := e1.ow j o e
        refine ⟨w, x, y.frame (.of mk) (fun b hb => ?_) fun b hb u e => kp b u e fun z => ji (e1.dis j i b hb (by rw [g, z]; exact List.mem_cons_self))⟩
        cases q : Hm2 b with
        | none => rfl
        | some u =>
          rcases ol b u q with ⟨u, t⟩ | t
          · rw [y.msk b hb] at t; cases t
          · obtain ⟨u, ht⟩ := y.live b hb
            rw [t] at ht; cases ht
    · refine e1.non j fun o q => hj o ?_
      by_cases z : j = i
      · subst z
        exact absurd (by rw [slot_put, if_pos ⟨rfl, hi⟩]) (hj (.pur k'))
      · rw [slot_put, if_neg fun y => z y.1.symm]
        exact q
  exact hP d _ hd v2 Hm2 H2 fp1 (s1.trans st) e2 dv2
/-! ### isinstance -/
def tyD : D → String
  | .non => "NoneType" | .bl _ => "bool" | .int _ => "int" | .str _ => "str" | .lst _ => "list" | .tup _ => "tuple" | .dic _ => "dict" | .dit _ => "dict" | .obj _ _ => "object" | .scr _ => "list"
theorem rd_ty {K : PySem.W.Frag} {Hm H : Hp} (l : Le Hm H) {v : V} {d : D} (h : Dq K Hm v d) (n : ∀ C fs, d ≠ .obj C fs) (n2 : ∀ es, d ≠ .dit es) : TyX K H v (.type (tyD d)) := by
  cases h with
  | non => exact .base .non
  | bl b => exact .base (.bl b)
  | int i => exact .base (.int i)
  | str x => exact .base (.str x)
  | lst h _ => exact .base (.lst (l.lst h))
  | tup h _ => exact tyOfT (l.seqT h)
  | dic h _ =>
    rcases l.rdD rfl h with h | ⟨o, h⟩
    · exact .base (.dK h)
    · exact .fDict h
  | dit h _ => exact absurd rfl (n2 _)
  | obj _ _ => exact absurd rfl (n _ _)
  | scr h => exact tyOfL (l.seq h)
/-- isinstance(x, T), T a built-in class -/
def isiG (T : String) : G1 := fun d P => match d with
  | .obj _ _ => False
  | .dit _ => False
  | d => P (.bl (tyD d == T || (tyD d == "bool" && T == "int")))
end
end DN
set_option Elab.async false
set_option linter.all false
set_option maxRecDepth 100000
set_option maxHeartbeats 4000000
/-! A set whose elements are tuples of ints and texts: searched, added to, laid anew, walked. -/
namespace TKS
open PySem PySem.Spec PyProof.Rows L2
abbrev hk (P : Program) (w : World) (k : List Key) : Int := tupleKeyHash (mixKind P w) k
abbrev IsK (P : Program) (w : World) (h : Heap) (k : List Key) (b : Addr) : Prop := IsTupleKey (mixKind P w) h k b
section
variable {P : Program} {w : World} {A : Around} {E : Value → Shared → Prop} {s : Shared}
theorem item_flat {ks : List Key} {vs : List Value} (h : ItemsAre (mixKind P w) ks vs) : ∀ v ∈ vs, (∃ i t, v = Value.int i t) ∨ ∃ x t, v = Value.str x t := by
  induction h with
  | nil => exact fun v hv => absurd hv List.not_mem_nil
  | @cons k0 v0 ks vs e _ ih =>
    intro v hv
    rcases List.mem_cons.mp hv with q | q
    · rw [q]
      rcases keyIs_shape (show keyIs k0 v0 = true from e) with ⟨i, t, _, z⟩ | ⟨x, t, _, z⟩
      · exact .inl ⟨i, t, z⟩
      · exact .inr ⟨x, t, z⟩
    · exact ih v q
theorem flat_cls (n : Nat) {v : Value} (h : (∃ i t, v = Value.int i t) ∨ ∃ x t, v = Value.str x t) : ofAClassStatement n v = pure false := by
  rcases h with ⟨i, t, rfl⟩ | ⟨x, t, rfl⟩ <;> cases n <;> rfl
theorem flat_hash (n : Nat) {v : Value} (h : (∃ i t, v = Value.int i t) ∨ ∃ x t, v = Value.str x t) : ∃ b, hashByValue n v = pure b := by
  rcases h with ⟨i, t, rfl⟩ | ⟨x, t, rfl⟩
  · exact ⟨true, by cases n <;> rfl⟩
  · exact ⟨false, by cases n <;> rfl⟩
/-- no tuple of plain things is of a class statement -/
theorem cls_no {k : List Key} {b : Addr} {Q : Bool → Shared → Prop} (hk : IsK P w s.heap k b) (h : Q false s) : wpAny (model P w) A (ofAClassStatement 8 (.ref b)) Q E s := by
  have ty := hk.typeIs
  obtain ⟨o, its, n, ho, _, hd, hi⟩ := hk
  have fl := item_flat hi
  unfold ofAClassStatement
  refine wpAny_bind (wpAny_typeOf ty ?_)
  dsimp only
  simp only [show (("tuple" : String) == "tuple") = true by decide, if_true, Bool.not_true, Bool.false_eq_true, if_false]
  try refine wpAny_bind (wpAny_pure ?_)
  try simp only [Bool.not_true, Bool.false_eq_true, if_false]
  show wpAny _ _ (seqItems? (.ref b) >>= _) _ _ s
  refine wpAny_bind (wpAny_seqItems ho hd ?_)
  dsimp only
  refine wpAny_bind ?_
  show wpAny _ _ (forIn its _ _) _ _ s
  rw [← Array.forIn_toList]
  refine wpAny_forIn_list _ (fun l r s' => r.1 = none ∧ s' = s ∧ ∀ v ∈ l, v ∈ its.toList) _ ?_ ?_ _ _ ⟨rfl, rfl, fun _ q => q⟩
  · rintro v l r s' ⟨hr, rfl, al⟩
    rw [flat_cls _ (fl v (al v List.mem_cons_self))]
    refine wpAny_bind (wpAny_pure ?_)
    simp only [Bool.false_eq_true, if_false]
    exact wpAny_pure ⟨rfl, rfl, fun u q => al u (List.mem_cons_of_mem _ q)⟩
  · rintro ⟨r1, r2⟩ s' ⟨hr, rfl, _⟩
    cases hr
    exact wpAny_pure h
/-- whether its hash goes by value: one of the two -/
theorem hash_any {k : List Key} {b : Addr} {Q : Bool → Shared → Prop} (hk : IsK P w s.heap k b) (h : ∀ c, Q c s) : wpAny (model P w) A (hashByValue 8 (.ref b)) Q E s := by
  have ty := hk.typeIs
  obtain ⟨o, its, n, ho, _, hd, hi⟩ := hk
  have fl := item_flat hi
  unfold hashByValue
  refine wpAny_bind (wpAny_specialOf ty F.slot_tuple_hash.lookup ?_)
  show wpAny _ _ (seqItems? (.ref b) >>= _) _ _ s
  refine wpAny_bind (wpAny_seqItems ho hd ?_)
  refine wpAny_bind ?_
  show wpAny _ _ (forIn its _ _) _ _ s
  rw [← Array.forIn_toList]
  refine wpAny_forIn_list _ (fun l r s' => s' = s ∧ r.1 = none ∧ ∀ v ∈ l, v ∈ its.toList) _ ?_ ?_ _ _ ⟨rfl, rfl, fun _ q => q⟩
  · rintro v l r s' ⟨rfl, hr, al⟩
    obtain ⟨c, e⟩ := flat_hash 7 (fl v (al v List.mem_cons_self))
    rw [e]
    refine wpAny_bind (wpAny_pure ?_)
    cases c with
    | true =>
      simp only [Bool.not_true, Bool.false_eq_true, if_false]
      exact wpAny_pure ⟨rfl, rfl, fun u q => al u (List.mem_cons_of_mem _ q)⟩
    | false =>
      simp only [Bool.not_false, if_true]
      exact wpAny_pure (wpAny_pure (h false))
  · rintro ⟨r1, r2⟩ s' ⟨rfl, hr, _⟩
    cases hr
    exact wpAny_pure (h true)
/-- a search among such tuples shows nothing -/
theorem seen_no {k : List Key} {b : Addr} {Q : Bool → Shared → Prop} (hk : IsK P w s.heap k b) {ys : List Value} (hy : ∀ y ∈ ys, ∃ k' c, y = Value.ref c ∧ IsK P w s.heap k' c) (h : Q false s) : wpAny (model P w) A (searchCouldBeSeen (.ref b) ys) Q E s := by
  unfold searchCouldBeSeen
  refine wpAny_bind ?_
  refine wpAny_forIn_list _ (fun l r s' => r.1 = none ∧ s' = s ∧ ∀ y ∈ l, y ∈ ys) _ ?_ ?_ _ _ ⟨rfl, rfl, fun _ q => q⟩
  · rintro v l r s' ⟨hr, rfl, al⟩
    obtain ⟨k', c, rfl, hc⟩ := hy v (al v List.mem_cons_self)
    have tl : ∀ y ∈ l, y ∈ ys := fun u q => al u (List.mem_cons_of_mem _ q)
    dsimp only
    by_cases same : (b == c || (carriedByValue (.ref b) && carriedByValue (.ref c))) = true
    · exact wp_if_pos same (wpAny_pure ⟨rfl, rfl, tl⟩)
    · refine wp_if_neg same (wpAny_bind (wpAny_eqIsQuiet_tuple hk ?_))
      simp only [Bool.not_true, Bool.false_eq_true, if_false]
      refine wpAny_bind (wpAny_eqIsQuiet_tuple hc ?_)
      simp only [Bool.not_true, Bool.false_eq_true, if_false]
      refine wpAny_bind (cls_no hk ?_)
      simp only [Bool.false_eq_true, if_false]
      refine wpAny_bind (cls_no hc ?_)
      simp only [Bool.false_eq_true, if_false]
      exact wpAny_pure ⟨rfl, rfl, tl⟩
  · rintro ⟨r1, r2⟩ s' ⟨hr, rfl, _⟩
    cases hr
    exact wpAny_pure h
/-- the rows of the table for the elements L: where each stands, its key -/
def rowsK (P : Program) (w : World) (L : List (Addr × List Key)) : List (Int × Value) := L.map fun p => (hk P w p.2, Value.ref p.1)
structure Tab (P : Program) (w : World) (h : Heap) (a : Addr) (L : List (Addr × List Key)) (es : Array (Int × Value)) (ep : Nat) (t : SetTable) : Prop where
  ob : ∃ o, h.get? a = some o ∧ o.ExactSet ∧ o.data = .set es ep t
  rows : es.toList = rowsK P w L
  tab : TabOk t (L.map fun p => hk P w p.2)
  nd : (L.map (·.2)).Nodup
  tup : ∀ p ∈ L, IsK P w h p.2 p.1
  led : w.params.followText "set-order" = true ∨ t.led = true
  room : L.length * 5 < t.mask * 3
  few : L.length < 64
variable {a : Addr} {L : List (Addr × List Key)} {es : Array (Int × Value)} {ep : Nat} {t : SetTable}
theorem size_of {es : Array (Int × Value)} {L : List (Addr × List Key)} (e : es.toList = rowsK P w L) : es.size = L.length := by
  rw [← Array.length_toList, e]
  exact List.length_map ..
theorem fits_of (hz : t.place.size = es.size) (hd : t.dummies = #[]) (hm : es.size ≤ t.mask) : t.fits es.size = true := by
  unfold SetTable.fits SetTable.fill
  rw [hd, Bool.and_eq_true, beq_iff_eq, decide_eq_true_eq]
  exact ⟨hz, by show t.place.size + 0 ≤ t.mask; omega⟩
theorem Tab.fit (R : Tab P w s.heap a L es ep t) : t.fits es.size = true := by
  have z := R.tab.sz
  rw [List.length_map] at z
  have := size_of R.rows
  have := R.room
  exact fits_of (by omega) R.tab.dm (by omega)
theorem row_at {es : Array (Int × Value)} {L : List (Addr × List Key)} (e : es.toList = rowsK P w L) {i : Nat} {p : Addr × List Key} (h : L[i]? = some p) : es[i]? = some (hk P w p.2, Value.ref p.1) := by
  rw [← Array.getElem?_toList, e]
  unfold rowsK
  rw [List.getElem?_map, h]
  rfl
theorem probe_dummy (m : Nat) : ∀ (n : Nat) (p : SetTable.Probe), p.dummy = none → (nth m p n).dummy = none
  | 0, _, h => h
  | n + 1, p, h => probe_dummy m n (adv m p) (by unfold adv; split <;> exact h)
end
end TKS
set_option Elab.async false
set_option linter.all false
set_option maxRecDepth 100000
set_option maxHeartbeats 4000000
namespace TKS
open PySem PySem.Spec PyProof.Rows L2
section
variable {P : Program} {w : World} {A : Around} {E : Value → Shared → Prop} {s : Shared} {a : Addr} {L : List (Addr × List Key)} {es : Array (Int × Value)} {ep : Nat} {t : SetTable}
/-- the way's state at its c-th step -/
abbrev stp (m : Nat) (g : Int) (c : Nat) : SetTable.Probe := nth m (runAt m (SetTable.bits g % (m + 1)) (SetTable.bits g)) c
theorem stp_add (m : Nat) (g : Int) (c q : Nat) : nth m (stp m g c) q = stp m g (c + q) := (nth_add m c _ q).symm
/-- from the c-th step on, K the first empty place: it ends at an equal element or at K -/
theorem search_go (R : Tab P w s.heap a L es ep t) {x : Addr} {k : List Key} (hx : IsK P w s.heap k x) (hu : A.units < cLine) {K : Nat} (hf : K < 10 * SetTable.turns t.mask)
    (h0 : way t.mask (hk P w k) K ∉ t.place.toList) (hb : ∀ c, c < K → way t.mask (hk P w k) c ∈ t.place.toList) {Q : SetFound → Shared → Prop}
    (yes : k ∈ L.map (·.2) → Q (.there none) s) (no : k ∉ L.map (·.2) → Q (.free (way t.mask (hk P w k) K) false) s) :
    ∀ (f c : Nat) (st : Option SetTable.Probe), st.getD (t.probeStart (hk P w k)) = stp t.mask (hk P w k) c → c ≤ K → K - c < f →
      (∀ (i : Nat) p, L[i]? = some p → p.2 = k → ∃ c', c ≤ c' ∧ c' < K ∧ t.place.toList[i]? = some (way t.mask (hk P w k) c')) →
      wpAny (model P w) A (setSearchFrom a (.ref x) (hk P w k) true f st) Q E s := by
  intro f
  induction f with
  | zero => exact fun c st _ _ z => absurd z (Nat.not_lt_zero _)
  | succ f ih =>
    intro c st hst hc hfu hre
    obtain ⟨o, ho, hex, hd⟩ := R.ob
    have odd : ¬ t.gaveWay = true := by
      unfold SetTable.gaveWay
      rw [mask_odd R.tab.mok]
      decide
    have dn : (stp t.mask (hk P w k) c).dummy = none := probe_dummy _ _ _ rfl
    have at_ : ∀ q, (nth t.mask (stp t.mask (hk P w k) c) q).j = way t.mask (hk P w k) (c + q) := fun q => congrArg SetTable.Probe.j (stp_add _ _ c q)
    have hrow : ∀ (i : Nat) p, L[i]? = some p → ((es[i]?.map (·.1)).getD 0) = hk P w p.2 := fun i p e => by
      rw [row_at R.rows e]
      rfl
    have spec := go_spec t R.tab.ris R.tab.dm (fun i => (es[i]?.map (·.1)).getD 0) (hk P w k) (10 * SetTable.turns t.mask) (K - c) (stp t.mask (hk P w k) c) dn (by omega)
      (fun q z => by rw [at_]; exact hb _ (by omega)) (by rw [at_, Nat.add_sub_cancel' hc]; exact h0)
    rw [setSearchFrom_succ]
    refine wpAny_bind (wpAny_setState_of ho hd R.fit ?_)
    dsimp only
    refine wp_if_neg odd ?_
    try refine wpAny_bind (wpAny_pure ?_)
    rcases spec with ⟨q, i, hq, hi, hh, fresh, found⟩ | ⟨fresh, found⟩
    · have pr : t.probe (fun i => (es[i]?.map (·.1)).getD 0) (hk P w k) (st.getD (t.probeStart (hk P w k))) = some (.candidate (way t.mask (hk P w k) (c + q)) i (stp t.mask (hk P w k) (c + (q + 1)))) := by
        rw [hst, ← at_, ← stp_add]
        exact found
      rw [pr]
      dsimp only
      rw [at_] at hi
      have il : i < L.length := by
        have z1 := (List.getElem?_eq_some_iff.mp hi).1
        have z2 := R.tab.sz
        rw [List.length_map] at z2
        rw [Array.length_toList] at z1
        omega
      obtain ⟨p, hp⟩ : ∃ p, L[i]? = some p := ⟨_, List.getElem?_eq_getElem il⟩
      have mem : p ∈ L := List.mem_of_getElem? hp
      have live := slot_live R.tab.ris hi
      have tail : wpAny (model P w) A (searchRest a (.ref x) (hk P w k) true f es t (way t.mask (hk P w k) (c + q)) i (stp t.mask (hk P w k) (c + (q + 1)))) Q E s := by
        unfold searchRest
        rw [row_at R.rows hp]
        dsimp only
        refine wpAny_bind (wpAny_holding (wpAny_eqBool_tuple hu (R.tup p mem) hx ?_))
        refine wpAny_bind (wpAny_setState_of ho hd R.fit ?_)
        dsimp only
        by_cases eq : p.2 = k
        · exact wp_if_pos (by simp [eq]) (wpAny_pure (yes (List.mem_map.mpr ⟨p, mem, eq⟩)))
        · refine wp_if_neg (by simp [eq]) ?_
          try refine wpAny_bind (wpAny_pure ?_)
          rw [sameMem]
          dsimp only
          simp only [if_true, live, row_at R.rows hp]
          refine wpAny_bind (wpAny_isSame_ref_self (wpAny_bind (wpAny_pure ?_)))
          simp only [if_true]
          refine wp_if_neg (by simp [eq]) (ih (c + (q + 1)) _ rfl (by omega) (by omega) fun i0 p0 e0 k0 => ?_)
          obtain ⟨c', b1, b2, b3⟩ := hre i0 p0 e0 k0
          refine ⟨c', ?_, b2, b3⟩
          by_cases lt : c' < c + q
          · refine absurd ((hrow i0 p0 e0).trans (congrArg (hk P w) k0)) (fresh (c' - c) i0 (by omega) ?_)
            rw [at_, Nat.add_sub_cancel' b1]
            exact b3
          · by_cases e2 : c' = c + q
            · rw [e2] at b3
              have z := slot_live R.tab.ris b3
              rw [live] at z
              injection z with z
              rw [← z, hp] at e0
              exact absurd ((congrArg Prod.snd (Option.some.inj e0)).trans k0) eq
            · omega
      by_cases ld : t.led = true
      · refine wp_if_neg (by simp [ld]) ?_
        try refine wpAny_bind (wpAny_pure ?_)
        exact tail
      · refine wp_if_pos (by simp [ld]) (wpAny_bind (seen_no hx (fun y hy => ?_) (wp_if_neg (by decide) ?_)))
        · obtain ⟨e, he, rfl⟩ := List.mem_map.mp hy
          have he2 : e ∈ es.toList := by simpa using (show e ∈ es ∧ e.1 = hk P w k by simpa using he).1
          rw [R.rows] at he2
          obtain ⟨p2, m2, rfl⟩ := List.mem_map.mp he2
          exact ⟨p2.2, p2.1, rfl, R.tup p2 m2⟩
        · try refine wpAny_bind (wpAny_pure ?_)
          exact tail
    · have pr : t.probe (fun i => (es[i]?.map (·.1)).getD 0) (hk P w k) (st.getD (t.probeStart (hk P w k))) = some (.empty (way t.mask (hk P w k) K) none) := by
        have z : way t.mask (hk P w k) K = (nth t.mask (stp t.mask (hk P w k) c) (K - c)).j := by rw [at_, Nat.add_sub_cancel' hc]
        rw [hst, z]
        exact found
      rw [pr]
      dsimp only
      refine wpAny_pure (no fun hm => ?_)
      obtain ⟨p0, m0, k0⟩ := List.mem_map.mp hm
      obtain ⟨i0, hi0⟩ := List.getElem?_of_mem m0
      obtain ⟨c', b1, b2, b3⟩ := hre i0 p0 hi0 k0
      refine fresh (c' - c) i0 (by omega) ?_ ((hrow i0 p0 hi0).trans (congrArg (hk P w) k0))
      rw [at_, Nat.add_sub_cancel' b1]
      exact b3
theorem search_ok (R : Tab P w s.heap a L es ep t) {x : Addr} {k : List Key} (hx : IsK P w s.heap k x) (hu : A.units < cLine) {Q : SetFound → Shared → Prop} (yes : k ∈ L.map (·.2) → Q (.there none) s)
    (no : ∀ K, k ∉ L.map (·.2) → way t.mask (hk P w k) K ∉ t.place.toList → (∀ c, c < K → way t.mask (hk P w k) c ∈ t.place.toList) → Q (.free (way t.mask (hk P w k) K) false) s) :
    wpAny (model P w) A (setSearch a (.ref x) (hk P w k) true) Q E s := by
  have room := R.room
  obtain ⟨K, k1, k2, k3⟩ := R.tab.first (by rw [List.length_map]; omega) (hk P w k)
  have few : 10 * SetTable.turns t.mask ≤ 1420 := by
    unfold SetTable.turns
    rcases R.tab.mok with e | e | e <;> omega
  unfold setSearch
  refine search_go R hx hu k1 k2 k3 yes (fun n => no K n k2 k3) 100000 0 none rfl (Nat.zero_le _) (by omega) fun i p hp hpk => ?_
  have hi : (L.map fun p => hk P w p.2)[i]? = some (hk P w k) := by
    rw [List.getElem?_map, hp, ← hpk]
    rfl
  have il : i < t.place.toList.length := by
    have z1 := (List.getElem?_eq_some_iff.mp hp).1
    have z2 := R.tab.sz
    rw [List.length_map] at z2
    rw [Array.length_toList]
    omega
  have hj := List.getElem?_eq_getElem il
  obtain ⟨c, b1, b2⟩ := R.tab.before k2 hi hj
  exact ⟨c, Nat.zero_le _, b1, by rw [hj, b2]⟩
/-- an element is no set -/
theorem IsK.but {h h' : Heap} {k : List Key} {a b : Addr} {o : Obj} {es : Array (Int × Value)} {ep : Nat} {t : SetTable} (hb : IsK P w h k b) (ho : h.get? a = some o) (hd : o.data = .set es ep t) (sb : Heap.SameBut a h h') : IsK P w h' k b := by
  obtain ⟨o', its, n, e1, e2, e3, e4⟩ := hb
  have ne : b ≠ a := fun z => by
    rw [z, ho] at e1
    cases e1
    rw [hd] at e3
    cases e3
  exact ⟨o', its, n, (sb.2 b ne).trans e1, e2, e3, e4⟩
theorem IsK.keep {h h' : Heap} {k : List Key} {b : Addr} (x : IsK P w h k b) (kp : ∀ o, h.get? b = some o → h'.get? b = some o) : IsK P w h' k b := by
  obtain ⟨o, its, n, e1, e⟩ := x
  exact ⟨o, its, n, kp o e1, e⟩
/-- the rows in another order -/
theorem rows_order (L : List (Addr × List Key)) (es : Array (Int × Value)) (hr : es.toList = rowsK P w L) : ∀ l : List Nat, (∀ i ∈ l, i < L.length) →
    l.filterMap (fun i => es[i]?) = rowsK P w (l.filterMap fun i => L[i]?) ∧ ((l.filterMap fun i => L[i]?).map fun p => hk P w p.2) = l.map fun i => (es.map (·.1)).getD i 0
  | [], _ => ⟨rfl, rfl⟩
  | i :: l, hl => by
    obtain ⟨e1, e2⟩ := rows_order L es hr l fun j hj => hl j (List.mem_cons_of_mem _ hj)
    have hi := hl i List.mem_cons_self
    have hp := List.getElem?_eq_getElem hi
    have he := row_at hr hp
    rw [List.filterMap_cons_some he, List.filterMap_cons_some hp, e1, List.map_cons, List.map_cons, e2]
    refine ⟨rfl, ?_⟩
    congr 1
    rw [Array.getD_eq_getD_getElem?, Array.getElem?_map, he]
    rfl
theorem range_get {α : Type} (L : List α) : (List.range L.length).filterMap (fun i => L[i]?) = L := by
  have go : ∀ n, n ≤ L.length → (List.range n).filterMap (fun i => L[i]?) = L.take n := by
    intro n
    induction n with
    | zero => exact fun _ => rfl
    | succ n ih =>
      intro hn
      rw [List.range_succ, List.filterMap_append, ih (Nat.le_of_lt hn), List.take_add_one, List.getElem?_eq_getElem hn, List.filterMap_cons_some (List.getElem?_eq_getElem hn)]
      rfl
  rw [go _ (Nat.le_refl _), List.take_length]
end
end TKS
set_option Elab.async false
set_option linter.all false
set_option maxRecDepth 100000
set_option maxHeartbeats 4000000
namespace TKS
open PySem PySem.Spec PyProof.Rows L2
section
variable {P : Program} {w : World} {A : Around} {E : Value → Shared → Prop} {s : Shared} {a : Addr} {L : List (Addr × List Key)} {es : Array (Int × Value)} {ep : Nat} {t : SetTable}
/-- all of a table's word but the room -/
structure Pre (P : Program) (w : World) (h : Heap) (a : Addr) (L : List (Addr × List Key)) (es : Array (Int × Value)) (ep : Nat) (t : SetTable) : Prop where
  ob : ∃ o, h.get? a = some o ∧ o.ExactSet ∧ o.data = .set es ep t
  rows : es.toList = rowsK P w L
  tab : TabOk t (L.map fun p => hk P w p.2)
  nd : (L.map (·.2)).Nodup
  tup : ∀ p ∈ L, IsK P w h p.2 p.1
  led : w.params.followText "set-order" = true ∨ t.led = true
  few : L.length < 64
theorem Pre.tab_ (R : Pre P w s.heap a L es ep t) (room : L.length * 5 < t.mask * 3) : Tab P w s.heap a L es ep t := ⟨R.ob, R.rows, R.tab, R.nd, R.tup, R.led, room, R.few⟩
/-- laid anew, larger -/
theorem relay_ok (R : Pre P w s.heap a L es ep t) (hfl : es.size ≤ t.mask) {wanted M : Nat} (hw : SetTable.sizeAbove wanted - 1 = M) (hM : MaskOk M) (hw2 : SetTable.sizeAbove wanted ≤ 128) (hn : L.length * 5 < M * 3) {Q : Unit → Shared → Prop}
    (q : ∀ h' L' es' ep' t', Heap.SameBut a s.heap h' → Tab P w h' a L' es' ep' t' → L'.Perm L → Q () { s with heap := h' }) : wpAny (model P w) A (setRelay a wanted) Q E s := by
  obtain ⟨o, ho, hex, hd⟩ := R.ob
  have hz := size_of R.rows
  have tz := R.tab.sz
  rw [List.length_map] at tz
  obtain ⟨t', order, e, pm, T, em, el, _, _⟩ := relaid_ok t (hs := es.map (·.1)) (wanted := wanted) hw hM (by rw [Array.size_map]; omega)
  rw [Array.size_map, hz] at pm
  have inb : ∀ i ∈ order.toList, i < L.length := fun i hi => List.mem_range.mp (pm.mem_iff.mp hi)
  obtain ⟨r1, r2⟩ := rows_order L es R.rows order.toList inb
  have pL : (order.toList.filterMap fun i => L[i]?).Perm L := by
    have z := pm.filterMap fun i => L[i]?
    rw [range_get] at z
    exact z
  have r1' : (order.filterMap (es[·]?)).toList = rowsK P w (order.toList.filterMap fun i => L[i]?) := by first | (rw [Array.toList_filterMap]; exact r1) | simpa using r1
  rw [← r2] at T
  generalize order.toList.filterMap (fun i => L[i]?) = L2 at T pL r1'
  have z2 : (order.filterMap (es[·]?)).size = es.size := by rw [size_of r1', pL.length_eq, hz]
  rw [setRelay_eq]
  refine wpAny_bind (wpAny_setState_of ho hd (fits_of (by omega) R.tab.dm hfl) ?_)
  dsimp only
  refine wp_if_neg (by rw [sizeLine_eq]; omega) ?_
  try refine wpAny_bind (wpAny_pure ?_)
  rw [e]
  dsimp only
  refine wpAny_bind (wp_if_neg (by rw [z2]; simp) ?_)
  try refine wpAny_bind (wpAny_pure ?_)
  refine wpAny_pure ?_
  dsimp only
  have few := R.few
  refine wpAny_storeSet_of ho hd ?_ (by rw [z2, hz, sizeLine_eq]; omega)
  have sb : Heap.SameBut a s.heap (s.heap.update a (Obj.putSet (order.filterMap (es[·]?)) t')) := Heap.SameBut.update ..
  exact q _ L2 (order.filterMap (es[·]?)) (ep + 1) t' sb ⟨⟨_, store_at ho hd, ⟨hex.1, hex.2.1, hex.2.2⟩, rfl⟩, r1', T, (pL.map (·.2)).nodup_iff.mpr R.nd, fun p hp => (R.tup p (pL.mem_iff.mp hp)).but ho hd sb,
    by rw [el]; exact R.led, by rw [pL.length_eq, em]; exact hn, by rw [pL.length_eq]; exact few⟩ pL
theorem tab_plain {t : SetTable} {hs : List Int} (T : TabOk t hs) (b : Bool) : TabOk { t with plain := b } hs := ⟨T.ris, T.dm, T.sz, T.mok, T.bd, T.reach⟩
/-- adding: an equal element is there, or it's one more -/
theorem add_ok (R : Tab P w s.heap a L es ep t) {x : Addr} {k : List Key} (hx : IsK P w s.heap k x) (hu : A.units < cLine) (hfew : L.length + 1 < 64) {Q : Bool → Shared → Prop}
    (q : ∀ b h' L' es' ep' t', Heap.SameBut a s.heap h' → Tab P w h' a L' es' ep' t' → (k ∈ L.map (·.2) → L' = L) → (k ∉ L.map (·.2) → L'.Perm ((x, k) :: L)) → Q b { s with heap := h' }) :
    wpAny (model P w) A (setAddHashed a (.ref x) (hk P w k)) Q E s := by
  obtain ⟨o, ho, hex, hd⟩ := R.ob
  have hz := size_of R.rows
  have room := R.room
  unfold setAddHashed
  refine wpAny_holding ?_
  rw [show (100000 : Nat) = 99999 + 1 from rfl, setAddHashedIn_succ]
  refine wpAny_bind (wpAny_setState_of ho hd R.fit ?_)
  dsimp only
  refine wp_if_neg (by simp [byScan, Value.scannable]) ?_
  try refine wpAny_bind (wpAny_pure ?_)
  refine wpAny_bind (search_ok R hx hu (fun hm => ?_) fun K hm hK hb => ?_)
  · dsimp only
    exact wpAny_pure (q false s.heap L es ep t (Heap.SameBut.refl a s.heap) R (fun _ => rfl) fun z => absurd hm z)
  · dsimp only
    refine wpAny_bind (wpAny_setState_of ho hd R.fit ?_)
    dsimp only
    obtain ⟨g1, g2, g3, g4, g5, _, _, _, g9⟩ := R.tab.put hK hb
    generalize hpt : t.put (way t.mask (hk P w k) K) = pt at g1 g3 g4 g5 g9 ⊢
    obtain ⟨t1, p⟩ := pt
    dsimp only at g1 g3 g4 g5 g9 ⊢
    rw [← g1] at g2 g3
    -- behind the look at the hash: plain or not, the table is the same else
    have rest : ∀ c : Bool, wpAny (model P w) A (do
        let t' := if c = true then t1 else { t1 with plain := false }
        storeSet a (SetTable.insertAt es p (hk P w k, Value.ref x)) t'
        if !false && t'.tooFull then setRelay a (SetTable.grown (es.size + 1))
        pure true) Q E s := by
      intro c
      have T2 : TabOk (if c = true then t1 else { t1 with plain := false }) ((L.map fun p => hk P w p.2).take p ++ hk P w k :: (L.map fun p => hk P w p.2).drop p) := by
        cases c with
        | true => exact g3
        | false => exact tab_plain g3 false
      have m2 : (if c = true then t1 else { t1 with plain := false }).mask = t.mask := by cases c <;> exact g4
      have l2 : (if c = true then t1 else { t1 with plain := false }).led = t.led := by cases c <;> exact g5
      have f2 : (if c = true then t1 else { t1 with plain := false }).fill = L.length + 1 := by
        rw [List.length_map] at g9
        cases c <;> exact g9
      dsimp only
      generalize (if c = true then t1 else { t1 with plain := false }) = t2 at T2 m2 l2 f2 ⊢
      have hin : (SetTable.insertAt es p (hk P w k, Value.ref x)).toList = rowsK P w (L.take p ++ (x, k) :: L.drop p) := by
        rw [SetTable.toList_insertAt, R.rows]
        unfold rowsK
        rw [List.map_append, List.map_cons, List.map_take, List.map_drop]
      have hhs : (L.map fun p => hk P w p.2).take p ++ hk P w k :: (L.map fun p => hk P w p.2).drop p = (L.take p ++ (x, k) :: L.drop p).map fun p => hk P w p.2 := by
        rw [List.map_append, List.map_cons, List.map_take, List.map_drop]
      rw [hhs] at T2
      have pm : (L.take p ++ (x, k) :: L.drop p).Perm ((x, k) :: L) := put_perm L p (x, k)
      have hes := size_of hin
      rw [pm.length_eq, List.length_cons] at hes
      generalize SetTable.insertAt es p (hk P w k, Value.ref x) = es1 at hin hes ⊢
      generalize L.take p ++ (x, k) :: L.drop p = L1 at hin T2 pm
      have len1 : L1.length = L.length + 1 := pm.length_eq
      refine wpAny_bind (wpAny_storeSet_of ho hd ?_ (by rw [hes, sizeLine_eq]; omega))
      have sb : Heap.SameBut a s.heap (s.heap.update a (Obj.putSet es1 t2)) := Heap.SameBut.update ..
      have R1 : Pre P w (s.heap.update a (Obj.putSet es1 t2)) a L1 es1 (ep + 1) t2 := by
        refine ⟨⟨_, store_at ho hd, ⟨hex.1, hex.2.1, hex.2.2⟩, rfl⟩, hin, T2, ?_, fun p hp => ?_, by rw [l2]; exact R.led, by rw [len1]; exact hfew⟩
        · refine (pm.map (·.2)).nodup_iff.mpr ?_
          rw [List.map_cons]
          exact List.nodup_cons.mpr ⟨hm, R.nd⟩
        · rcases List.mem_cons.mp (pm.mem_iff.mp hp) with z | z
          · rw [z]
            exact IsK.but hx ho hd sb
          · exact IsK.but (R.tup p z) ho hd sb
      generalize s.heap.update a (Obj.putSet es1 t2) = h1 at sb R1 ⊢
      by_cases full : t2.tooFull = true
      · first
          | (refine wpAny_bind ?_; refine wp_if_pos (by simp [full]) ?_)
          | (refine wp_if_pos (by simp [full]) ?_; refine wpAny_bind ?_)
        have big : (L.length + 1) * 5 ≥ t2.mask * 3 := by
          have z := full
          unfold SetTable.tooFull at z
          rw [decide_eq_true_eq, f2] at z
          exact z
        rw [hz]
        have two : (t.mask = 7 ∧ L.length = 4) ∨ (t.mask = 31 ∧ L.length = 18) := by
          rcases R.tab.mok with e | e | e
          · left; rw [m2, e] at big; rw [e] at room; exact ⟨e, by omega⟩
          · right; rw [m2, e] at big; rw [e] at room; exact ⟨e, by omega⟩
          · exfalso; rw [m2, e] at big; omega
        have go : ∀ M, SetTable.sizeAbove (SetTable.grown (L.length + 1)) - 1 = M → MaskOk M → SetTable.sizeAbove (SetTable.grown (L.length + 1)) ≤ 128 → (L.length + 1) * 5 < M * 3 →
            wpAny (model P w) A (setRelay a (SetTable.grown (L.length + 1))) (fun _ s' => wpAny (model P w) A (pure true) Q E s') E { s with heap := h1 } := fun M b1 b2 b3 b4 => by
          refine relay_ok (s := { s with heap := h1 }) R1 (by rw [hes, m2]; rcases two with ⟨e, e2⟩ | ⟨e, e2⟩ <;> omega) b1 b2 b3 (by rw [len1]; exact b4) fun h2 L2 es2 ep2 t3 sb2 R2 pm2 => ?_
          exact wpAny_pure (q true h2 L2 es2 ep2 t3 (sb.trans sb2) R2 (fun z => absurd z hm) fun _ => pm2.trans pm)
        rcases two with ⟨_, e2⟩ | ⟨_, e2⟩
        · exact go 31 (by rw [e2, size_20]) (.inr (.inl rfl)) (by rw [e2, size_20]; decide) (by omega)
        · exact go 127 (by rw [e2, size_76]) (.inr (.inr rfl)) (by rw [e2, size_76]; decide) (by omega)
      · first
          | refine wp_if_neg (by simp [full]) ?_
          | (refine wpAny_bind ?_; refine wp_if_neg (by simp [full]) ?_; refine wpAny_pure ?_)
        refine wpAny_pure (q true h1 L1 es1 (ep + 1) t2 sb (R1.tab_ (s := { s with heap := h1 }) ?_) (fun z => absurd z hm) fun _ => pm)
        have z := full
        unfold SetTable.tooFull at z
        rw [decide_eq_true_eq, f2] at z
        rw [len1]
        omega
    by_cases pl : t1.plain = true
    · first
        | (refine wpAny_bind ?_; refine wp_if_pos pl ?_; exact hash_any hx fun c => rest c)
        | exact wp_if_pos pl (wpAny_bind (hash_any hx fun c => rest c))
    · first
        | (refine wpAny_bind ?_; refine wp_if_neg pl ?_; exact wpAny_pure (rest true))
        | exact wp_if_neg pl (wpAny_bind (wpAny_pure (rest true)))
end
end TKS
set_option Elab.async false
set_option linter.all false
set_option maxRecDepth 100000
set_option maxHeartbeats 4000000
/-! {elt for target in iter if ..}: the new set is told by O (empty) and Ad (one element more), whatever the elements are. -/
namespace L2
open PySem PySem.Spec PyProof.Rows PpSet
abbrev TAd := Addr → V → Hp → (Hp → Prop) → Prop
/-- the set object as it is made -/
abbrev newSetObj (w : World) : Obj := { cls := .type "set", dict := none, data := .set #[] 0 (.fresh 0 0 (!w.params.followText "set-order")) }
/-- adding one element by Ad, in the context X -/
def AdOk (X : Cx) (Ad : TAd) : Prop := ∀ (pins : List (Addr × Obj)) (σ : St) (H : Hp) (s : Shared) (E : Value → Shared → Prop) (D : Addr) (y : V) (u : Value) (Nx : Hp → Prop) (Q : Value → Shared → Prop),
  Inv X pins σ H s → RelV y u → Ad D y H Nx → (∀ H' s' v, Inv X pins σ H' s' → Nx H' → Q v s') → wpAny (model X.prog X.w) X.A (call (.builtin "set.add") [.ref D, u]) Q E s
def tScG (O : Addr → HO) (Ad : TAd) (wi : TI) (g : TG) (tt : TT) (te : TE) (vs : List Nat) : TE := fun σ H Q => wi σ H fun J H1 => ∀ D, H1 D = none → ∃ W : Nat → Nat → Hp → Prop, (∃ m, W 0 m (upd H1 D (O D))) ∧ ∀ i m H, W i m H →
  (J.stop i H ∧ Q (.ref D) H) ∨ (J.go i H ∧ ∃ Nx : Hp → Prop, (∀ H', Nx H' → ∃ m', m' < m ∧ W (i + 1) m' H') ∧ ∀ x H', J.yld i H x H' → g x (wipe σ vs) H' fun σ2 H2 => wipe σ2 vs = wipe σ vs ∧ tt σ2 H2 fun b H3 =>
    if b = true then te σ2 H3 fun y H4 => Ad D y H4 Nx else Nx H3)
section
variable {X : Cx} {O : Addr → HO} {Ad : TAd}
theorem scG_core {pins : List (Addr × Obj)} {s : Shared} {σ : St} {H : Hp} {Q : VK} {elt tg iter : Expr} {ifs : List Expr} {scope : Scope} {own : List (Str × Nat)} {pos pos' : Pos} {wi : TI} {g : TG} {tt : TT} {te : TE} {Qf : Value → Shared → Prop}
    (hO : ∀ (H : Hp) (h : Heap), ObjOk X.prog X.w H (h.push (newSetObj X.w)) h.objs.size (O h.objs.size)) (hA : ∀ s H ce fp, AdOk (X.blk s H scope ce fp) Ad)
    (calm : X.calm = true) (nd : X.N.Nodup) (I : Inv X pins σ H s) (hi : PI X tg iter wi) (ok : BlkOk X.N X.env.scope scope own)
    (hg : ∀ s H C cl fp, PG (X.blk s H scope (compEnvC scope cl C X.env) fp) tg g) (ht : ∀ s H C cl fp, PTs (X.blk s H scope (compEnvC scope cl C X.env) fp) ifs tt)
    (he : ∀ s H C cl fp, PE (X.blk s H scope (compEnvC scope cl C X.env) fp) elt te) (hs : ∀ x, foldedSetIterable iter X.env x = pure x)
    (h : tScG O Ad wi g tt te (own.map (·.2)) σ H Q)
    (fin0 : ∀ D C s' m H', Inv X pins σ H' s' → Q (.ref D) H' → s'.heap.Ns C m → FpOk X pins H' C → compPost (model X.prog X.w) X.A X.xe none Qf (.ref D) C (.ok .next) s') :
    wpAny (model X.prog X.w) X.A (comprehension (.SetComp elt [⟨tg, iter, ifs, 0⟩] scope pos) scope X.env pos' (newSet (.type "set")) false (eval iter X.env) none) Qf X.xe s := by
  have cells : ∀ y ∈ scope.names, y.2 = .free → ∃ c, X.env.cells.lookup y.1 = some c := fun y hy e => (ok.free y hy e).elim (fun k => I.ok.has _ (.inl k)) fun k => I.ok.has _ (.inr k)
  refine wpAny_comprehension_free (use := none) rfl hs (closure_ok cells) ok.kind (fun y hy e => by rw [ok.uniq y hy, e]) (thn (hi.run pins s σ H _ I h) fun xv s1 hx => thn hx fun itv s2 z2 => ?_)
  obtain ⟨it, fp, tn, J, H2, e, I2, T, tn2, fp2, q⟩ := z2
  cases e
  refine newSet_ok (newEnv_comp ?_)
  have hS := hO (upd H2 s2.heap.objs.size (O s2.heap.objs.size)) s2.heap
  generalize hD : s2.heap.objs.size = D at hS ⊢
  obtain ⟨W, ⟨m0, w0⟩, turn⟩ := q D (I2.hok.fresh (Nat.le_of_eq hD))
  generalize hs3 : ({ s2 with heap := s2.heap.push (newSetObj X.w) } : Shared) = s3
  have h3 : s3.heap = s2.heap.push (newSetObj X.w) := by rw [← hs3]
  have I3 : Inv X pins σ (upd H2 D (O D)) s3 := by
    rw [← hs3]
    exact I2.laid (t' := s2.toks) (fun b o e => Heap.get?_push_of_some _ e) (Nat.le_of_eq hD) hS
  generalize hH3 : upd H2 D (O D) = H3 at I3 w0
  have below : ∀ b ∈ fp, b < s2.heap.objs.size := fun b hb => let ⟨_, e, _⟩ := T.obj _ _ tn2 b hb; Heap.lt_size e
  have fp3 : ∀ b ∈ fp, FpOk X pins H3 b ∧ b < s3.heap.objs.size := fun b hb => by
    have lt := below b hb
    refine ⟨⟨?_, (fp2 b hb).2⟩, by rw [h3, Heap.size_push]; exact Nat.lt_succ_of_lt lt⟩
    rw [← hH3, upd_ne (by rw [← hD]; exact Nat.ne_of_lt lt)]
    exact (fp2 b hb).1
  have free3 : ∀ b ∈ fp, H3 b = none := fun b hb => (fp3 b hb).1.1
  have tn3 : tn 0 s3.heap := T.keep _ _ _ tn2 fun b _ o e => by rw [h3]; exact Heap.get?_push_of_some _ e
  have I4 := block_start I3 ok nd fp3
  generalize hC : s3.heap.objs.size = C at I4 ⊢
  generalize hcl : cellsFrom (C + 1) scope.names (cloFrom X.env.cells scope.names []) = cl at I4
  have pg := hg s3 H3 C cl fp
  have pt := ht s3 H3 C cl fp
  have pe := he s3 H3 C cl fp
  show codeAny _ _ (.compStart (.SetComp elt [⟨tg, iter, ifs, 0⟩] scope pos) 0 (.ref it) (.ref D) (compEnvC scope cl C X.env)) (compPost (model X.prog X.w) X.A X.xe none Qf (.ref D) C) { s3 with heap := pushCells (s3.heap.push { cls := .type "dict", data := .dict #[] }) scope.names }
  have envL : (compEnvC scope cl C X.env).locals = C := rfl
  generalize compEnvC scope cl C X.env = ce at I4 pg pt pe envL ⊢
  have ad := hA s3 H3 ce fp
  generalize hs4 : ({ s3 with heap := pushCells (s3.heap.push { cls := .type "dict", data := .dict #[] }) scope.names } : Shared) = s4 at I4 ⊢
  have tn4 : tn 0 s4.heap := T.keep _ _ _ tn3 fun b _ o e => by rw [← hs4]; exact pushCells_keeps _ _ _ _ (Heap.get?_push_of_some _ e)
  have pinOk : ∀ {σ' : St} {H' : Hp} {s' : Shared}, Inv (X.blk s3 H3 scope ce fp) [] σ' H' s' → (∀ b ∈ fp, H' b = none) → ∀ b ∈ fp, FpOk (X.blk s3 H3 scope ce fp) [] H' b := fun I' hn b hb =>
    ⟨hn b hb, (I'.ok.exf b hb).1, I'.ok.exfs b hb, .inl hb, fun x c e => (I'.ok.exf b hb).2 x c e, fun p hp => absurd (show p ∈ ([] : List (Addr × Obj)) ++ [] from hp) (by simp)⟩
  have loop : codeAny (model X.prog X.w) X.A (.compLoop (.SetComp elt [⟨tg, iter, ifs, 0⟩] scope pos) 0 (.ref it) (.ref D) ce) (compPost (model X.prog X.w) X.A X.xe none Qf (.ref D) C) s4 := by
    refine compLoopS_any (fun n s' => ∃ i H', Inv (X.blk s3 H3 scope ce fp) [] (wipe σ (own.map (·.2))) H' s' ∧ tn i s'.heap ∧ (∀ b ∈ fp, H' b = none) ∧ W i n H') ?_ m0 ⟨0, H3, I4, tn4, free3, w0⟩
    rintro n s5 ⟨i, H5, I5, tn5, free5, w5⟩
    rcases turn i n H5 w5 with ⟨stop, done⟩ | ⟨go, Nx, hNx, step⟩
    · refine thnF (T.done (X.blk s3 H3 scope ce fp) rfl rfl rfl calm i [] s5 _ H5 (fun _ _ => False) I5 (pinOk I5 free5) tn5 stop) fun r s6 ⟨hr, I6⟩ => ?_
      cases hr
      have I7 : Inv X pins σ H5 s6 := I3.call' (ch := fp) I6.os I6.base I6.hok I6.bare fun b hb => ⟨(fp3 b hb).1.2.2.2.1, (fp3 b hb).1.2.1, (fp3 b hb).1.2.2.2.2.1, (fp3 b hb).1.2.2.2.2.2⟩
      have freeC : H5 C = none := by
        have z : H5 ce.locals = none := I6.free
        rwa [envL] at z
      obtain ⟨m, hn, _⟩ := I6.loc
      have hn : s6.heap.Ns ce.locals m := hn
      rw [envL] at hn
      exact fin0 D C s6 m H5 I7 done hn (I3.fpOk (Nat.le_of_eq hC) freeC)
    · refine thnF (T.item (X.blk s3 H3 scope ce fp) rfl rfl rfl calm i [] s5 _ H5 (fun _ _ => False) I5 (pinOk I5 free5) tn5 go) fun r s6 ⟨u, hr, h6⟩ => ?_
      cases hr
      refine thnF h6 fun _ s7 ⟨x, H7, I7, r7, y7, tn7, free7⟩ => ?_
      refine thnF (pg.run _ s7 _ H7 x u _ (I7.pinned (pinOk I7 free7) (T.obj _ _ tn7)) r7 (step x H7 y7)) fun _ s8 ⟨σ8, H8, I8, hw8, q8⟩ => thnF (pt.run _ s8 σ8 H8 _ I8 q8) fun b s9 ⟨H9, I9, q9⟩ => ?_
      have next : ∀ {s' : Shared} {H' : Hp}, Inv (X.blk s3 H3 scope ce fp) ([] ++ pinsAt fp s7.heap) σ8 H' s' → Nx H' → ∃ m, m < n ∧ ∃ i H', Inv (X.blk s3 H3 scope ce fp) [] (wipe σ (own.map (·.2))) H' s' ∧ tn i s'.heap ∧ (∀ b ∈ fp, H' b = none) ∧ W i m H' := fun {s' H'} I' nx => by
        obtain ⟨m', hm, w'⟩ := hNx H' nx
        have pinned : ∀ b ∈ fp, ∀ o, s7.heap.get? b = some o → s'.heap.get? b = some o ∧ H' b = none := fun b hb o e =>
          let z := I'.pin (b, o) (List.mem_append_right _ (List.mem_append_right _ (mem_pinsAt hb e)))
          ⟨z.1, z.2.1⟩
        refine ⟨m', hm, i + 1, H', (I'.unpinned (pins := [])).weak (by rw [← hw8, wipe_length]) (fun j v e => ?_), T.keep _ _ _ tn7 fun b hb o e => (pinned b hb o e).1, fun b hb => ?_, w'⟩
        · rw [← hw8] at e
          exact (wipe_some e).1
        · obtain ⟨o, e, _⟩ := T.obj _ _ tn7 b hb
          exact (pinned b hb o e).2
      cases b with
      | false =>
        simp only [Bool.false_eq_true, if_false] at q9 ⊢
        exact next I9 q9
      | true =>
        simp only [if_true] at q9 ⊢
        refine thnF (pe.run _ s9 σ8 H9 _ I9 q9) fun z s10 ⟨yv, H10, I10, r10, q10⟩ => ?_
        exact ad _ _ _ _ _ _ _ _ _ _ I10 r10 q10 fun H' s' v I' nx => next I' nx
  exact codeAny_compStart_set loop (T.self X.A 0 _ _ _ tn4 loop)
theorem pe_scG {elt tg iter : Expr} {ifs : List Expr} {scope : Scope} {own : List (Str × Nat)} {pos : Pos} {wi : TI} {g : TG} {tt : TT} {te : TE} (hO : ∀ (H : Hp) (h : Heap), ObjOk X.prog X.w H (h.push (newSetObj X.w)) h.objs.size (O h.objs.size))
    (hA : ∀ s H ce fp, AdOk (X.blk s H scope ce fp) Ad) (calm : X.calm = true) (nd : X.N.Nodup) (hi : PI X tg iter wi) (ok : BlkOk X.N X.env.scope scope own)
    (hg : ∀ s H C cl fp, PG (X.blk s H scope (compEnvC scope cl C X.env) fp) tg g) (ht : ∀ s H C cl fp, PTs (X.blk s H scope (compEnvC scope cl C X.env) fp) ifs tt)
    (he : ∀ s H C cl fp, PE (X.blk s H scope (compEnvC scope cl C X.env) fp) elt te) (hs : ∀ x, foldedSetIterable iter X.env x = pure x := by intro _; rfl) :
    PE X (.SetComp elt [⟨tg, iter, ifs, 0⟩] scope pos) (tScG O Ad wi g tt te (own.map (·.2))) := by
  refine ⟨fun pins s σ H Q I h => ?_⟩
  rw [eval_SetComp]
  refine scG_core hO hA calm nd I hi ok hg ht he hs h fun D C s' m H' I' q hn f => ⟨m, hn, fun h'' sb => ?_⟩
  obtain ⟨f0, f1, _, f3, f4, f5⟩ := f
  exact ⟨.ref D, H', I'.turned (t' := s'.toks) (fun b o hb e => (sb.2 b hb).trans e) f0 f1 f3 f4 f5, rfl, q⟩
end
end L2
set_option Elab.async false
set_option linter.all false
set_option maxRecDepth 100000
set_option maxHeartbeats 4000000
namespace L2
open PySem PySem.Spec PyProof.Rows PpSet TKS
/-- the table at a, without its elements' own objects -/
def Tab0 (P : Program) (w : World) (h : Heap) (a : Addr) (L : List (Addr × List Key)) : Prop := ∃ (es : Array (Int × Value)) (ep : Nat) (t : SetTable), (∃ o, h.get? a = some o ∧ o.ExactSet ∧ o.data = .set es ep t) ∧ es.toList = rowsK P w L ∧ TabOk t (L.map fun p => hk P w p.2) ∧
  (L.map (·.2)).Nodup ∧ (w.params.followText "set-order" = true ∨ t.led = true) ∧ L.length * 5 < t.mask * 3 ∧ L.length < 64
/-- the set of the tuples L: addresses and keys -/
def TupSet (P : Program) (w : World) (a : Addr) (L : List (Addr × List Key)) : HO := .ext fun h => Tab0 P w h a L
theorem Tab0.full {P : Program} {w : World} {h : Heap} {a : Addr} {L : List (Addr × List Key)} (R : Tab0 P w h a L) (ht : ∀ p ∈ L, IsK P w h p.2 p.1) : ∃ es ep t, Tab P w h a L es ep t := by
  obtain ⟨es, ep, t, h1, h2, h3, h4, h5, h6, h7⟩ := R
  exact ⟨es, ep, t, h1, h2, h3, h4, ht, h5, h6, h7⟩
theorem tab_zero {P : Program} {w : World} {h : Heap} {a : Addr} {L : List (Addr × List Key)} {es : Array (Int × Value)} {ep : Nat} {t : SetTable} (R : Tab P w h a L es ep t) : Tab0 P w h a L := ⟨es, ep, t, R.ob, R.rows, R.tab, R.nd, R.led, R.room, R.few⟩
theorem tset_ok {P : Program} {w : World} {H : Hp} {h : Heap} {a : Addr} {L : List (Addr × List Key)} (R : Tab0 P w h a L) : ObjOk P w H h a (TupSet P w a L) := by
  have ⟨es, ep, t, ⟨o, ho, _⟩, _⟩ := R
  exact ⟨R, ⟨o, ho⟩, fun h1 h2 ⟨es, ep, t, ⟨o, e, x⟩, y⟩ k => ⟨es, ep, t, ⟨o, k o e, x⟩, y⟩⟩
theorem tab_fresh {P : Program} {h : Heap} (w : World) : Tab0 P w (h.push (newSetObj w)) h.objs.size [] :=
  ⟨#[], 0, _, ⟨_, Heap.get?_push_size _ rfl, ⟨rfl, rfl, rfl⟩, rfl⟩, rfl, ⟨List.Pairwise.nil, rfl, rfl, .inl rfl, fun x hx => absurd hx List.not_mem_nil, fun i g j e => by simp at e⟩, List.nodup_nil,
    (by
      show _ ∨ (!w.params.followText "set-order") = true
      cases w.params.followText "set-order"
      · exact .inr rfl
      · exact .inl rfl), (by show 0 * 5 < 7 * 3; decide), (by decide)⟩
theorem tset_new (X : Cx) (H : Hp) (h : Heap) : ObjOk X.prog X.w H (h.push (newSetObj X.w)) h.objs.size (TupSet X.prog X.w h.objs.size []) := tset_ok (tab_fresh X.w)
theorem keys_vals {P : Program} {w : World} : ∀ {k : List Key} {us : List Value}, Vals (k.map kV) us → ItemsAre (mixKind P w) k us
  | [], _, .nil => .nil
  | k :: ks, _, .cons r t => .cons (kV_is r) (keys_vals t)
section
variable {X : Cx} {pins : List (Addr × Obj)} {σ : St} {H : Hp} {s : Shared}
theorem Inv.isK {b : Addr} {k : List Key} (I : Inv X pins σ H s) (h : SqT X.K H b (k.map kV)) : IsK X.prog X.w s.heap k b := by
  obtain ⟨its, r, ⟨o, ho, hc, n, hd⟩, _⟩ := I.tuple h
  exact ⟨o, its.toArray, n, ho, hc, hd, by simpa using keys_vals r⟩
theorem Inv.tset {D : Addr} {L : List (Addr × List Key)} (I : Inv X pins σ H s) (hD : H D = some (TupSet X.prog X.w D L)) : Tab0 X.prog X.w s.heap D L := (show ObjOk X.prog X.w H s.heap D (.ext fun h => Tab0 X.prog X.w h D L) from I.hok D _ hD).1
/-- D.add(y), y a tuple of keys at b -/
def adT (K : PySem.W.Frag) (P : Program) (w : World) : TAd := fun D y H Nx => ∃ (b : Addr) (k : List Key) (L : List (Addr × List Key)), y = .ref b ∧ H D = some (TupSet P w D L) ∧ SqT K H b (k.map kV) ∧ (∀ p ∈ L, SqT K H p.1 (p.2.map kV)) ∧ L.length + 1 < 64 ∧
  ∀ L', (k ∈ L.map (·.2) → L' = L) → (k ∉ L.map (·.2) → L'.Perm ((b, k) :: L)) → Nx (upd H D (TupSet P w D L'))
theorem adT_ok (hu : X.A.units + 1 < cLine) : AdOk X (adT X.K X.prog X.w) := by
  intro pins σ H s E D y u Nx Q I ry h fin
  obtain ⟨b, k, L, rfl, hD, hb, hL, few, q⟩ := h
  obtain rfl : u = Value.ref b := ry
  have hk := I.isK hb
  obtain ⟨es, ep, t, R⟩ := (I.tset hD).full fun p hp => I.isK (hL p hp)
  obtain ⟨o, ho, hex, hd⟩ := R.ob
  refine wpAny_call_entry F.slot_set_add ⟨o, ho, hex.1⟩ F.entry_set_add ?_ (F.args_set_add_2 _ _)
  unfold Builtin.«set.add» Builtin.Frozenset.oneOther
  simp only [List.isEmpty_nil, bind_assoc]
  unfold Builtin.Frozenset.addrOf setAdd
  refine wpAny_bind (wpAny_pure ?_)
  try dsimp only
  refine wpAny_bind (wpAny_pure ?_)
  try dsimp only
  refine wpAny_bind (wpAny_holding ?_)
  refine wpAny_bind (wpAny_pyHash_tuple (by show X.A.in1.units < cLine; exact hu) hk ?_)
  refine add_ok (s := { s with toks := s.toks + (k.length + 1) }) R hk (by show X.A.in1.units < cLine; exact hu) few fun c h' L' es' ep' t' sb R' hin hout => ?_
  show wpAny _ _ (ret Value.none) _ _ _
  have ⟨o', ho', _⟩ := R'.ob
  exact wpAny_pure ⟨_, rfl, fin _ _ _ (I.write (e := D) (x := D) (t' := s.toks + (k.length + 1)) (by rw [hD]; trivial) (.inl rfl) (fun b' u' hb' hu' => (sb.2 b' hb').trans hu') ⟨o', ho'⟩ (tset_ok (tab_zero R'))) (q L' hin hout)⟩
end
end L2
set_option Elab.async false
set_option linter.all false
set_option maxRecDepth 100000
set_option maxHeartbeats 4000000
/-! Tuples of texts: their order, and sorting by it. -/
namespace TKS
open PySem PySem.Spec PyProof.Rows L2
/-- texts by their code points -/
def slt (x y : Str) : Bool := decide (x.cps.toList < y.cps.toList)
theorem slt_irr (x : Str) : slt x x = false := decide_eq_false (List.lt_irrefl _)
theorem slt_tr {x y z : Str} (h1 : slt x y = true) (h2 : slt y z = true) : slt x z = true := decide_eq_true (List.lt_trans (of_decide_eq_true h1) (of_decide_eq_true h2))
theorem slt_as {x y : Str} (h : slt x y = true) : slt y x = false := decide_eq_false (List.lt_asymm (of_decide_eq_true h))
theorem slt_tri {x y : Str} (h1 : slt x y = false) (h2 : slt y x = false) : x = y := by
  have e : x.cps.toList = y.cps.toList := List.le_antisymm (List.not_lt.mp (of_decide_eq_false h2)) (List.not_lt.mp (of_decide_eq_false h1))
  cases x
  cases y
  congr 1
  exact Array.toList_inj.mp e
/-- tuples of texts, item by item -/
def llt : List Str → List Str → Bool
  | [], [] => false
  | [], _ :: _ => true
  | _ :: _, [] => false
  | x :: xs, y :: ys => if x = y then llt xs ys else slt x y
theorem llt_irr : ∀ x : List Str, llt x x = false
  | [] => rfl
  | x :: xs => by
    show (if x = x then llt xs xs else slt x x) = false
    rw [if_pos rfl]
    exact llt_irr xs
theorem llt_cons {x y : Str} {xs ys : List Str} : llt (x :: xs) (y :: ys) = if x = y then llt xs ys else slt x y := rfl
theorem llt_as : ∀ {x y : List Str}, llt x y = true → llt y x = false
  | [], [], _ => rfl
  | [], _ :: _, _ => rfl
  | _ :: _, [], h => by cases h
  | x :: xs, y :: ys, h => by
    rw [llt_cons] at h ⊢
    by_cases e : x = y
    · rw [if_pos e] at h
      rw [if_pos e.symm]
      exact llt_as h
    · rw [if_neg e] at h
      rw [if_neg (Ne.symm e)]
      exact slt_as h
theorem llt_tri : ∀ {x y : List Str}, llt x y = false → llt y x = false → x = y
  | [], [], _, _ => rfl
  | [], _ :: _, h, _ => by cases h
  | _ :: _, [], _, h => by cases h
  | x :: xs, y :: ys, h1, h2 => by
    rw [llt_cons] at h1 h2
    by_cases e : x = y
    · rw [if_pos e] at h1
      rw [if_pos e.symm] at h2
      rw [e, llt_tri h1 h2]
    · rw [if_neg e] at h1
      rw [if_neg (Ne.symm e)] at h2
      exact absurd (slt_tri h1 h2) e
theorem llt_tr : ∀ {x y z : List Str}, llt x y = true → llt y z = true → llt x z = true
  | [], [], _, h, _ => by cases h
  | _ :: _, [], _, h, _ => by cases h
  | [], _ :: _, [], _, h => by cases h
  | [], _ :: _, _ :: _, _, _ => rfl
  | _ :: _, _ :: _, [], _, h => by cases h
  | x :: xs, y :: ys, z :: zs, h1, h2 => by
    rw [llt_cons] at h1 h2 ⊢
    by_cases e1 : x = y
    · rw [if_pos e1] at h1
      by_cases e2 : y = z
      · rw [if_pos e2] at h2
        rw [if_pos (e1.trans e2)]
        exact llt_tr h1 h2
      · rw [if_neg e2] at h2
        rw [if_neg (by rw [e1]; exact e2), e1]
        exact h2
    · rw [if_neg e1] at h1
      by_cases e2 : y = z
      · rw [if_pos e2] at h2
        rw [if_neg (by rw [← e2]; exact e1), ← e2]
        exact h1
      · rw [if_neg e2] at h2
        have h3 := slt_tr h1 h2
        rw [if_neg (fun e => by rw [e, slt_irr] at h3; cases h3)]
        exact h3
theorem swo_llt (k : Value → List Str) : SrtO.Swo fun v u => llt (k v) (k u) := by
  refine ⟨fun x y h => llt_as h, fun x y z h1 h2 => ?_⟩
  cases h : llt (k z) (k x) with
  | false => rfl
  | true =>
    cases g : llt (k x) (k y) with
    | true =>
      rw [llt_tr h g] at h2
      cases h2
    | false =>
      have e := llt_tri g h1
      rw [e, h2] at h
      cases h
/-- one sorted list alone -/
theorem sorted_uniq {α : Type} {k : α → List Str} : ∀ {l m : List α}, l.Perm m → l.Pairwise (fun x y => llt (k y) (k x) = false) → m.Pairwise (fun x y => llt (k y) (k x) = false) → l.map k = m.map k := by
  intro l m p h1 h2
  have e1 : (l.map k).Pairwise (fun x y => llt y x = false) := List.pairwise_map.mpr h1
  have e2 : (m.map k).Pairwise (fun x y => llt y x = false) := List.pairwise_map.mpr h2
  refine List.Perm.eq_of_pairwise (le := fun x y => llt y x = false) ?_ e1 e2 (p.map k)
  intro a b _ _ g1 g2
  exact llt_tri g2 g1
section
variable {P : Program} {w : World} {A : Around} {E : Value → Shared → Prop} {s : Shared}
theorem lex_txt {b fin : Bool} {Q : Bool → Shared → Prop} : ∀ {ks ls : List Str} {xs ys : List Value} (i : Nat), ItemsAre (mixKind P w) (ks.map Sum.inr) xs → ItemsAre (mixKind P w) (ls.map Sum.inr) ys → fin = decide (ks.length < ls.length) → Q (llt ks ls) s → PySem.W.KatLex P w A b fin Q (xs.zip ys) i s
  | [], [], _, _, _, .nil, .nil, hf, h => by
    rw [hf]
    exact h
  | [], _ :: _, _, _, _, .nil, .cons _ _, hf, h => by
    rw [hf, decide_eq_true (by rw [List.length_cons]; exact Nat.succ_pos _)]
    exact h
  | _ :: _, [], _, _, _, .cons _ _, .nil, hf, h => by
    rw [hf, decide_eq_false (by rw [List.length_nil]; exact Nat.not_lt_zero _)]
    exact h
  | k :: ks, l :: ls, _, _, i, .cons (v := v) (vs := vs) e1 r1, .cons (v := u) (vs := us) e2 r2, hf, h => by
    obtain ⟨t1, rfl⟩ : ∃ t, v = .str k t := by
      rcases keyIs_shape (show keyIs (.inr k) v = true from e1) with ⟨_, _, z, _⟩ | ⟨x, t, z, q⟩
      · cases z
      · cases z
        exact ⟨t, q⟩
    obtain ⟨t2, rfl⟩ : ∃ t, u = .str l t := by
      rcases keyIs_shape (show keyIs (.inr l) u = true from e2) with ⟨_, _, z, _⟩ | ⟨x, t, z, q⟩
      · cases z
      · cases z
        exact ⟨t, q⟩
    show PySem.W.KatLex P w A b fin Q ((.str k t1, .str l t2) :: vs.zip us) i s
    refine PySem.W.kat_cons (eqBool_str ?_)
    refine PySem.W.kat_go (fun z => ?_) (fun z => ?_)
    · have ek : k = l := by simpa using z
      refine PySem.W.kat_yes (lex_txt (i + 1) r1 r2 ?_ ?_)
      · rw [hf, List.length_cons, List.length_cons]
        exact decide_eq_decide.mpr (Nat.succ_lt_succ_iff)
      · rw [llt_cons, if_pos ek] at h
        exact h
    · have ek : ¬ k = l := by simpa using z
      rw [llt_cons, if_neg ek] at h
      refine PySem.W.kat_no ?_
      cases (b && i == 0) with
      | true => exact oneLt_str h
      | false => exact PySem.W.kat_one _ _ (PyProof.Rows.lt_str (Q := PySem.W.BoolBack Q) h)
/-- a tuple of texts, not empty -/
def TxtAt (P : Program) (w : World) (h : Heap) (v : Value) (ks : List Str) : Prop := ∃ b, v = .ref b ∧ IsK P w h (ks.map Sum.inr) b ∧ ks ≠ []
theorem TxtAt.keep {h h' : Heap} {v : Value} {ks : List Str} (x : TxtAt P w h v ks) (kp : ∀ b o, h.get? b = some o → o.cls = .type "tuple" → h'.get? b = some o) : TxtAt P w h' v ks := by
  obtain ⟨b, e, ⟨o, its, n, e1, e2, r⟩, ne⟩ := x
  exact ⟨b, e, ⟨o, its, n, kp b o e1 e2, e2, r⟩, ne⟩
theorem txt_cmp {vs : List Value} {k : Value → List Str} {b : Bool} (hp : ∀ v ∈ vs, TxtAt P w s.heap v (k v)) : SrtO.Cmp P w A s (tuples' b) (fun p => p.1 ∈ vs) (SrtO.lt2 fun v u => llt (k v) (k u)) := by
  intro p q hm hm'
  show wpAny (model P w) A (keyLt' (tuples' b) p.1 q.1) (fun r s' => s' = s ∧ r = llt (k p.1) (k q.1)) (fun _ _ => False) s
  obtain ⟨b1, e1, ⟨o1, i1, n1, ho1, hc1, hd1, r1⟩, _⟩ := hp _ hm
  obtain ⟨b2, e2, ⟨o2, i2, n2, ho2, hc2, hd2, r2⟩, _⟩ := hp _ hm'
  generalize k p.1 = x at r1 ⊢
  generalize k q.1 = y at r2 ⊢
  rw [e1, e2]
  refine PySem.W.kat_lt ho1 hd1 ho2 hd2 (lex_txt 0 r1 r2 ?_ ⟨rfl, rfl⟩)
  have z1 : x.length = i1.size := by simpa using r1.length
  have z2 : y.length = i2.size := by simpa using r2.length
  rw [z1, z2]
theorem txt_firsts {k : Value → List Str} : ∀ {vs : List Value}, (∀ v ∈ vs, TxtAt P w s.heap v (k v)) → ∃ fs, PySem.W.KatTups s.heap vs fs ∧ fs.length = vs.length ∧ ∀ f ∈ fs, ∃ x t, f = Value.str x t
  | [], _ => ⟨[], .nil, rfl, fun f hf => absurd hf List.not_mem_nil⟩
  | v :: vs, h => by
    obtain ⟨fs, h1, h2, h3⟩ := txt_firsts (vs := vs) fun u hu => h u (List.mem_cons_of_mem _ hu)
    obtain ⟨b, rfl, ⟨o, its, n, ho, hc, hd, r⟩, ne⟩ := h v List.mem_cons_self
    generalize k (.ref b) = ks at r ne
    cases ks with
    | nil => exact absurd rfl ne
    | cons x xs =>
      cases hl : its.toList with
      | nil =>
        rw [hl] at r
        cases r
      | cons f r0 =>
        rw [hl] at r
        cases r with
        | cons e r1 =>
          obtain ⟨t1, rfl⟩ : ∃ t, f = .str x t := by
            rcases keyIs_shape (show keyIs (.inr x) f = true from e) with ⟨_, _, z, _⟩ | ⟨x', t, z, q⟩
            · cases z
            · cases z
              exact ⟨t, q⟩
          refine ⟨.str x t1 :: fs, .cons ho hc hd (by rw [← Array.getElem?_toList, hl]; rfl) h1, congrArg Nat.succ h2, fun g hg => ?_⟩
          rcases List.mem_cons.mp hg with z | z
          · exact ⟨x, t1, z⟩
          · exact h3 g z
theorem txt_sortable {a : Addr} {vs : List Value} {k : Value → List Str} (h0 : 0 < vs.length) (hp : ∀ v ∈ vs, TxtAt P w s.heap v (k v)) (ha : ∀ o, s.heap.get? a = some o → o.cls ≠ .type "tuple") : SrtO.SortableO P w A s a vs fun v u => llt (k v) (k u) := by
  intro h' keep
  have hp' : ∀ v ∈ vs, TxtAt P w h' v (k v) := fun v hm => (hp v hm).keep fun b o e c => keep b o (fun z => by subst z; exact ha o e c) e
  obtain ⟨fs, h1, h2, h3⟩ := txt_firsts (s := { s with heap := h' }) hp'
  refine ⟨tuples' true, fun Q E hq => ?_, txt_cmp hp'⟩
  refine PySem.W.kat_kind (T := .type "str") h1 (by omega) (fun f hm => ?_) (by rfl) ?_
  · obtain ⟨x, t, rfl⟩ := h3 f hm
    exact PySem.W.Looks.now
  · have e : (Value.type "str" != Value.type "tuple") = true := by first | decide +kernel | rfl | decide
    rw [e]
    exact hq
end
end TKS
set_option Elab.async false
set_option linter.all false
/-! a sorted list of texts is one alone -/
namespace L2
open PySem PySem.Spec PyProof.Rows TKS
theorem rising_pw : ∀ (l : List Str) (p : Str), risingS p l = true → (∀ y ∈ l, slt y p = false) ∧ l.Pairwise (fun a b => slt b a = false)
  | [], _, _ => ⟨fun _ h => (nomatch h), .nil⟩
  | x :: r, p, h => by
    have h : (!ltCps x.cps.toList p.cps.toList && risingS x r) = true := h
    rw [Bool.and_eq_true, Bool.not_eq_true', ltCps_eq] at h
    obtain ⟨h1, h2⟩ := h
    have h1 : slt x p = false := h1
    obtain ⟨a, b⟩ := rising_pw r x h2
    refine ⟨fun y hy => ?_, List.pairwise_cons.mpr ⟨a, b⟩⟩
    rcases List.mem_cons.mp hy with rfl | hy
    · exact h1
    · have h3 := a y hy
      cases hz : slt y p with
      | false => rfl
      | true =>
        by_cases e : x = p
        · rw [← e, h3] at hz
          cases hz
        · have h4 : slt p x = true := by
            cases h5 : slt p x with
            | true => rfl
            | false => exact absurd (slt_tri h1 h5) e
          rw [slt_tr hz h4] at h3
          cases h3
theorem sortedS_pw {l : List Str} (h : sortedS l = true) : l.Pairwise (fun a b => slt b a = false) := by
  cases l with
  | nil => exact .nil
  | cons x r => exact List.pairwise_cons.mpr (rising_pw r x h)
theorem sortedS_uniq {l m : List Str} (p : l.Perm m) (h1 : sortedS l = true) (h2 : sortedS m = true) : l = m :=
  List.Perm.eq_of_pairwise (le := fun a b => slt b a = false) (fun a b _ _ g1 g2 => slt_tri g2 g1) (sortedS_pw h1) (sortedS_pw h2) p
end L2
set_option Elab.async false
set_option linter.all false
set_option maxRecDepth 100000
/-! min(a, b) of two texts -/
namespace L2
open PySem PySem.Spec PyProof.Rows TKS
open PySem.Sem (wp)
def txtItems (x y : Str) (t u : Tok) : Array Value := #[.str x t, .str y u]
def txtAt (x y : Str) (i : Nat) : Str := if i = 0 then x else y
theorem txt_at {x y : Str} {t u : Tok} {i : Nat} {v : Value} (h : (txtItems x y t u)[i]? = some v) : ∃ t, v = .str (txtAt x y i) t := by
  match i, h with
  | 0, h => exact ⟨t, (Option.some.inj h).symm⟩
  | 1, h => exact ⟨u, (Option.some.inj h).symm⟩
  | n + 2, h => exact absurd h (by simp [txtItems])
theorem cmp_txts {prog : Program} {w : World} {A : Around} {P : Nat → Value → Prop} (val : Nat → Str) (hval : ∀ i v, P i v → ∃ t, v = .str (val i) t) : CmpOf prog w A .Lt P (fun i j => slt (val i) (val j)) := fun i j vi vj s Q E hi hj h => by
  obtain ⟨t, rfl⟩ := hval i vi hi
  obtain ⟨u, rfl⟩ := hval j vj hj
  exact PyProof.Rows.lt_str h
theorem min_txt {prog : Program} {w : World} {A : Around} {E : Value → Shared → Prop} {s : Shared} {x y : Str} {t u : Tok} {Q : Value → Shared → Prop} (hh : A.handled = none)
    (h : ∀ g tk, (∀ c o, s.heap.get? c = some o → g.get? c = some o) → Q (if slt y x = true then .str y u else .str x t) { s with heap := g, toks := tk }) : wpAny (model prog w) A (call (.builtin "min") [.str x t, .str y u]) Q E s := by
  have T : (s.heap.push { cls := .type "tuple", data := .seq #[.str x t, .str y u] }).IsTuple s.heap.objs.size (txtItems x y t u) := ⟨_, Heap.get?_push_size _ rfl, rfl, 0, by simp [txtItems]⟩
  refine call_min_two (wpAny_pyIter_tuple T ?_)
  have sz : (s.heap.push { cls := .type "tuple", data := .seq #[.str x t, .str y u] }).objs.size = s.heap.objs.size + 1 := Heap.size_push ..
  refine ⟨_, [_, s.heap.objs.size], [_], _, _, _, _, rfl, Walks.tuple (A := A.in1) hh _ s.heap.objs.size (by rw [sz]; exact Nat.ne_of_lt (Nat.lt_succ_self _)) (txtItems x y t u),
    ⟨⟨_, Heap.get?_push_size _ rfl, rfl, rfl⟩, T.push _⟩, fun c hc => ?_, by simp [txtItems], cmp_txts (txtAt x y) (fun _ _ => txt_at), fun v g tk hP hk => ?_⟩
  · show c < ((s.heap.push _).push _).objs.size
    rw [Heap.size_push, sz]
    rcases (by simpa using hc : c = _ ∨ c = s.heap.objs.size) with rfl | rfl
    · exact Nat.lt_succ_self _
    · exact Nat.lt_succ_of_lt (Nat.lt_succ_self _)
  · have old : ∀ c o, s.heap.get? c = some o → g.get? c = some o := fun c o e => by
      refine hk c o (fun hm => ?_) (Heap.get?_push_of_some _ (Heap.get?_push_of_some _ e))
      have e1 := List.mem_singleton.mp hm
      have lt := Heap.lt_size e
      rw [e1, sz] at lt
      exact Nat.lt_irrefl _ (Nat.lt_of_succ_lt lt)
    have k := h g tk old
    have hP : (txtItems x y t u)[argBest (fun i j => slt (txtAt x y i) (txtAt x y j)) 1]? = some v := hP
    have e0 : argBest (fun i j => slt (txtAt x y i) (txtAt x y j)) 1 = if slt y x = true then 1 else 0 := rfl
    rw [e0] at hP
    by_cases c : slt y x = true
    · rw [if_pos c] at hP k
      cases hP
      exact k
    · rw [if_neg c] at hP k
      cases hP
      exact k
/-- min of two texts -/
def rMinTx : List V → Hp → VK → Prop := fun vs H Q => ∃ x y : Str, vs = [.str x, .str y] ∧ Q (.str (if slt y x = true then y else x)) H
theorem cr_minTx {X : Cx} (hc : X.calm = true) : CallR X (.builtin "min") rMinTx := by
  rintro pins s σ H xs us Q I r ⟨x, y, rfl, q⟩
  obtain ⟨u, u', rfl, ⟨t, rfl⟩, ⟨t', rfl⟩⟩ := vals2 r
  refine min_txt (I.ok.hd hc) fun g tk k => ⟨_, H, I.kept k, ?_, q⟩
  by_cases c : slt y x = true
  · rw [if_pos c, if_pos c]; exact ⟨_, rfl⟩
  · rw [if_neg c, if_neg c]; exact ⟨_, rfl⟩
end L2
set_option Elab.async false
set_option linter.all false
set_option maxRecDepth 100000
set_option maxHeartbeats 4000000
namespace L2
open PySem PySem.Spec PyProof.Rows PpSet TKS
/-- tuples by their places: each a tuple of texts, not empty -/
def TxtTups (K : PySem.W.Frag) (H : Hp) (M : List (Addr × List Str)) : Prop := ∀ p ∈ M, SqT K H p.1 (p.2.map V.str) ∧ p.2 ≠ []
abbrev refsOf (M : List (Addr × List Str)) : List V := M.map fun p => V.ref p.1
abbrev keysOf (M : List (Addr × List Str)) : List (Addr × List Key) := M.map fun p => (p.1, p.2.map Sum.inr)
def SortedT (M : List (Addr × List Str)) : Prop := M.Pairwise fun x y => llt y.2 x.2 = false
def adr : Value → Addr
  | .ref a => a
  | _ => 0
/-- the texts of the tuple that a value names -/
def keyFn (M : List (Addr × List Str)) (v : Value) : List Str := ((M.find? fun p => decide (p.1 = adr v)).map (·.2)).getD []
theorem map_kv (ks : List Str) : (ks.map (Sum.inr : Str → Key)).map kV = ks.map V.str := by
  rw [List.map_map]
  rfl
theorem refs_vals : ∀ {M : List (Addr × List Str)} {us : List Value}, Vals (refsOf M) us → us = M.map fun p => Value.ref p.1
  | [], _, .nil => rfl
  | p :: M, _, .cons r t => by
    rw [List.map_cons, ← refs_vals t]
    exact congrArg (· :: _) r
theorem valsRefsT : ∀ M : List (Addr × List Str), Vals (refsOf M) (M.map fun p => Value.ref p.1)
  | [] => .nil
  | p :: M => .cons rfl (valsRefsT M)
section
variable {X : Cx} {pins : List (Addr × Obj)} {σ : St} {H : Hp} {s : Shared} {M : List (Addr × List Str)}
theorem Inv.isTx (I : Inv X pins σ H s) {b : Addr} {ks : List Str} (h : SqT X.K H b (ks.map V.str)) : IsK X.prog X.w s.heap (ks.map Sum.inr) b := I.isK (by rw [map_kv]; exact h)
theorem key_at (I : Inv X pins σ H s) (hM : TxtTups X.K H M) {p : Addr × List Str} (hp : p ∈ M) : keyFn M (.ref p.1) = p.2 := by
  unfold keyFn
  cases e : M.find? fun q => decide (q.1 = adr (.ref p.1)) with
  | none =>
    have z := List.find?_eq_none.mp e p hp
    exact absurd (decide_eq_true rfl) z
  | some q =>
    have hq := List.mem_of_find?_eq_some e
    have ea : q.1 = p.1 := of_decide_eq_true (List.find?_some (p := fun q : Addr × List Str => decide (q.1 = adr (.ref p.1))) e)
    have h1 := I.isTx (hM q hq).1
    rw [ea] at h1
    have h2 := I.isTx (hM p hp).1
    have z := h1.inj h2
    show q.2 = p.2
    exact (List.map_inj_right (f := (Sum.inr : Str → Key)) fun _ _ e => Sum.inr.inj e).mp z
theorem key_tup (I : Inv X pins σ H s) (hM : TxtTups X.K H M) {v : Value} (hv : v ∈ M.map fun p => Value.ref p.1) : TxtAt X.prog X.w s.heap v (keyFn M v) := by
  obtain ⟨p, hp, rfl⟩ := List.mem_map.mp hv
  rw [key_at I hM hp]
  exact ⟨p.1, rfl, I.isTx (hM p hp).1, (hM p hp).2⟩
/-- what a sort puts out, as tuples by their places -/
theorem outs_of (I : Inv X pins σ H s) (hM : TxtTups X.K H M) {out : List Value} (pm : out.Perm (M.map fun p => Value.ref p.1)) (sr : SrtO.Srtd (fun v u => llt (keyFn M v) (keyFn M u)) out) :
    ∃ M' : List (Addr × List Str), M'.Perm M ∧ SortedT M' ∧ out = M'.map fun p => Value.ref p.1 := by
  refine ⟨out.map fun v => (adr v, keyFn M v), ?_, ?_, ?_⟩
  · have z := pm.map fun v => (adr v, keyFn M v)
    rw [List.map_map] at z
    have e : M.map ((fun v => (adr v, keyFn M v)) ∘ fun p => Value.ref p.1) = M := by
      refine (List.map_congr_left (g := id) fun p hp => ?_).trans (List.map_id M)
      show (adr (.ref p.1), keyFn M (.ref p.1)) = p
      rw [key_at I hM hp]
      rfl
    rw [e] at z
    exact z
  · exact List.pairwise_map.mpr sr
  · rw [List.map_map]
    refine ((List.map_congr_left (g := id) fun v hv => ?_).trans (List.map_id out)).symm
    obtain ⟨p, hp, rfl⟩ := List.mem_map.mp (pm.mem_iff.mp hv)
    rfl
end
section
variable {X : Cx}
/-- sorted(xs), xs a list of tuples of texts -/
def rSortTL (K : PySem.W.Frag) : List V → Hp → VK → Prop := fun vs H Q => ∃ (a : Addr) (M : List (Addr × List Str)), vs = [V.ref a] ∧ SqL K H a (refsOf M) ∧ TxtTups K H M ∧ ∀ (M' : List (Addr × List Str)) (p : Addr), M'.Perm M → SortedT M' → H p = none → Q (.ref p) (upd H p (.lst (refsOf M')))
theorem cr_sortTL : CallR X (.builtin "sorted") (rSortTL X.K) := by
  intro pins s σ H vs us Q I r h
  obtain ⟨a, M, rfl, hs, hM, q⟩ := h
  obtain ⟨its, rv, hl, hz⟩ := I.list hs
  rw [Vals.ref1 r]
  have ei := refs_vals rv
  have len : its.length = M.length := by rw [ei, List.length_map]
  rw [List.length_map] at hz
  refine SrtO.sorted_ord (swo_llt (keyFn M)) hl.isList (by rw [len]; exact hz) (fun h2 h₁ b e kp => ?_) fun out sr st => ?_
  · refine txt_sortable (by omega) (fun v hv => ?_) fun o ho => ?_
    · rw [ei] at hv
      exact (key_tup I hM hv).keep fun c o ho _ => (kp c o ho).2
    · have z : some o = some (seqObj "list" its.toArray 0) := ho.symm.trans e
      cases z
      exact fun z => absurd (show Value.type "list" = Value.type "tuple" from z) (by decide)
  · have pm := st.perm
    rw [ei] at pm
    obtain ⟨M', g1, g2, g3⟩ := outs_of I hM pm sr
    obtain ⟨ep, he⟩ := sortedAll_at s.heap its out.toArray
    refine ⟨.ref _, upd H (s.heap.objs.size + 1) (.lst (refsOf M')), I.laid (t' := s.toks) (fun _ _ => sortedAll_old) (Nat.le_succ _) ⟨by rw [List.length_map, g1.length_eq]; exact hz, out, ep, by rw [g3]; exact valsRefsT M', he⟩, rfl, q M' _ g1 g2 (I.hok.fresh (Nat.le_succ _))⟩
/-- sorted(xs), xs a set of tuples of texts -/
def rSortTS (K : PySem.W.Frag) (P : Program) (w : World) : List V → Hp → VK → Prop := fun vs H Q => ∃ (a : Addr) (M : List (Addr × List Str)), vs = [V.ref a] ∧ H a = some (TupSet P w a (keysOf M)) ∧ TxtTups K H M ∧ ∀ (M' : List (Addr × List Str)) (p : Addr), M'.Perm M → SortedT M' → H p = none → Q (.ref p) (upd H p (.lst (refsOf M')))
theorem cr_sortTS (hc : X.calm = true) : CallR X (.builtin "sorted") (rSortTS X.K X.prog X.w) := by
  intro pins s σ H vs us Q I r h
  obtain ⟨a, M, rfl, ha, hM, q⟩ := h
  rw [Vals.ref1 r]
  obtain ⟨es, ep, t, R⟩ := (I.tset ha).full fun p hp => by
    obtain ⟨p0, hp0, rfl⟩ := List.mem_map.mp hp
    exact I.isTx (hM p0 hp0).1
  obtain ⟨o, ho, hex, hd⟩ := R.ob
  have hz := size_of R.rows
  have few := R.few
  rw [List.length_map] at hz few
  have er : es.toList.map (·.2) = M.map fun p => Value.ref p.1 := by
    rw [R.rows]
    unfold rowsK
    rw [List.map_map, List.map_map]
    rfl
  have hh : X.A.in1.handled = none := I.ok.hd hc
  refine Calls.call_function_entry kind_sorted plain_sorted entry_sorted (args_sorted1 _) ?_
  unfold Builtin.«sorted»
  refine wpAny_bind (m := checkCount "sorted" 1 1 _) (wpAny_pure ?_)
  refine wpAny_bind (collect_set (A := X.A.in1) hh ⟨o, ho, hex.1, hd⟩ R.fit (by unfold scanBound; omega) R.tab.ris R.led fun s1 vs k1 z1 g1 o1 pm => ?_)
  rw [er] at pm
  have lv : vs.length = M.length := by rw [pm.length_eq, List.length_map]
  refine wpAny_bind (wpAny_newList ?_ (by rw [sizeLine_eq]; omega))
  have hoL : (s1.heap.push (seqObj "list" vs.toArray 0)).get? s1.heap.objs.size = some (seqObj "list" vs.toArray 0) := Heap.get?_push_size _ rfl
  have kp : ∀ b u, s.heap.get? b = some u → (s1.heap.push (seqObj "list" vs.toArray 0)).get? b = some u := fun b u e => Heap.get?_push_of_some _ (k1 b u e)
  refine wpAny_bind (wpAny_holding (wpAny_call_entry slot_list_sort ⟨_, hoL, rfl⟩ entry_list_sort (SrtO.list_sort_ord (s := { s1 with heap := s1.heap.push (seqObj "list" vs.toArray 0) }) (swo_llt (keyFn M)) hoL (by rw [sizeLine_eq]; omega) (fun h2 => ?_) fun out sr st => ⟨_, rfl, ?_⟩) (args_list_sort _)))
  · refine txt_sortable (by omega) (fun v hv => (key_tup I hM (pm.mem_iff.mp hv)).keep fun c o ho _ => kp c o ho) fun o ho => ?_
    have z : some o = some (seqObj "list" vs.toArray 0) := ho.symm.trans hoL
    cases z
    exact fun z => absurd (show Value.type "list" = Value.type "tuple" from z) (by decide)
  · obtain ⟨c, hcc⟩ := sortedHeap_at (vs := vs) (out := out.toArray) hoL
    obtain ⟨M', m1, m2, m3⟩ := outs_of I hM (st.perm.trans pm) sr
    refine wpAny_pure ⟨_, rfl, ?_⟩
    have fresh : H s1.heap.objs.size = none := I.hok.fresh z1
    have old : ∀ b u, s.heap.get? b = some u → (sortedHeap (s1.heap.push (seqObj "list" vs.toArray 0)) s1.heap.objs.size vs out.toArray).get? b = some u := fun b u e => by
      have lt := Heap.lt_size (k1 b u e)
      rw [sortedHeap_old (Nat.ne_of_lt lt) (by rw [size_push']; exact Nat.lt_succ_of_lt lt)]
      exact kp b u e
    have J : Inv X pins σ (upd H s1.heap.objs.size (.lst (refsOf M'))) ⟨sortedHeap (s1.heap.push (seqObj "list" vs.toArray 0)) s1.heap.objs.size vs out.toArray, s1.gens, s1.drawn, s1.toks, s1.os⟩ := by
      refine I.call' (ch := []) o1 (Un.laid old z1 fresh) (I.hok.laid old z1 ⟨by rw [List.length_map, m1.length_eq, sizeLine_eq]; omega, out, c, by rw [m3]; exact valsRefsT M', hcc⟩) ?_ fun _ z => nomatch z
      rw [g1]
      exact I.bare
    exact ⟨.ref _, _, J, rfl, q M' _ m1 m2 fresh⟩
end
end L2
set_option Elab.async false
set_option linter.all false
set_option maxRecDepth 100000
set_option maxHeartbeats 4000000
/-! Sets of texts: added to one by one, made of a list, sorted. -/
namespace TKS
open PySem PySem.Spec PyProof.Rows L2
section
variable {P : Program} {w : World} {A : Around} {E : Value → Shared → Prop} {s : Shared}
/-- a row of the table: the text x, its hash -/
def RowT (P : Program) (w : World) (e : Int × Value) (x : Str) : Prop := ∃ t, e.2 = Value.str x t ∧ e.1 = (mixKind P w).hash (.inr x)
theorem paired_perm {α β : Type} {R : α → β → Prop} : ∀ {l l' : List α}, l'.Perm l → ∀ {m : List β}, Paired R l m → ∃ m', m'.Perm m ∧ Paired R l' m' := by
  intro l l' p
  induction p with
  | nil =>
    intro m h
    cases h
    exact ⟨[], .refl _, .nil⟩
  | cons x _ ih =>
    intro m h
    cases h with
    | cons a t =>
      obtain ⟨m', p', h'⟩ := ih t
      exact ⟨_ :: m', p'.cons _, .cons a h'⟩
  | swap x y l =>
    intro m h
    cases h with
    | cons a t =>
      cases t with
      | cons b t => exact ⟨_ :: _ :: _, .swap _ _ _, .cons b (.cons a t)⟩
  | trans p1 p2 ih1 ih2 =>
    intro m h
    obtain ⟨m1, q1, h1⟩ := ih2 h
    obtain ⟨m2, q2, h2⟩ := ih1 h1
    exact ⟨m2, q2.trans q1, h2⟩
theorem paired_mem {α β : Type} {R : α → β → Prop} : ∀ {l : List α} {m : List β}, Paired R l m → ∀ {x : α}, x ∈ l → ∃ y, y ∈ m ∧ R x y
  | _, _, .cons a t, x, h => by
    rcases List.mem_cons.mp h with z | z
    · exact ⟨_, List.mem_cons_self, by rw [z]; exact a⟩
    · obtain ⟨y, h1, h2⟩ := paired_mem t z
      exact ⟨y, List.mem_cons_of_mem _ h1, h2⟩
theorem paired_mem2 {α β : Type} {R : α → β → Prop} : ∀ {l : List α} {m : List β}, Paired R l m → ∀ {y : β}, y ∈ m → ∃ x, x ∈ l ∧ R x y
  | _, _, .cons a t, x, h => by
    rcases List.mem_cons.mp h with z | z
    · exact ⟨_, List.mem_cons_self, by rw [z]; exact a⟩
    · obtain ⟨y, h1, h2⟩ := paired_mem2 t z
      exact ⟨y, List.mem_cons_of_mem _ h1, h2⟩
/-- the set of the texts D (in some order) at a -/
def TxtSet0 (P : Program) (w : World) (h : Heap) (a : Addr) (D : List Str) : Prop := ∃ o es ep t D', h.get? a = some o ∧ o.ExactSet ∧ o.data = .set es ep t ∧ Paired (RowT P w) es.toList D' ∧ D'.Perm D ∧ D.Nodup ∧ es.size < scanBound ∧ t.fits es.size = true ∧ Ris t.place.toList ∧ (w.params.followText "set-order" = true ∨ t.led = true)
theorem TxtSet0.keep {h h' : Heap} {a : Addr} {D : List Str} (R : TxtSet0 P w h a D) (k : ∀ o, h.get? a = some o → h'.get? a = some o) : TxtSet0 P w h' a D := by
  obtain ⟨o, es, ep, t, D', e, r⟩ := R
  exact ⟨o, es, ep, t, D', k o e, r⟩
theorem txt_fresh {h : Heap} {a : Addr} (e : h.get? a = some (newSetObj w)) : TxtSet0 P w h a [] :=
  ⟨_, #[], 0, _, [], e, ⟨rfl, rfl, rfl⟩, rfl, .nil, .refl _, List.nodup_nil, by decide, by rfl, List.Pairwise.nil, by
    show _ ∨ (!w.params.followText "set-order") = true
    cases w.params.followText "set-order"
    · exact .inr rfl
    · exact .inl rfl⟩
theorem row_elems {l : List (Int × Value)} {D : List Str} (g : Paired (RowT P w) l D) : ElemsOf (mixKind P w) l := fun e he => by
  obtain ⟨x, _, t, h1, h2⟩ := paired_mem g he
  rw [h1]
  exact ⟨⟨.inr x, keyIs_str x t, h2⟩, rfl⟩
theorem row_find {l : List (Int × Value)} {D : List Str} (g : Paired (RowT P w) l D) (x : Str) : (l.findIdx? fun e => (mixKind P w).is (.inr x) e.2).isSome = true ↔ x ∈ D := by
  rw [List.findIdx?_isSome, List.any_eq_true]
  constructor
  · rintro ⟨e, he, q⟩
    obtain ⟨y, hy, t, h1, _⟩ := paired_mem g he
    rw [h1] at q
    rcases keyIs_shape (show keyIs (.inr x) (.str y t) = true from q) with ⟨_, _, z, _⟩ | ⟨x', t', z, z2⟩
    · cases z
    · cases z
      cases z2
      exact hy
  · intro hx
    obtain ⟨e, he, t, h1, _⟩ := paired_mem2 g hx
    exact ⟨e, he, by rw [h1]; exact keyIs_str x t⟩
/-- adding one text -/
theorem txt_add {a : Addr} {D : List Str} {x : Str} {tk : Tok} {Q : Bool → Shared → Prop} (R : TxtSet0 P w s.heap a D) (room : D.length + 1 < scanBound)
    (q : ∀ b h', Heap.SameBut a s.heap h' → TxtSet0 P w h' a (if x ∈ D then D else x :: D) → Q b { s with heap := h', toks := s.toks + 1 }) : wpAny (model P w) A (setAdd a (.str x tk)) Q E s := by
  unfold setAdd
  refine wpAny_holding (wpAny_bind ((mixKind P w).pyHash (mixKind_str P w x tk) ?_))
  obtain ⟨o, es, ep, t, D', ho, hex, hd, g, pD, nd, hb, hf, hr, hl⟩ := R
  have hsc : (Value.str x tk).scannable = true := rfl
  have hel := row_elems g
  have found := row_find g x
  have hz : es.size = D.length := by rw [← Array.length_toList, Paired.length g, pD.length_eq]
  unfold setAddHashed
  refine wpAny_holding ?_
  rw [show (100000 : Nat) = 99999 + 1 from rfl, setAddHashedIn_succ]
  refine wpAny_bind (wpAny_setState_of (s := { s with toks := s.toks + 1 }) ho hd hf ?_)
  dsimp only
  refine wp_if_pos (byScan_of hsc hb hel) ?_
  unfold setAddByScan
  refine wpAny_bind (wpAny_bind (wpAny_rule (wpAny_bind (wpAny_setScan_of (s := { s with toks := s.toks + 1 }) (mixKind_str P w x tk) ho hd hf hel ?_))))
  cases hfi : List.findIdx? (fun e => (mixKind P w).is (.inr x) e.2) es.toList with
  | some j =>
    dsimp only
    have hm : x ∈ D := pD.mem_iff.mp (found.mp (by rw [hfi]; rfl))
    refine wpAny_pure (wpAny_pure (q false s.heap (Heap.SameBut.refl a s.heap) ?_))
    rw [if_pos hm]
    exact ⟨o, es, ep, t, D', ho, hex, hd, g, pD, nd, hb, hf, hr, hl⟩
  | none =>
    dsimp only
    have hm : x ∉ D := fun z => by
      have := found.mpr (pD.mem_iff.mpr z)
      rw [hfi] at this
      cases this
    have gw : ∀ (b : Bool) {s₁ : Shared} {Q' : Unit → Shared → Prop}, Q' () s₁ → wpAny (model P w) A (match b with | true => rule "set.scan.the-table-gave-way" | false => pure ()) Q' E s₁ := fun b s₁ Q' q => by cases b <;> first | exact wpAny_pure q | exact wpAny_rule q
    have p1 := layNew_perm t es ((mixKind P w).hash (.inr x)) (.str x tk)
    have f1 := layNew_fits t es ((mixKind P w).hash (.inr x)) (.str x tk)
    have r1 := layNew_ris t es ((mixKind P w).hash (.inr x)) (.str x tk) hr
    have l1 := layNew_led t es ((mixKind P w).hash (.inr x)) (.str x tk)
    generalize layNew t es ((mixKind P w).hash (.inr x)) (.str x tk) = Z at p1 f1 r1 l1 ⊢
    obtain ⟨es1, t1, wd, gave⟩ := Z
    dsimp only at p1 f1 r1 l1 ⊢
    rw [Array.toList_push] at p1
    obtain ⟨D1, pD1, g1⟩ := paired_perm (p1.trans (List.perm_append_singleton _ _)) (Paired.cons (F := RowT P w) (a := ((mixKind P w).hash (.inr x), Value.str x tk)) (b := x) ⟨tk, rfl, rfl⟩ g)
    have pD2 : D1.Perm (x :: D) := pD1.trans (pD.cons x)
    have nd1 : (x :: D).Nodup := List.nodup_cons.mpr ⟨hm, nd⟩
    have z1 : es1.size = D.length + 1 := by rw [← Array.length_toList, Paired.length g1, pD2.length_eq, List.length_cons]
    have b1 : es1.size < scanBound := by rw [z1]; exact room
    have led1 : w.params.followText "set-order" = true ∨ t1.led = true := hl.imp id fun z => by rw [l1]; exact z
    -- the end, for a table that fits, rises, is led
    have tail : ∀ t2 : SetTable, t2.fits es1.size = true → Ris t2.place.toList → (w.params.followText "set-order" = true ∨ t2.led = true) →
        wpAny (model P w) A (do
          storeSet a es1 t2
          if (!wd && t2.tooFull) = true then do
              (match (relayAll t2 es1 (SetTable.grown es1.size)).2.2 with | true => rule "set.scan.the-table-gave-way" | false => pure ())
              storeSet a (relayAll t2 es1 (SetTable.grown es1.size)).1 (relayAll t2 es1 (SetTable.grown es1.size)).2.1
              pure (some true)
            else pure (some true)) (fun r s' => ∃ b h', r = some b ∧ s' = { s with heap := h', toks := s.toks + 1 } ∧ Heap.SameBut a s.heap h' ∧ TxtSet0 P w h' a (x :: D)) E { s with toks := s.toks + 1 } := by
      intro t2 f2 r2 l2
      refine wpAny_bind (wpAny_storeSet_of (s := { s with toks := s.toks + 1 }) ho hd ?_ (fits_of_scanBound b1))
      have ho1 := store_at (es' := es1) (t' := t2) ho hd
      have sb1 := Heap.SameBut.update s.heap a (Obj.putSet es1 t2)
      split
      · have pm := relayAll_perm t2 es1 (SetTable.grown es1.size)
        have f3 := relayAll_fits t2 es1 (SetTable.grown es1.size)
        have r3 := relayAll_ris t2 es1 (SetTable.grown es1.size)
        have l3 := relayAll_led t2 es1 (SetTable.grown es1.size)
        generalize relayAll t2 es1 (SetTable.grown es1.size) = Z at pm f3 r3 l3 ⊢
        obtain ⟨es2, t3, gave2⟩ := Z
        dsimp only at pm f3 r3 l3 ⊢
        obtain ⟨D2, pD3, g2⟩ := paired_perm pm g1
        have z2 : es2.size = es1.size := by rw [← Array.length_toList, pm.length_eq, Array.length_toList]
        refine wpAny_bind (gw _ ?_)
        refine wpAny_bind (wpAny_storeSet_of ho1 rfl ?_ (fits_of_scanBound (by rw [z2]; exact b1)))
        have ho2 := store_at (es' := es2) (t' := t3) ho1 rfl
        exact wpAny_pure ⟨true, _, rfl, rfl, sb1.trans (Heap.SameBut.update _ a _), ⟨_, es2, _, t3, D2, ho2, hex, rfl, g2, pD3.trans pD2, nd1, by rw [z2]; exact b1, f3, r3, l2.imp id fun z => by rw [l3]; exact z⟩⟩
      · exact wpAny_pure ⟨true, _, rfl, rfl, sb1, ⟨_, es1, _, t2, D1, ho1, hex, rfl, g1, pD2, nd1, b1, f2, r2, l2⟩⟩
    have fin : ∀ (r : Option Bool) s', (∃ b h', r = some b ∧ s' = { s with heap := h', toks := s.toks + 1 } ∧ Heap.SameBut a s.heap h' ∧ TxtSet0 P w h' a (x :: D)) → wpAny (model P w) A (match r with | some added => pure added | none => setAddHashedIn a (.str x tk) ((mixKind P w).hash (.inr x)) 99999) Q E s' := by
      rintro r s' ⟨b, h', rfl, rfl, sb, R'⟩
      dsimp only
      refine wpAny_pure (q b h' sb ?_)
      rw [if_neg hm]
      exact R'
    refine wpAny_bind (gw _ ?_)
    split
    · refine wpAny_bind ?_
      rw [hashByValue_scannable 8 hsc]
      refine wpAny_pure ?_
      refine wpAny_mono (tail _ ?_ ?_ ?_) (fun r s' z => fin r s' z) fun _ _ z => z
      · first | (split <;> first | exact f1 | exact SetTable.fits_plain_off f1) | exact f1
      · first | (split <;> exact r1) | exact r1
      · first | (split <;> exact led1) | exact led1
    · refine wpAny_bind (wpAny_pure ?_)
      simp only [↓reduceIte]
      exact wpAny_mono (tail _ f1 r1 led1) (fun r s' z => fin r s' z) fun _ _ z => z
end
end TKS
set_option Elab.async false
set_option linter.all false
set_option maxRecDepth 100000
set_option maxHeartbeats 4000000
namespace TKS
open PySem PySem.Spec PyProof.Rows L2
section
variable {P : Program} {w : World} {A : Around} {E : Value → Shared → Prop} {s : Shared}
/-- what is kept of the set at S behind i items, and how one more is added -/
structure Adds (P : Program) (w : World) (A : Around) (S : Addr) (items : Array Value) (h0 : Heap) (Sd : Nat → Heap → Prop) : Prop where
  keep : ∀ i h h', Sd i h → (∀ o, h.get? S = some o → h'.get? S = some o) → Sd i h'
  add : ∀ (i : Nat) (v : Value) (s : Shared) (E : Value → Shared → Prop) (Q : Bool → Shared → Prop), items[i]? = some v → (∀ b o, h0.get? b = some o → s.heap.get? b = some o) → Sd i s.heap →
    (∀ b h' tk, s.toks ≤ tk → Heap.SameBut S s.heap h' → Sd (i + 1) h' → Q b { s with heap := h', toks := tk }) → wpAny (model P w) A.in1 (setAdd S v) Q E s
theorem upd_loop {I S : Addr} {fp wr : List Addr} {G : Array GenState → Array GenState → Prop} {items : Array Value} {h0 : Heap} {Sd : Nat → Heap → Prop} {St : Nat → Shared → Prop} {R : Result → Shared → Prop} {Pv : Nat → Value → Prop}
    (W : WalksS P w A.in1 I fp wr G items.size Pv St) (hSf : S ∉ fp) (hP : ∀ i v, Pv i v → items[i]? = some v) (D : Adds P w A S items h0 Sd) (hS0 : h0.get? S = none) (hw0 : ∀ b ∈ wr, h0.get? b = none) :
    ∀ (k i : Nat) (s : Shared), items.size - i = k → i ≤ items.size → St i s → (∀ b o, h0.get? b = some o → s.heap.get? b = some o) → Sd i s.heap →
      (∀ s', Moved (S :: wr) G s s' → Sd items.size s'.heap → (∀ b o, h0.get? b = some o → s'.heap.get? b = some o) → R (.ok (.ret .none)) s') →
      codeAny (model P w) A (.builtin "set.update.loop" ⟨[.ref S, .ref I], []⟩) R s := by
  have notW : S ∉ wr := fun h => hSf (W.sub _ h)
  have up : ∀ b ∈ wr, b ∈ S :: wr := fun b hb => List.mem_cons_of_mem _ hb
  have kept : ∀ {s s' : Shared}, Moved wr G s s' → (∀ b o, h0.get? b = some o → s.heap.get? b = some o) → ∀ b o, h0.get? b = some o → s'.heap.get? b = some o := fun hm kp b o e =>
    hm.heap b o (fun hb => by rw [hw0 b hb] at e; cases e) (kp b o e)
  intro k
  induction k with
  | zero =>
    intro i s hk hi st kp sd fin
    obtain rfl : i = items.size := by omega
    refine codeAny_builtin F.entry_set_update_loop ?_
    rw [Around.under_plainId F.plain_set_update_loop _]
    show wpAny _ A.in1 (pyNext (.ref I) >>= _) _ _ s
    refine wpAny_bind (W.done s _ _ st fun s' hm => ?_)
    exact wpAny_pure (fin s' (hm.mono up) (D.keep _ _ _ sd fun o e => hm.heap S o notW e) (kept hm kp))
  | succ k ih =>
    intro i s hk hi st kp sd fin
    have lt : i < items.size := by omega
    refine codeAny_builtin F.entry_set_update_loop ?_
    rw [Around.under_plainId F.plain_set_update_loop _]
    show wpAny _ A.in1 (pyNext (.ref I) >>= _) _ _ s
    refine wpAny_bind (W.item i s _ _ lt st fun v s' pv st' hm => ?_)
    have kp' := kept hm kp
    have sd' := D.keep _ _ s'.heap sd fun o e => hm.heap S o notW e
    show wpAny _ A.in1 (holding [v] (setAdd S v) >>= _) _ _ s'
    refine wpAny_bind (wpAny_holding (D.add i v s' _ _ (hP i v pv) kp' sd' fun b h' tk le sb sd2 => ?_))
    have kp2 : ∀ b o, h0.get? b = some o → h'.get? b = some o := fun b o e => (sb.2 b (fun z => by rw [z, hS0] at e; cases e)).trans (kp' b o e)
    refine wpAny_pure ⟨plainId_quiet F.plain_set_update_loop _, ih (i + 1) _ (by omega) lt (W.frame _ s' _ _ st' le fun b hb o e => ?_) kp2 sd2 fun s'' hm2 sd3 kp3 => ?_⟩
    · rw [sb.2 b (fun h : b = S => hSf (by rw [← h]; exact hb))]
      exact e
    · refine fin s'' (Moved.trans W.gtrans ((hm.mono up).then_heap le fun b o hb e => ?_) hm2) sd3 kp3
      rw [sb.2 b (fun h : b = S => hb (by rw [h]; exact List.mem_cons_self))]
      exact e
/-- set(l), l a list -/
theorem set_of_list {l : Addr} {items : Array Value} {Sd : Nat → Heap → Prop} {Q : Value → Shared → Prop} (hh : A.handled = none) (hl : s.heap.IsList l items)
    (D : Adds P w A.in1.in1 s.heap.objs.size items s.heap Sd) (h0 : ∀ h, h.get? s.heap.objs.size = some (newSetObj w) → Sd 0 h)
    (q : ∀ (h' : Heap) (tk : Nat), Sd items.size h' → (∀ b o, s.heap.get? b = some o → h'.get? b = some o) → Q (.ref s.heap.objs.size) { s with heap := h', toks := tk }) :
    wpAny (model P w) A (call (.type "set") [.ref l]) Q E s := by
  obtain ⟨c, tl, hmro⟩ := F.called_set.mro
  have hmade := F.called_set.made
  have hsub := F.called_set.sub
  refine wpAny_call (codeAny_of_tree ?_)
  show wpAny _ _ (callAny (.type "set") _) _ _ _
  refine wpAny_pure ⟨Code.quiet_builtin _ (by decide +kernel), codeAny_builtin F.entry_type_call ?_⟩
  rw [Around.under_plain (weight_type_call_type "set" [.ref l] []) rfl]
  have g1 := F.called_set.notType
  have g2 := F.called_set.canCreate
  have g3 := F.typeCall_set_1 (.ref l)
  repeat (any_goals (first | assumption | wp_step))
  generalize hS : s.heap.objs.size = S at D h0 q
  have fresh : (s.heap.push (newSetObj w)).get? S = some (newSetObj w) := by rw [← hS]; exact Heap.get?_push_size _ rfl
  refine codeAny_mono (code_set_led1 (.ref l) (E := E) (Q₁ := fun obj s₁ => obj = .ref S ∧ s₁ = { s with heap := s.heap.push (newSetObj w) }) ⟨by rw [hS], rfl⟩) fun r s₁ hr => ?_
  cases r with
  | error e => exact hr
  | ok fl =>
    cases fl with
    | ret obj =>
      obtain ⟨rfl, rfl⟩ := hr
      have hT : Shared.TypeIs { s with heap := s.heap.push (newSetObj w) } (.ref S) "set" := ⟨_, fresh, rfl⟩
      have g4 := F.called_set.init.lookup
      have g5 := F.called_set.init.bind (.ref S)
      repeat (any_goals (first | assumption | wp_step))
      refine codeAny_mono (codeAny_call_builtin (R := wants (fun r s₂ => r = .none ∧ ∃ h' tk, s₂ = { s with heap := h', toks := tk } ∧ Sd items.size h' ∧ (∀ b o, s.heap.get? b = some o → h'.get? b = some o)) E) F.called_set.init.plain F.entry_set_init (check_set_init_1 hT ?_)) fun r₂ s₂ hr₂ => ?_
      · obtain ⟨⟨ocls, odict, odata, oslots⟩, hol, hcl, nl, hdl⟩ := hl
        simp only at hcl hdl
        subst hcl hdl
        have hol' : (s.heap.push (newSetObj w)).get? l = some { cls := .type "list", dict := odict, data := .seq items nl, slots := oslots } := Heap.get?_push_of_some _ hol
        have hsls := F.sub_list_set
        have hslf := F.sub_list_frozenset
        have hne : (Value.type "list" == Value.type "dict") = false := by decide
        have hl1 : (s.heap.push (newSetObj w)).IsList l items := ⟨_, hol', rfl, nl, rfl⟩
        unfold Builtin.«set.__init__» noKeywords Builtin.Frozenset.updateFrom
        generalize hPI : pyIter = PI
        wp_walk
        subst hPI
        refine wpAny_pyIter_list hl1 (wpAny_bind (wpAny_runValue ?_))
        have lS : l < S := by rw [← hS]; exact Heap.lt_size hol
        have hh3 : A.in1.in1.in1.handled = none := by simp [hh]
        have zP : (s.heap.push (newSetObj w)).objs.size = S + 1 := by rw [Heap.size_push, hS]
        have neI : l ≠ (s.heap.push (newSetObj w)).objs.size := by rw [zP]; exact Nat.ne_of_lt (Nat.lt_succ_of_lt lS)
        have notF : S ∉ [(s.heap.push (newSetObj w)).objs.size, l] := by
          rw [zP]
          simp only [List.mem_cons, List.mem_singleton, List.not_mem_nil, or_false, not_or]
          exact ⟨Nat.ne_of_lt (Nat.lt_succ_self S), Nat.ne_of_gt lS⟩
        have gone : ∀ b, S ≤ b → s.heap.get? b = none := fun b hb => by
          cases z : s.heap.get? b with
          | none => rfl
          | some o =>
            exact absurd (Nat.lt_of_lt_of_le (Heap.lt_size z) (by rw [hS]; exact hb)) (Nat.lt_irrefl _)
        refine upd_loop ((Walks.list hh3 _ l neI items).toS) notF (fun i v hv => hv) D (gone S (Nat.le_refl _)) (fun b hb => gone b (by rw [List.mem_singleton.mp hb, zP]; exact Nat.le_succ S)) (items.size - 0) 0 _ (by omega) (Nat.zero_le _)
          ⟨⟨_, Heap.get?_push_size _ rfl, rfl, rfl⟩, hl1.push _⟩ (fun b o e => Heap.get?_push_of_some _ (Heap.get?_push_of_some _ e)) (h0 _ (Heap.get?_push_of_some _ fresh)) ?_
        intro s' hm sd kp
        obtain ⟨h', ge, dr, tk', os'⟩ := s'
        obtain rfl : ge = s.gens := hm.gens
        obtain rfl : dr = s.drawn := hm.drawn
        obtain rfl : os' = s.os := hm.os
        show wpAny _ _ _ _ _ _
        refine wpAny_pure ?_
        show wpAny _ _ (ret Value.none) _ _ _
        exact wpAny_pure ⟨rfl, h', tk', rfl, sd, kp⟩
      · cases r₂ with
        | error e => exact hr₂
        | ok fl₂ =>
          cases fl₂ with
          | ret r =>
            obtain ⟨rfl, h', tk, rfl, sd, kp⟩ := hr₂
            repeat (any_goals (first | assumption | wp_step))
            exact q _ _ sd kp
          | _ => exact hr₂.elim
    | _ => exact hr.elim
end
end TKS
set_option Elab.async false
set_option linter.all false
set_option maxRecDepth 100000
set_option maxHeartbeats 4000000
namespace L2
open PySem PySem.Spec PyProof.Rows PpSet TKS
def TxtSet (P : Program) (w : World) (a : Addr) (D : List Str) : HO := .ext fun h => TxtSet0 P w h a D
theorem txtset_ok {P : Program} {w : World} {H : Hp} {h : Heap} {a : Addr} {D : List Str} (R : TxtSet0 P w h a D) : ObjOk P w H h a (TxtSet P w a D) := by
  have ⟨o, _, _, _, _, e, _⟩ := R
  exact ⟨R, ⟨o, e⟩, fun h1 h2 p k => p.keep k⟩
/-- behind some of the texts xs: all of them, each once -/
def setL (D : List Str) : List Str → List Str
  | [] => D
  | x :: xs => setL (if x ∈ D then D else x :: D) xs
theorem setL_app : ∀ (xs ys D : List Str), setL D (xs ++ ys) = setL (setL D xs) ys
  | [], _, _ => rfl
  | _ :: xs, ys, D => setL_app xs ys _
theorem setL_mem : ∀ (xs D : List Str) (y : Str), y ∈ setL D xs ↔ y ∈ D ∨ y ∈ xs
  | [], D, y => by
    show y ∈ D ↔ y ∈ D ∨ y ∈ []
    simp
  | x :: xs, D, y => by
    show y ∈ setL _ xs ↔ _
    rw [setL_mem xs]
    split
    · rename_i h
      constructor
      · rintro (z | z)
        · exact .inl z
        · exact .inr (List.mem_cons_of_mem _ z)
      · rintro (z | z)
        · exact .inl z
        · rcases List.mem_cons.mp z with e | e
          · rw [e]
            exact .inl h
          · exact .inr e
    · rw [List.mem_cons, List.mem_cons]
      constructor
      · rintro ((z | z) | z)
        · exact .inr (.inl z)
        · exact .inl z
        · exact .inr (.inr z)
      · rintro (z | z | z)
        · exact .inl (.inr z)
        · exact .inl (.inl z)
        · exact .inr z
theorem setL_nd : ∀ (xs D : List Str), D.Nodup → (setL D xs).Nodup
  | [], _, h => h
  | x :: xs, D, h => by
    refine setL_nd xs _ ?_
    split
    · exact h
    · rename_i n
      exact List.nodup_cons.mpr ⟨n, h⟩
theorem setL_len : ∀ (xs D : List Str), (setL D xs).length ≤ D.length + xs.length
  | [], D => Nat.le_refl _
  | x :: xs, D => by
    have := setL_len xs (if x ∈ D then D else x :: D)
    have h2 : (if x ∈ D then D else x :: D).length ≤ D.length + 1 := by split <;> simp
    show (setL _ xs).length ≤ D.length + (xs.length + 1)
    omega
section
variable {X : Cx}
/-- set(xs), xs a list of texts -/
def rSetTx (K : PySem.W.Frag) (P : Program) (w : World) : List V → Hp → VK → Prop := fun vs H Q => ∃ (l : Addr) (xs : List Str), vs = [V.ref l] ∧ SqL K H l (xs.map V.str) ∧ xs.length ≤ 1000 ∧ ∀ (D : List Str) (p : Addr), D.Nodup → (∀ y, y ∈ D ↔ y ∈ xs) → D.length ≤ xs.length → H p = none → Q (.ref p) (upd H p (TxtSet P w p D))
theorem cr_setTx (hc : X.calm = true) : CallR X (.type "set") (rSetTx X.K X.prog X.w) := by
  intro pins s σ H vs us Q I r h
  obtain ⟨l, xs, rfl, hs, hx, q⟩ := h
  obtain ⟨its, rv, hl, _⟩ := I.list hs
  rw [Vals.ref1 r]
  have len : its.length = xs.length := by rw [← rv.length, List.length_map]
  have at_ : ∀ (i : Nat) (v : Value), its.toArray[i]? = some v → ∃ x t, xs[i]? = some x ∧ v = .str x t := fun i v e => by
    have e1 : its[i]? = some v := by simpa using e
    have lt : i < (xs.map V.str).length := by
      rw [rv.length]
      exact (List.getElem?_eq_some_iff.mp e1).1
    obtain ⟨u, e2, ru⟩ := rv.get (List.getElem?_eq_getElem lt)
    rw [e1] at e2
    cases e2
    rw [List.getElem_map] at ru
    obtain ⟨t, rfl⟩ := ru
    rw [List.length_map] at lt
    exact ⟨_, t, List.getElem?_eq_getElem lt, rfl⟩
  have D : Adds X.prog X.w X.A.in1.in1 s.heap.objs.size its.toArray s.heap (fun i h => TxtSet0 X.prog X.w h s.heap.objs.size (setL [] (xs.take i))) := by
    refine ⟨fun i h h' R k => R.keep k, fun i v s' E Q e kp R fin => ?_⟩
    obtain ⟨x, t, hx2, rfl⟩ := at_ i v e
    have room : (setL [] (xs.take i)).length + 1 < scanBound := by
      have := setL_len (xs.take i) []
      have h2 : (xs.take i).length ≤ xs.length := by rw [List.length_take]; exact Nat.min_le_right _ _
      unfold scanBound
      simp only [List.length_nil] at this
      omega
    refine txt_add R room fun b h' sb R' => fin b h' _ (Nat.le_succ _) sb ?_
    have e3 : xs.take (i + 1) = xs.take i ++ [x] := by
      rw [List.take_add_one, hx2]
      rfl
    rw [e3, setL_app]
    exact R'
  refine set_of_list (I.ok.hd hc) hl.isList D (fun h e => txt_fresh e) fun h' tk R kp => ?_
  have ez : xs.take its.toArray.size = xs := List.take_of_length_le (by rw [List.size_toArray, len]; exact Nat.le_refl _)
  rw [ez] at R
  have fresh : H s.heap.objs.size = none := I.hok.fresh (Nat.le_refl _)
  exact ⟨.ref _, upd H s.heap.objs.size (TxtSet X.prog X.w s.heap.objs.size (setL [] xs)), I.laid (t' := tk) kp (Nat.le_refl _) (txtset_ok R), rfl,
    q _ _ (setL_nd xs [] List.nodup_nil) (fun y => by rw [setL_mem]; simp) (by have := setL_len xs []; simpa using this) fresh⟩
theorem Inv.txtset {pins : List (Addr × Obj)} {σ : St} {H : Hp} {s : Shared} {a : Addr} {D : List Str} (I : Inv X pins σ H s) (e : H a = some (TxtSet X.prog X.w a D)) : TxtSet0 X.prog X.w s.heap a D := (show ObjOk X.prog X.w H s.heap a (.ext fun h => TxtSet0 X.prog X.w h a D) from I.hok a _ e).1
theorem strs_of_rows {P : Program} {w : World} : ∀ {l : List (Int × Value)} {D : List Str}, Paired (RowT P w) l D → StrsAre (l.map (·.2)) D
  | _, _, .nil => .nil
  | _, _, .cons (a := e) ⟨t, h1, _⟩ r => by
    rw [List.map_cons, h1]
    exact StrsAre.cons _ _ (strs_of_rows r)
theorem strs_perm {l l' : List Value} {D : List Str} (p : l'.Perm l) (h : StrsAre l D) : ∃ D', D'.Perm D ∧ StrsAre l' D' := by
  have go : ∀ {l : List Value} {D : List Str}, StrsAre l D → Paired (fun v x => ∃ t, v = Value.str x t) l D := by
    intro l D h
    induction h with
    | nil => exact .nil
    | cons _ _ _ ih => exact .cons ⟨_, rfl⟩ ih
  have back : ∀ {l : List Value} {D : List Str}, Paired (fun v x => ∃ t, v = Value.str x t) l D → StrsAre l D := by
    intro l D h
    induction h with
    | nil => exact .nil
    | cons e _ ih =>
      obtain ⟨t, rfl⟩ := e
      exact StrsAre.cons _ _ ih
  obtain ⟨D', q, h'⟩ := paired_perm p (go h)
  exact ⟨D', q, back h'⟩
/-- sorted(S), S a set of texts -/
def rSortTx (P : Program) (w : World) : List V → Hp → VK → Prop := fun vs H Q => ∃ (a : Addr) (D : List Str), vs = [V.ref a] ∧ H a = some (TxtSet P w a D) ∧ D.length ≤ 1000 ∧ ∀ (ys : List Str) (p : Addr), ys.Perm D → sortedS ys = true → H p = none → Q (.ref p) (upd H p (.lst (ys.map V.str)))
theorem cr_sortTx (hc : X.calm = true) : CallR X (.builtin "sorted") (rSortTx X.prog X.w) := by
  intro pins s σ H vs us Q I r h
  obtain ⟨a, D, rfl, ha, hD, q⟩ := h
  rw [Vals.ref1 r]
  obtain ⟨o, es, ep, t, D', ho, hex, hd, g, pD, nd, hb, hf, hr, hl⟩ := I.txtset ha
  have hh : X.A.in1.handled = none := I.ok.hd hc
  refine Calls.call_function_entry kind_sorted plain_sorted entry_sorted (args_sorted1 _) ?_
  unfold Builtin.«sorted»
  refine wpAny_bind (m := checkCount "sorted" 1 1 _) (wpAny_pure ?_)
  refine wpAny_bind (collect_set (A := X.A.in1) hh ⟨o, ho, hex.1, hd⟩ hf hb hr hl fun s1 vs k1 z1 g1 o1 pm => ?_)
  obtain ⟨D2, pD2, hS⟩ := strs_perm pm (strs_of_rows g)
  have lv : vs.length ≤ sizeLine := by
    rw [hS.length, pD2.length_eq, pD.length_eq, sizeLine_eq]
    omega
  refine wpAny_bind (wpAny_newList ?_ lv)
  have hoL : (s1.heap.push (seqObj "list" vs.toArray 0)).get? s1.heap.objs.size = some (seqObj "list" vs.toArray 0) := Heap.get?_push_size _ rfl
  refine wpAny_bind (wpAny_holding (wpAny_call_entry slot_list_sort ⟨_, hoL, rfl⟩ entry_list_sort (list_sort_treeKAny strKind_oneLt (s := { s1 with heap := s1.heap.push (seqObj "list" vs.toArray 0) }) hoL hS.keysOf (fun v₁ v₂ rest e => keyKind_strs (by rw [← e]; exact hS)) lv fun st' hp hs => ⟨_, rfl, ?_⟩) (args_list_sort _)))
  obtain ⟨ys, h1, h2, h3⟩ := sorted_out_str hS hp hs
  obtain ⟨c, hcc⟩ := sortedHeap_at (vs := vs) (out := (arrOf st').map (·.2)) hoL
  refine wpAny_pure ⟨_, rfl, ?_⟩
  have fresh : H s1.heap.objs.size = none := I.hok.fresh z1
  have old : ∀ b u, s.heap.get? b = some u → (sortedHeap (s1.heap.push (seqObj "list" vs.toArray 0)) s1.heap.objs.size vs ((arrOf st').map (·.2))).get? b = some u := fun b u e => by
    have lt := Heap.lt_size (k1 b u e)
    rw [sortedHeap_old (Nat.ne_of_lt lt) (by rw [size_push']; exact Nat.lt_succ_of_lt lt)]
    exact Heap.get?_push_of_some _ (k1 b u e)
  have pys : ys.Perm D := h2.trans (pD2.trans pD)
  have J : Inv X pins σ (upd H s1.heap.objs.size (.lst (ys.map V.str))) ⟨sortedHeap (s1.heap.push (seqObj "list" vs.toArray 0)) s1.heap.objs.size vs ((arrOf st').map (·.2)), s1.gens, s1.drawn, s1.toks, s1.os⟩ := by
    refine I.call' (ch := []) o1 (Un.laid old z1 fresh) (I.hok.laid old z1 ⟨by rw [List.length_map, pys.length_eq, sizeLine_eq]; omega, ((arrOf st').map (·.2)).toList, c, vals_of_strs h1, hcc⟩) ?_ fun _ z => nomatch z
    rw [g1]
    exact I.bare
  exact ⟨.ref _, _, J, rfl, q ys _ pys h3 fresh⟩
end
end L2
set_option Elab.async false
set_option linter.all false
set_option maxRecDepth 100000
set_option maxHeartbeats 4000000
/-! more words: a slot read (what is owned becomes shared), isinstance, built-in functions -/
namespace DN
open PySem PySem.Spec PyProof.Rows L2 TKS
section
variable {K : PySem.W.Frag} {X : Cx} {E : XK} {pn : Nat → Prop} {st : Stmt} {e : Expr} {es : List Expr} {Fa Fb Fc : W D} {FL : W (List D)} {FB : W Bool}
/-- slot i, read; what it owned is shared from here on -/
def vr (i : Nat) : W D := fun δ P _ => match slot δ i with
  | .sh d => P d δ
  | .ow (.pur _) => False
  | .ow o => P (toD o) (frz i δ)
  | .no => False
theorem m_vr {i : Nat} (h : PE X e (tVar i)) : PE X e (tE X.K E (vr i)) := peI h fun σ H Q ⟨Hm, δ, fp, P, R, env, hF, hP, hR⟩ => by
  unfold vr at hF
  have sh : ∀ {Hm δ fp d}, EnvOk X.K Hm H σ δ fp → slot δ i = .sh d → P d δ → (∀ d δ', P d δ' → ∀ v Hm' H' fp', Step Hm H fp Hm' H' fp' → EnvOk X.K Hm' H' σ δ' fp' → Dq X.K Hm' v d → Q v H') → tVar i σ H Q := fun {Hm δ fp d} env s hF hP => by
    obtain ⟨v, a, b⟩ := env.sh i d s
    exact ⟨v, a, hP d δ hF v Hm H fp (.refl ..) env b⟩
  cases s : slot δ i with
  | no => rw [s] at hF; exact hF.elim
  | sh d => rw [s] at hF; exact sh env s hF hP
  | ow o =>
    obtain ⟨Hm', fp', e', st⟩ := env.frz i
    have hi : i < δ.length := slot_lt (by rw [s]; nofun)
    rw [s] at hF
    have main : P (toD o) (frz i δ) → frz i δ = put δ i (.sh (toD o)) → tVar i σ H Q := fun hF z => by
      refine sh e' (d := toD o) ?_ hF fun d δ' h v Hm2 H2 fp2 s2 e2 dv => hP d δ' h v Hm2 H2 fp2 (st.trans s2) e2 dv
      rw [z, slot_put, if_pos ⟨rfl, hi⟩]
    cases o with
    | pur _ => exact hF.elim
    | lst _ => exact main hF (by unfold frz; rw [s])
    | dic _ => exact main hF (by unfold frz; rw [s])
    | dit _ => exact main hF (by unfold frz; rw [s])
    | obj _ _ => exact main hF (by unfold frz; rw [s])
theorem fnP_len {m n : Nat} {B : S} : ∀ ds P R, fnP m n B ds P R → ds.length = m := fun _ _ _ h => h.1
theorem fnU_len {m n : Nat} {B : S} : ∀ k ds P R, fnU m n B k ds P R → ds.length = m := fun _ _ _ _ h => h.1
theorem fnI_len {C : Addr} {m n : Nat} {B : S} : ∀ ds P R, fnI C m n B ds P R → ds.length = m := fun _ _ _ h => h.1
/-- isinstance(x, T) -/
def isiW (T : String) (F : W D) : W D := ap1 (isiG T) F
def okTy (T : String) : Prop := ∀ (K : PySem.W.Frag) (d : D), (∀ C fs, d ≠ .obj C fs) → (∀ es, d ≠ .dit es) → PySem.W.kitOne K (.type (tyD d)) (.type T) = some (tyD d == T || (tyD d == "bool" && T == "int"))
theorem ok_tup : okTy "tuple" := fun K d n m => by
  cases d with
  | obj _ _ => exact absurd rfl (n _ _)
  | dit _ => exact absurd rfl (m _)
  | _ => rfl
theorem ok_list : okTy "list" := fun K d n m => by
  cases d with
  | obj _ _ => exact absurd rfl (n _ _)
  | dit _ => exact absurd rfl (m _)
  | _ => rfl
theorem ok_str : okTy "str" := fun K d n m => by
  cases d with
  | obj _ _ => exact absurd rfl (n _ _)
  | dit _ => exact absurd rfl (m _)
  | _ => rfl
theorem ok_int : okTy "int" := fun K d n m => by
  cases d with
  | obj _ _ => exact absurd rfl (n _ _)
  | dit _ => exact absurd rfl (m _)
  | _ => rfl
theorem ok_bool : okTy "bool" := fun K d n m => by
  cases d with
  | obj _ _ => exact absurd rfl (n _ _)
  | dit _ => exact absurd rfl (m _)
  | _ => rfl
theorem m_isi {T : String} (h : PE X e (tCB (rIsi X.K) (tCons (tE X.K E Fa) (tCons (L2.tC (.ty T)) tNil)))) (k : okTy T) : PE X e (tE X.K E (isiW T Fa)) := peI h fun σ H Q ⟨Hm, δ, fp, P, R, env, hF, hP, hR⟩ =>
  ⟨Hm, δ, fp, _, R, env, hF, fun d δ1 h1 v Hm1 H1 fp1 s1 e1 dv => by
    have go : (∀ C fs, d ≠ .obj C fs) → (∀ es, d ≠ .dit es) → P (.bl (tyD d == T || (tyD d == "bool" && T == "int"))) δ1 → rIsi X.K [v, .ty T] H1 Q := fun n m q =>
      ⟨v, _, _, _, _, rfl, .ty T, rd_ty e1.sub dv n m, k X.K d n m, hP _ δ1 q _ Hm1 H1 fp1 s1 e1 (.bl _)⟩
    unfold isiG at h1
    cases d with
    | obj _ _ => exact h1.elim
    | dit _ => exact h1.elim
    | non => exact go (by nofun) (by nofun) h1
    | bl _ => exact go (by nofun) (by nofun) h1
    | scr _ => exact go (by nofun) (by nofun) h1
    | int _ => exact go (by nofun) (by nofun) h1
    | str _ => exact go (by nofun) (by nofun) h1
    | lst _ => exact go (by nofun) (by nofun) h1
    | tup _ => exact go (by nofun) (by nofun) h1
    | dic _ => exact go (by nofun) (by nofun) h1, hR⟩
/-! lists of truth values, numbers, texts -/
def toBs : List D → (List Bool → Prop) → Prop
  | [], P => P []
  | .bl b :: r, P => toBs r fun bs => P (b :: bs)
  | _ :: _, _ => False
def toIs : List D → (List Int → Prop) → Prop
  | [], P => P []
  | .int b :: r, P => toIs r fun bs => P (b :: bs)
  | _ :: _, _ => False
def toSs : List D → (List Str → Prop) → Prop
  | [], P => P []
  | .str b :: r, P => toSs r fun bs => P (b :: bs)
  | _ :: _, _ => False
theorem of_Bs : ∀ {ds : List D} {P : List Bool → Prop}, toBs ds P → ∃ bs : List Bool, ds = bs.map D.bl ∧ P bs
  | [], _, h => ⟨[], rfl, h⟩
  | .bl b :: r, _, h => by
    obtain ⟨bs, e, h⟩ := of_Bs (ds := r) h
    exact ⟨b :: bs, by rw [e]; rfl, h⟩
theorem of_Is : ∀ {ds : List D} {P : List Int → Prop}, toIs ds P → ∃ bs : List Int, ds = bs.map D.int ∧ P bs
  | [], _, h => ⟨[], rfl, h⟩
  | .int b :: r, _, h => by
    obtain ⟨bs, e, h⟩ := of_Is (ds := r) h
    exact ⟨b :: bs, by rw [e]; rfl, h⟩
theorem of_Ss : ∀ {ds : List D} {P : List Str → Prop}, toSs ds P → ∃ bs : List Str, ds = bs.map D.str ∧ P bs
  | [], _, h => ⟨[], rfl, h⟩
  | .str b :: r, _, h => by
    obtain ⟨bs, e, h⟩ := of_Ss (ds := r) h
    exact ⟨b :: bs, by rw [e]; rfl, h⟩
theorem to_Bs (bs : List Bool) (P : List Bool → Prop) (h : P bs) : toBs (bs.map D.bl) P := by
  induction bs generalizing P with
  | nil => exact h
  | cons b r ih => exact ih _ h
theorem to_Is (bs : List Int) (P : List Int → Prop) (h : P bs) : toIs (bs.map D.int) P := by
  induction bs generalizing P with
  | nil => exact h
  | cons b r ih => exact ih _ h
theorem to_Ss (bs : List Str) (P : List Str → Prop) (h : P bs) : toSs (bs.map D.str) P := by
  induction bs generalizing P with
  | nil => exact h
  | cons b r ih => exact ih _ h
def one (f : D → (D → Prop) → Prop) : GN := fun ds P => match ds with
  | [x] => f x P
  | _ => False
def two (f : D → D → (D → Prop) → Prop) : GN := fun ds P => match ds with
  | [x, y] => f x y P
  | _ => False
theorem of_one {f : D → (D → Prop) → Prop} {ds : List D} {P : D → Prop} (h : one f ds P) : ∃ x, ds = [x] ∧ f x P := by
  match ds, h with
  | [x], h => exact ⟨x, rfl, h⟩
theorem of_two {f : D → D → (D → Prop) → Prop} {ds : List D} {P : D → Prop} (h : two f ds P) : ∃ x y, ds = [x, y] ∧ f x y P := by
  match ds, h with
  | [x, y], h => exact ⟨x, y, rfl, h⟩
theorem DqL.one {Hm : Hp} {vs : List V} {x : D} (h : DqL K Hm vs [x]) : ∃ v, vs = [v] ∧ Dq K Hm v x := by
  cases h with
  | cons a b => cases b; exact ⟨_, rfl, a⟩
theorem DqL.two {Hm : Hp} {vs : List V} {x y : D} (h : DqL K Hm vs [x, y]) : ∃ v u, vs = [v, u] ∧ Dq K Hm v x ∧ Dq K Hm u y := by
  cases h with
  | cons a b => obtain ⟨u, rfl, q⟩ := b.one; exact ⟨_, _, rfl, a, q⟩
def gAny : GN := one fun x P => isL x fun ds => toBs ds fun bs => P (.bl (bs.any id))
def gAll : GN := one fun x P => isL x fun ds => toBs ds fun bs => P (.bl (bs.all id))
def gSum : GN := one fun x P => isL x fun ds => toIs ds fun ns => P (.int ns.sum)
theorem p_any : PrimN K (rAny K) gAny := fun Hm H vs ds P Q l hv g k => by
  obtain ⟨x, rfl, g⟩ := of_one g
  obtain ⟨v, rfl, hx⟩ := hv.one
  obtain ⟨a, xs, ds, rfl, rfl, hs, hd, g⟩ := rd_L hx g
  obtain ⟨bs, rfl, g2⟩ := of_Bs g
  rw [hd.of_bls] at hs
  exact ⟨a, bs, rfl, .of (l.lst hs), k _ _ Hm H g2 (.refl l) (.bl _)⟩
theorem p_all : PrimN K (rAll K) gAll := fun Hm H vs ds P Q l hv g k => by
  obtain ⟨x, rfl, g⟩ := of_one g
  obtain ⟨v, rfl, hx⟩ := hv.one
  obtain ⟨a, xs, ds, rfl, rfl, hs, hd, g⟩ := rd_L hx g
  obtain ⟨bs, rfl, g2⟩ := of_Bs g
  rw [hd.of_bls] at hs
  exact ⟨a, bs, rfl, .of (l.lst hs), k _ _ Hm H g2 (.refl l) (.bl _)⟩
theorem p_sum : PrimN K (rSum K) gSum := fun Hm H vs ds P Q l hv g k => by
  obtain ⟨x, rfl, g⟩ := of_one g
  obtain ⟨v, rfl, hx⟩ := hv.one
  obtain ⟨a, xs, ds, rfl, rfl, hs, hd, g⟩ := rd_L hx g
  obtain ⟨bs, rfl, g2⟩ := of_Is g
  rw [hd.of_ints] at hs
  exact ⟨a, bs, rfl, .of (l.lst hs), k _ _ Hm H g2 (.refl l) (.int _)⟩
def gMax2 : GN := two fun x y P => isI x fun i => isI y fun j => P (.int (if j > i then j else i))
def gMin2 : GN := two fun x y P => isI x fun i => isI y fun j => P (.int (if j < i then j else i))
def gMinS : GN := two fun x y P => isS x fun i => isS y fun j => P (.str (if slt j i = true then j else i))
theorem p_max2 : PrimN K (fun xs H Q => ∃ i j, xs = [.int i, .int j] ∧ Q (.int (if j > i then j else i)) H) gMax2 := fun Hm H vs ds P Q l hv g k => by
  obtain ⟨x, y, rfl, g⟩ := of_two g
  obtain ⟨v, u, rfl, hx, hy⟩ := hv.two
  obtain ⟨i, rfl, rfl, g⟩ := rd_I hx g
  obtain ⟨j, rfl, rfl, g⟩ := rd_I hy g
  exact ⟨i, j, rfl, k _ _ Hm H g (.refl l) (.int _)⟩
theorem p_min2 : PrimN K (fun xs H Q => ∃ i j, xs = [.int i, .int j] ∧ Q (.int (if j < i then j else i)) H) gMin2 := fun Hm H vs ds P Q l hv g k => by
  obtain ⟨x, y, rfl, g⟩ := of_two g
  obtain ⟨v, u, rfl, hx, hy⟩ := hv.two
  obtain ⟨i, rfl, rfl, g⟩ := rd_I hx g
  obtain ⟨j, rfl, rfl, g⟩ := rd_I hy g
  exact ⟨i, j, rfl, k _ _ Hm H g (.refl l) (.int _)⟩
theorem p_minS : PrimN K rMinTx gMinS := fun Hm H vs ds P Q l hv g k => by
  obtain ⟨x, y, rfl, g⟩ := of_two g
  obtain ⟨v, u, rfl, hx, hy⟩ := hv.two
  obtain ⟨i, rfl, rfl, g⟩ := rd_S hx g
  obtain ⟨j, rfl, rfl, g⟩ := rd_S hy g
  exact ⟨i, j, rfl, k _ _ Hm H g (.refl l) (.str _)⟩
/-- int(x) -/
def gInt : GN := one fun x P => match x with
  | .int i => P (.int i)
  | .bl c => P (.int (if c then 1 else 0))
  | _ => False
theorem p_int1 : PrimN K (fun xs H Q => (∃ i, xs = [.int i] ∧ Q (.int i) H) ∨ ∃ k, xs = [.bl k] ∧ Q (.int (if k then 1 else 0)) H) gInt := fun Hm H vs ds P Q l hv g k => by
  obtain ⟨x, rfl, g⟩ := of_one g
  obtain ⟨v, rfl, hx⟩ := hv.one
  cases hx with
  | int i => exact .inl ⟨i, rfl, k _ _ Hm H g (.refl l) (.int _)⟩
  | bl i => exact .inr ⟨i, rfl, k _ _ Hm H g (.refl l) (.int _)⟩
  | _ => exact g.elim
def gAbs : GN := one fun x P => isI x fun i => P (.int (if i < 0 then -i else i))
theorem p_abs : PrimN K (fun xs H Q => ∃ i, xs = [.int i] ∧ Q (.int (if i < 0 then -i else i)) H) gAbs := fun Hm H vs ds P Q l hv g k => by
  obtain ⟨x, rfl, g⟩ := of_one g
  obtain ⟨v, rfl, hx⟩ := hv.one
  obtain ⟨i, rfl, rfl, g⟩ := rd_I hx g
  exact ⟨i, rfl, k _ _ Hm H g (.refl l) (.int _)⟩
end
end DN
set_option Elab.async false
set_option linter.all false
set_option maxRecDepth 100000
set_option maxHeartbeats 4000000
/-! dicts walked: locked meanwhile -/
namespace DN
open PySem PySem.Spec PyProof.Rows L2 TKS
section
variable {K : PySem.W.Frag} {Hm H Hm' H' : Hp} {σ σ' : L2.St} {δ δ' : Env} {fp fp' : Fp} {d : Addr} {u : HO} {od : PySem.Obj}
theorem EnvOk.off_msk (e : EnvOk K Hm H σ δ fp) (m : ∃ o, Hm d = some o) (i : Nat) : d ∉ fp i := fun h => by
  obtain ⟨o, m⟩ := m
  rw [e.msk h] at m
  cases m
theorem EnvOk.lock (e : EnvOk K Hm H σ δ fp) (hd : H d = some u) (dc : isDct u = true) (m : ∃ o, Hm d = some o) : EnvOk K Hm (upd H d (.frz od u)) σ δ fp := by
  have off := e.off_msk m
  refine ⟨e.len, fun b o h => ?_, e.sh, fun i o h => ?_, e.non, e.dis⟩
  · by_cases z : b = d
    · subst z
      rw [upd_same]
      rcases e.sub b o h with q | ⟨q, ob, q2⟩
      · rw [hd] at q
        cases q
        exact .inr ⟨dc, od, rfl⟩
      · rw [hd] at q2
        cases q2
        cases dc
    · rw [upd_ne z]
      exact e.sub b o h
  · obtain ⟨v, a, b⟩ := e.ow i o h
    refine ⟨v, a, b.frame (.refl _) b.msk fun p hp w hw => ?_⟩
    rw [upd_ne fun z => off i (by rw [← z]; exact hp)]
    exact hw
theorem EnvOk.unlock (e : EnvOk K Hm' H' σ δ fp) (hd : H' d = some (.frz od u)) (dc : isDct u = true) (m : Hm' d = some u) : EnvOk K Hm' (upd H' d u) σ δ fp := by
  have off := e.off_msk ⟨_, m⟩
  refine ⟨e.len, fun b o h => ?_, e.sh, fun i o h => ?_, e.non, e.dis⟩
  · by_cases z : b = d
    · subst z
      rw [upd_same]
      rw [m] at h
      exact .inl h
    · rw [upd_ne z]
      exact e.sub b o h
  · obtain ⟨v, a, b⟩ := e.ow i o h
    refine ⟨v, a, b.frame (.refl _) b.msk fun p hp w hw => ?_⟩
    rw [upd_ne fun z => off i (by rw [← z]; exact hp)]
    exact hw
theorem Step.unlock (s : Step Hm (upd H d (.frz od u)) fp Hm' H' fp') (hd : H d = some u) (off : ∀ i, d ∉ fp i) : Step Hm H fp Hm' (upd H' d u) fp' ∧ H' d = some (.frz od u) := by
  have at_ : H' d = some (.frz od u) := s.keep d _ upd_same off
  have none_ : ∀ p, upd H d (.frz od u) p = none → H p = none := fun p h => by
    by_cases z : p = d
    · rw [z, upd_same] at h; cases h
    · rw [upd_ne z] at h; exact h
  refine ⟨⟨s.mask, fun p o h n => ?_, fun i p h => (s.new i p h).imp_right (none_ p), fun p o h => (s.only p o h).imp_right fun z => z.imp_right (none_ p), fun p h => ?_⟩, at_⟩
  · by_cases z : p = d
    · rw [z, upd_same]; rw [z, hd] at h; exact h
    · rw [upd_ne z]; exact s.keep p o (by rw [upd_ne z]; exact h) n
  · by_cases z : p = d
    · rw [z, upd_same] at h; cases h
    · rw [upd_ne z] at h; exact none_ p (s.dom p h)
end
theorem DqP.get {K : PySem.W.Frag} {H : Hp} {κ : Type} : ∀ {vs : List (κ × V)} {ds : List (κ × D)} {i : Nat} {k : κ} {v : V}, DqP K H vs ds → vs[i]? = some (k, v) → ∃ d, ds[i]? = some (k, d) ∧ Dq K H v d
  | _, _, 0, _, _, .cons (d := d) h _, e => by cases e; exact ⟨d, rfl, h⟩
  | _, _, i + 1, _, _, .cons _ h, e => DqP.get (i := i) h e
/-- a dict's walk -/
inductive Wk where | keys | vals | items
def wkD : Wk → List (Key × D) → List D
  | .keys => keysD | .vals => valsD | .items => itemsD
def wkI : Wk → TE → TI
  | .keys => iKeys | .vals => iVals | .items => iItems
def wkJ : Wk → Addr → PySem.Obj → List (Key × V) → It
  | .keys => Itk | .vals => Itd | .items => Iti
theorem wk_src {k : Wk} {td : TE} {σ : L2.St} {H : Hp} {R : It → Hp → Prop} (h : td σ H fun x H1 => ∃ d o kvs, x = .ref d ∧ H1 d = some (.frz o (.dK kvs)) ∧ R (wkJ k d o kvs) H1) (mono : ∀ Q Q' : VK, (∀ v H, Q v H → Q' v H) → td σ H Q → td σ H Q') : wkI k td σ H R := by
  cases k with
  | keys => exact mono _ _ (fun v H ⟨d, o, kvs, a, b, c⟩ => ⟨d, o, a, .inl ⟨kvs, b, c⟩⟩) h
  | vals => exact h
  | items => exact h
theorem itemsOk {K : PySem.W.Frag} {Hm0 : Hp} {d : Addr} {o : PySem.Obj} {xs : List (Key × V)} {ds : List (Key × D)} (k : Wk) (h : DqP K Hm0 xs ds) : ItOk K Hm0 (some (d, .frz o (.dK xs))) (wkJ k d o xs) (wkD k ds) := fun i Hm H sm l z => by
  have hd := (z d _ rfl).1
  have hl := h.len
  have at_ : ∀ {kk v}, xs[i]? = some (kk, v) → ∃ x, ds[i]? = some (kk, x) ∧ Dq K Hm v x := fun {kk v} e => by
    obtain ⟨x, a, b⟩ := h.get e
    exact ⟨x, a, b.le (.of sm)⟩
  cases k with
  | keys =>
    have hl2 : (wkD .keys ds).length = xs.length := by show (List.map _ _).length = _; rw [List.length_map]; exact hl.symm
    refine ⟨fun hi => ⟨hd, by omega⟩, fun e he => ⟨⟨hd, ?_⟩, ?_⟩⟩
    · have := (List.getElem?_eq_some_iff.mp he).1; omega
    · rintro x H1 ⟨rfl, kk, v, ex, rfl⟩
      obtain ⟨y, ey, dy⟩ := at_ ex
      have he : (ds.map fun p => kD p.1)[i]? = some e := he
      rw [List.getElem?_map, ey] at he
      cases he
      exact ⟨Hm, .refl l, kD_dq kk⟩
  | vals =>
    have hl2 : (wkD .vals ds).length = xs.length := by show (List.map _ _).length = _; rw [List.length_map]; exact hl.symm
    refine ⟨fun hi => ⟨hd, by omega⟩, fun e he => ⟨⟨hd, ?_⟩, ?_⟩⟩
    · have := (List.getElem?_eq_some_iff.mp he).1; omega
    · rintro x H1 ⟨rfl, kk, ex⟩
      obtain ⟨y, ey, dy⟩ := at_ ex
      have he : (ds.map fun p => p.2)[i]? = some e := he
      rw [List.getElem?_map, ey] at he
      cases he
      exact ⟨Hm, .refl l, dy⟩
  | items =>
    have hl2 : (wkD .items ds).length = xs.length := by show (List.map _ _).length = _; rw [List.length_map]; exact hl.symm
    refine ⟨fun hi => ⟨hd, by omega⟩, fun e he => ⟨⟨hd, ?_⟩, ?_⟩⟩
    · have := (List.getElem?_eq_some_iff.mp he).1; omega
    · rintro x H1 ⟨T, kk, v, ex, rfl, nT, rfl⟩
      obtain ⟨y, ey, dy⟩ := at_ ex
      have he : (ds.map fun p => D.tup [kD p.1, p.2])[i]? = some e := he
      rw [List.getElem?_map, ey] at he
      cases he
      have n := New.one l (o := .tup [kV kk, v]) nT
      exact ⟨_, n, .tup (.of upd_same) (.cons (kD_dq kk) (.cons (dy.le (.of n.mask)) .nil))⟩
def itD (k : Wk) (F : W D) : W (List D) := fun δ P R => F δ (fun d δ1 => isDic d fun kvs => P (wkD k kvs) δ1) R

theorem tVar_mono {i : Nat} {σ : L2.St} {H : Hp} : ∀ Q Q' : VK, (∀ v H, Q v H → Q' v H) → tVar i σ H Q → tVar i σ H Q' := fun Q Q' m ⟨v, a, b⟩ => ⟨v, a, m v H b⟩
/-- slot i read, and what then stands there -/
theorem vr_at {K : PySem.W.Frag} {Hm H : Hp} {σ : L2.St} {δ : Env} {fp : Fp} {i : Nat} {P : D → Env → Prop} {R : Er → Prop} (env : EnvOk K Hm H σ δ fp) (h : vr i δ P R) : ∃ v d δ' Hm' fp', σ[i]? = some (some v) ∧ P d δ' ∧ Step Hm H fp Hm' H fp' ∧ EnvOk K Hm' H σ δ' fp' ∧ Dq K Hm' v d := by
  unfold vr at h
  cases s : slot δ i with
  | no => rw [s] at h; exact h.elim
  | sh d =>
    rw [s] at h
    obtain ⟨v, a, b⟩ := env.sh i d s
    exact ⟨v, d, δ, Hm, fp, a, h, .refl .., env, b⟩
  | ow o =>
    obtain ⟨Hm', fp', e', st⟩ := env.frz i
    have hi : i < δ.length := slot_lt (by rw [s]; nofun)
    rw [s] at h
    have main : P (toD o) (frz i δ) → frz i δ = put δ i (.sh (toD o)) → ∃ v d δ' Hm' fp', σ[i]? = some (some v) ∧ P d δ' ∧ Step Hm H fp Hm' H fp' ∧ EnvOk K Hm' H σ δ' fp' ∧ Dq K Hm' v d := fun hF z => by
      obtain ⟨v, a, b⟩ := e'.sh i (toD o) (by rw [z, slot_put, if_pos ⟨rfl, hi⟩])
      exact ⟨v, _, _, Hm', fp', a, hF, st, e', b⟩
    cases o with
    | pur _ => exact h.elim
    | lst _ => exact main h (by unfold frz; rw [s])
    | dic _ => exact main h (by unfold frz; rw [s])
    | dit _ => exact main h (by unfold frz; rw [s])
    | obj _ _ => exact main h (by unfold frz; rw [s])
/-- a dict in the mask, in the heap: plain or locked -/
theorem dic_in {Hm H : Hp} {a : Addr} {xs : List (Key × V)} (l : Le Hm H) (r : Rd Hm a (.dK xs)) : (Hm a = some (.dK xs) ∧ H a = some (.dK xs)) ∨ ((∃ o, Hm a = some o) ∧ ∃ od, H a = some (.frz od (.dK xs))) := by
  rcases r with r | ⟨ob, r⟩
  · rcases l _ _ r with q | ⟨_, ob, q⟩
    · exact .inl ⟨r, q⟩
    · exact .inr ⟨⟨_, r⟩, ob, q⟩
  · rcases l _ _ r with q | ⟨q, _⟩
    · exact .inr ⟨⟨_, r⟩, ob, q⟩
    · cases q

/-- a comprehension's reading: into a new thing (o0 at first) -/
def TC (wi : TI) (g : TG) (tt : TT) (st : Addr → L2.St → Hp → (Hp → Prop) → Prop) (o0 : Addr → HO) (vs : List Nat) : TE := fun σ H Q => wi σ H fun J H1 => ∀ D, H1 D = none → ∃ W : Nat → Nat → Hp → Prop, (∃ m, W 0 m (upd H1 D (o0 D))) ∧ ∀ i m H, W i m H →
  (J.stop i H ∧ Q (.ref D) H) ∨ (J.go i H ∧ ∃ Nx : Hp → Prop, (∀ H', Nx H' → ∃ m', m' < m ∧ W (i + 1) m' H') ∧ ∀ x H', J.yld i H x H' → g x (wipe σ vs) H' fun σ2 H2 => wipe σ2 vs = wipe σ vs ∧ tt σ2 H2 fun b H3 => if b = true then st D σ2 H3 Nx else Nx H3)
section
variable {K : PySem.W.Frag} {Hm H : Hp} {σ : L2.St} {δ : Env} {fp : Fp} {α : Type} {t : T} {FB : W Bool} {vs : List Nat} {i : Nat} {k : Wk}
theorem compDict {rd : Addr → Hp → HO → α → Prop} {stp : Addr → L2.St → Hp → (Hp → Prop) → Prop} {sd : α → Env → (α → Env → Prop) → Prop} {a0 : α} {o0 : Addr → HO} {N : α → Env → Prop} {Q : VK} {xs : List (Key × V)} {ds : List (Key × D)} {a : Addr}
    (ok : ∀ q, IntoAt K q (rd q) stp sd) (r0 : ∀ q Hm, rd q Hm (o0 q) a0) (mono : ∀ {q Hm Hm' o a}, Same Hm Hm' → rd q Hm o a → rd q Hm' o a) (nd : vs.Nodup)
    (env : EnvOk K Hm H σ δ fp) (hv : σ[i]? = some (some (.ref a))) (ha : Rd Hm a (.dK xs)) (hx : DqP K Hm xs ds) (h : cL t FB sd vs (fun a δ2 => N a (rst vs δ δ2)) (wkD k ds) a0 (clr vs δ))
    (hQ : ∀ acc δ', N acc δ' → ∀ q o Hm' H' fp', H q = none → Step Hm H fp Hm' H' fp' → EnvOk K Hm' H' σ δ' fp' → Beside K q Hm' H' fp' o → rd q Hm' o acc → Q (.ref q) H') :
    tLockE (TC (wkI k (tVar i)) (tgD K (fun i => i ∉ vs) t) (tT K E0 FB) stp o0 vs) σ H Q ∨ TC (wkI k (tVar i)) (tgD K (fun i => i ∉ vs) t) (tT K E0 FB) stp o0 vs σ H Q := by
  rcases dic_in env.sub ha with ⟨hm, hH⟩ | ⟨hm, od, hH⟩
  · refine .inl ⟨a, .dK xs, hH, trivial, fun od => ?_⟩
    have e1 := env.lock (od := od) hH rfl ⟨_, hm⟩
    refine wk_src ⟨_, hv, a, od, xs, rfl, upd_same, fun q nq => ?_⟩ tVar_mono
    have z0 : Zh (some (a, .frz od (.dK xs))) Hm (upd H a (.frz od (.dK xs))) := fun d u e => by
      cases e
      exact ⟨upd_same, _, hm⟩
    refine compCore0 (Q := fun v H' => H' a = some (.frz od (.dK xs)) ∧ Q v (upd H' a (.dK xs))) (ok q) (r0 q) mono nd e1 h (itemsOk k hx) z0 nq fun acc δ' h o Hm' H' fp' s e' b r _ => ?_
    obtain ⟨s', at_⟩ := s.unlock hH (env.off_msk ⟨_, hm⟩)
    have qa : q ≠ a := fun z => by rw [z, upd_same] at nq; cases nq
    refine ⟨at_, hQ acc δ' h q o Hm' _ fp' (by rw [upd_ne qa] at nq; exact nq) s' (e'.unlock at_ rfl (s.mask _ _ hm)) ⟨by rw [upd_ne qa]; exact b.at_, b.msk, b.off⟩ r⟩
  · refine .inr (wk_src ⟨_, hv, a, od, xs, rfl, hH, fun q nq => ?_⟩ tVar_mono)
    have z0 : Zh (some (a, .frz od (.dK xs))) Hm H := fun d u e => by
      cases e
      exact ⟨hH, hm⟩
    exact compCore0 (ok q) (r0 q) mono nd env h (itemsOk k hx) z0 nq fun acc δ' h o Hm' H' fp' s e' b r _ => hQ acc δ' h q o Hm' H' fp' nq s e' b r
end
section
variable {X : Cx} {E : XK} {pn : Nat → Prop} {e : Expr} {st : Stmt} {t : T} {FB : W Bool} {F Fk Fv : W D} {vs : List Nat} {i : Nat} {k : Wk} {B : S} {cl : List Nat}
theorem m_lcD (h : PE X e (tLc (wkI k (tVar i)) (tgD X.K (fun i => i ∉ vs) t) (tT X.K E0 FB) (tE X.K E0 F) vs)) (h' : PE X e (tLockE (tLc (wkI k (tVar i)) (tgD X.K (fun i => i ∉ vs) t) (tT X.K E0 FB) (tE X.K E0 F) vs))) (nd : vs.Nodup) : PE X e (tE X.K E (lcW (itD k (vr i)) t FB F vs)) :=
  peI (peOr h' h) fun σ H Q ⟨Hm, δ, fp, P, R, env, hF, hP, hR⟩ => by
    obtain ⟨v, d, δ1, Hm1, fp1, hv, h1, s1, e1, dv⟩ := vr_at (R := R) (P := fun d δ1 => isDic d fun kvs => cL t FB (sL F) vs (fun a δ2 => P (.lst a) (rst vs δ1 δ2)) (wkD k kvs) [] (clr vs δ1)) env hF
    obtain ⟨a, xs, ds, rfl, rfl, ha, hx, h1⟩ := rd_dic dv h1
    exact compDict (rd := fun _ Hm o acc => ∃ xs, o = .lst xs ∧ DqL X.K Hm xs acc) (o0 := fun _ => .lst []) (a0 := []) (fun q => sL_ok q) (fun _ _ => ⟨[], rfl, .nil⟩) (fun s ⟨xs, e, h⟩ => ⟨xs, e, h.le (.of s)⟩) nd e1 hv ha hx h1
      fun acc δ' h q o Hm' H' fp' nq s e' b ⟨ys, eo, r⟩ => by
        subst eo
        exact hP _ δ' h _ _ _ _ (s1.trans (s.seal nq e1.sub _)) (e'.seal b) (.lst upd_same (r.le (.of (same_upd b.msk))))
theorem m_dcD (h : PE X e (tDc (wkI k (tVar i)) (tgD X.K (fun i => i ∉ vs) t) (tT X.K E0 FB) (tE X.K E0 Fk) (tE X.K E0 Fv) vs)) (h' : PE X e (tLockE (tDc (wkI k (tVar i)) (tgD X.K (fun i => i ∉ vs) t) (tT X.K E0 FB) (tE X.K E0 Fk) (tE X.K E0 Fv) vs))) (nd : vs.Nodup) : PE X e (tE X.K E (dcW (itD k (vr i)) t FB Fk Fv vs)) :=
  peI (peOr h' h) fun σ H Q ⟨Hm, δ, fp, P, R, env, hF, hP, hR⟩ => by
    obtain ⟨v, d, δ1, Hm1, fp1, hv, h1, s1, e1, dv⟩ := vr_at (R := R) (P := fun d δ1 => isDic d fun kvs => cL t FB (sD Fk Fv) vs (fun a δ2 => P (.dic a) (rst vs δ1 δ2)) (wkD k kvs) [] (clr vs δ1)) env hF
    obtain ⟨a, xs, ds, rfl, rfl, ha, hx, h1⟩ := rd_dic dv h1
    exact compDict (rd := fun _ Hm o acc => ∃ xs, o = .dK xs ∧ DqP X.K Hm xs acc) (o0 := fun _ => .dK []) (a0 := []) (fun q => sD_ok q) (fun _ _ => ⟨[], rfl, .nil⟩) (fun s ⟨xs, e, h⟩ => ⟨xs, e, h.le (.of s)⟩) nd e1 hv ha hx h1
      fun acc δ' h q o Hm' H' fp' nq s e' b ⟨ys, eo, r⟩ => by
        subst eo
        exact hP _ δ' h _ _ _ _ (s1.trans (s.seal nq e1.sub _)) (e'.seal b) (.dic (.inl upd_same) (r.le (.of (same_upd b.msk))))
/-- for .. in a dict at a slot -/
def forDS (F : W (List D)) (t : T) (B : S) (cl : List Nat) : S := fun δ P => F δ (fun ds δ1 => forL t B cl { P with er := noR } ds δ1) P.er
theorem s_forD (h : PS X st (tFor (wkI k (tVar i)) (tgD X.K pn t) (tS X.K E pn B))) (h' : PS X st (tLock (tFor (wkI k (tVar i)) (tgD X.K pn t) (tS X.K E pn B)))) : PS X st (tS X.K E pn (forDS (itD k (vr i)) t B cl)) :=
  psI (psOr h' h) fun D σ H ⟨Hm, δ, fp, P, env, hF, kk⟩ => by
    obtain ⟨v, d, δ1, Hm1, fp1, hv, h1, s1, e1, dv⟩ := vr_at (R := P.er) (P := fun d δ1 => isDic d fun kvs => forL t B cl { P with er := noR } (wkD k kvs) δ1) env hF
    obtain ⟨a, xs, ds, rfl, rfl, ha, hx, h1⟩ := rd_dic dv h1
    rcases dic_in e1.sub ha with ⟨hm, hH⟩ | ⟨hm, od, hH⟩
    · refine .inl ⟨a, .dK xs, hH, trivial, fun od => ?_⟩
      have e2 := e1.lock (od := od) hH rfl ⟨_, hm⟩
      have z0 : Zh (some (a, .frz od (.dK xs))) Hm1 (upd H a (.frz od (.dK xs))) := fun d u e => by
        cases e
        exact ⟨upd_same, _, hm⟩
      have off := e1.off_msk ⟨_, hm⟩
      have k1 := kk.go s1 (.refl ..)
      refine wk_src ⟨_, hv, a, od, xs, rfl, upd_same, forCore e2 h1 ⟨fun δ' h σ' Hm' H' fp' s e p => ?_, fun d δ' h v σ' Hm' H' fp' s e p dv => ?_, fun δ' h σ' Hm' H' fp' s e p => ?_, fun δ' h σ' Hm' H' fp' s e p => ?_, fun _ h => h.elim⟩ (itemsOk k hx) z0⟩ tVar_mono
      · obtain ⟨s', at_⟩ := s.unlock hH off
        exact ⟨at_, k1.nx δ' h σ' Hm' _ fp' s' (e.unlock at_ rfl (s.mask _ _ hm)) p⟩
      · obtain ⟨s', at_⟩ := s.unlock hH off
        exact ⟨at_, k1.rt d δ' h v σ' Hm' _ fp' s' (e.unlock at_ rfl (s.mask _ _ hm)) p dv⟩
      · obtain ⟨s', at_⟩ := s.unlock hH off
        exact ⟨at_, k1.bk δ' h σ' Hm' _ fp' s' (e.unlock at_ rfl (s.mask _ _ hm)) p⟩
      · obtain ⟨s', at_⟩ := s.unlock hH off
        exact ⟨at_, k1.ct δ' h σ' Hm' _ fp' s' (e.unlock at_ rfl (s.mask _ _ hm)) p⟩
    · have z0 : Zh (some (a, .frz od (.dK xs))) Hm1 H := fun d u e => by
        cases e
        exact ⟨hH, hm⟩
      have k1 := kk.go s1 (.refl ..)
      exact .inr (wk_src ⟨_, hv, a, od, xs, rfl, hH, forCore e1 h1 ⟨k1.nx, k1.rt, k1.bk, k1.ct, fun _ h => h.elim⟩ (itemsOk k hx) z0⟩ tVar_mono)
end
end DN
set_option Elab.async false
set_option linter.all false
set_option maxRecDepth 100000
set_option maxHeartbeats 4000000
namespace L2
open PySem PySem.Spec PyProof.Rows PpSet TKS
theorem perm_map_inv {α β : Type} {f : α → β} {l' t : List β} (h : l'.Perm t) : ∀ l : List α, t = l.map f → ∃ m : List α, m.Perm l ∧ m.map f = l' := by
  induction h with
  | nil =>
    intro l e
    cases l with
    | nil => exact ⟨[], .refl _, rfl⟩
    | cons a r => cases e
  | cons x _ ih =>
    intro l e
    cases l with
    | nil => cases e
    | cons a r =>
      rw [List.map_cons] at e
      injection e with e1 e2
      obtain ⟨m, p, q⟩ := ih r e2
      exact ⟨a :: m, p.cons a, by rw [List.map_cons, q, e1]⟩
  | swap x y l0 =>
    intro l e
    cases l with
    | nil => cases e
    | cons a r =>
      rw [List.map_cons] at e
      injection e with e1 e2
      cases r with
      | nil => cases e2
      | cons b r2 =>
        rw [List.map_cons] at e2
        injection e2 with e3 e4
        exact ⟨b :: a :: r2, .swap a b r2, by rw [List.map_cons, List.map_cons, ← e1, ← e3, ← e4]⟩
  | trans _ _ ih1 ih2 =>
    intro l e
    obtain ⟨m, p, q⟩ := ih2 l e
    obtain ⟨m2, p2, q2⟩ := ih1 m q.symm
    exact ⟨m2, p2.trans p, q2⟩
theorem inr_injT : ∀ {a b : List Str}, (a.map (Sum.inr : Str → Key)) = b.map Sum.inr → a = b
  | [], [], _ => rfl
  | [], _ :: _, e => by cases e
  | _ :: _, [], e => by cases e
  | x :: xs, y :: ys, e => by
    rw [List.map_cons, List.map_cons] at e
    injection e with e1 e2
    rw [Sum.inr.inj e1, inr_injT e2]
theorem tt_has {M : List (Addr × List Str)} {g : List Str} : g.map Sum.inr ∈ (keysOf M).map (·.2) ↔ g ∈ M.map (·.2) := by
  show g.map Sum.inr ∈ (M.map _).map _ ↔ _
  rw [List.map_map, List.mem_map, List.mem_map]
  constructor
  · rintro ⟨p, hp, e⟩
    exact ⟨p, hp, inr_injT e⟩
  · rintro ⟨p, hp, rfl⟩
    exact ⟨p, hp, rfl⟩
theorem tab_new {P : Program} {w : World} {h : Heap} {a : Addr} (e : h.get? a = some (newSetObj w)) : Tab0 P w h a [] :=
  ⟨#[], 0, _, ⟨_, e, ⟨rfl, rfl, rfl⟩, rfl⟩, rfl, ⟨List.Pairwise.nil, rfl, rfl, .inl rfl, fun x hx => absurd hx List.not_mem_nil, fun i g j e => by simp at e⟩, List.nodup_nil,
    (by
      show _ ∨ (!w.params.followText "set-order") = true
      cases w.params.followText "set-order"
      · exact .inr rfl
      · exact .inl rfl), (by show 0 * 5 < 7 * 3; decide), (by decide)⟩
section
variable {X : Cx}
/-- set(xs), xs a list of tuples of texts -/
def rSetTT (K : PySem.W.Frag) (P : Program) (w : World) : List V → Hp → VK → Prop := fun vs H Q => ∃ (l : Addr) (M : List (Addr × List Str)), vs = [V.ref l] ∧ SqL K H l (refsOf M) ∧ TxtTups K H M ∧ M.length ≤ 62 ∧
  ∀ (M' : List (Addr × List Str)) (p : Addr), (∀ e ∈ M', e ∈ M) → (∀ e ∈ M, e.2 ∈ M'.map (·.2)) → (M'.map (·.2)).Nodup → H p = none → Q (.ref p) (upd H p (TupSet P w p (keysOf M')))
theorem cr_setTT (hc : X.calm = true) (hu : X.A.units + 64 < cLine) : CallR X (.type "set") (rSetTT X.K X.prog X.w) := by
  intro pins s σ H vs us Q I r h
  obtain ⟨l, M, rfl, hs, hM, hx, q⟩ := h
  have hu3 : X.A.in1.in1.in1.units < cLine := Nat.lt_of_le_of_lt (by show X.A.units + 1 + 1 + 1 ≤ X.A.units + 64; omega) hu
  obtain ⟨its, rv, hl, _⟩ := I.list hs
  rw [Vals.ref1 r]
  have len : its.length = M.length := by rw [← rv.length]; exact List.length_map ..
  have at_ : ∀ (i : Nat) (v : Value), its.toArray[i]? = some v → ∃ e, M[i]? = some e ∧ v = .ref e.1 := fun i v e => by
    have e1 : its[i]? = some v := by simpa using e
    have lt : i < M.length := by
      rw [← len]
      exact (List.getElem?_eq_some_iff.mp e1).1
    obtain ⟨u, e2, ru⟩ := rv.get (x := V.ref M[i].1) (i := i) (by
      show (M.map _)[i]? = _
      rw [List.getElem?_map, List.getElem?_eq_getElem lt]
      rfl)
    rw [e1] at e2
    cases e2
    exact ⟨_, List.getElem?_eq_getElem lt, ru⟩
  have D : Adds X.prog X.w X.A.in1.in1 s.heap.objs.size its.toArray s.heap (fun i h => ∃ M', (∀ e ∈ M', e ∈ M) ∧ (∀ e ∈ M.take i, e.2 ∈ M'.map (·.2)) ∧ M'.length ≤ i ∧ Tab0 X.prog X.w h s.heap.objs.size (keysOf M')) := by
    refine ⟨fun i h h' ⟨M', a1, a2, a3, es, ep, t, ⟨o, e, x⟩, y⟩ k => ⟨M', a1, a2, a3, es, ep, t, ⟨o, k o e, x⟩, y⟩, fun i v s' E Q e kp ⟨M', a1, a2, a3, R0⟩ fin => ?_⟩
    obtain ⟨x, hx2, rfl⟩ := at_ i v e
    have hi : i < M.length := (List.getElem?_eq_some_iff.mp hx2).1
    have mx : x ∈ M := List.mem_of_getElem? hx2
    obtain ⟨es, ep, t, R⟩ := R0.full fun p hp => by
      obtain ⟨p0, hp0, rfl⟩ := List.mem_map.mp hp
      exact (I.isTx (hM p0 (a1 _ hp0)).1).keep fun o ho => kp _ o ho
    have hk := (I.isTx (hM x mx).1).keep fun o ho => kp _ o ho
    unfold setAdd
    have l1 : (keysOf M').length + 1 < 64 := by
      have e : (keysOf M').length = M'.length := List.length_map ..
      omega
    refine wpAny_holding (wpAny_bind (wpAny_pyHash_tuple hu3 hk ?_))
    refine add_ok (s := { s' with toks := s'.toks + ((x.2.map Sum.inr : List Key).length + 1) }) R hk hu3 l1 fun c h' L' es' ep' t' sb R' hin hout => ?_
    refine fin c h' _ (Nat.le_add_right _ _) sb ?_
    have e3 : M.take (i + 1) = M.take i ++ [x] := by
      rw [List.take_add_one, hx2]
      rfl
    by_cases c : x.2 ∈ M'.map (·.2)
    · have eL := hin (tt_has.mpr c)
      subst eL
      refine ⟨M', a1, fun e he => ?_, Nat.le_succ_of_le a3, tab_zero R'⟩
      rw [e3] at he
      rcases List.mem_append.mp he with he | he
      · exact a2 e he
      · rw [List.mem_singleton.mp he]
        exact c
    · have pL := hout fun z => c (tt_has.mp z)
      obtain ⟨M2, pm, e2⟩ := perm_map_inv (f := fun p : Addr × List Str => (p.1, p.2.map Sum.inr)) pL (x :: M') rfl
      have e2 : keysOf M2 = L' := e2
      subst e2
      refine ⟨M2, fun e he => ?_, fun e he => ?_, ?_, tab_zero R'⟩
      · rcases List.mem_cons.mp (pm.mem_iff.mp he) with z | z
        · rw [z]
          exact mx
        · exact a1 e z
      · rw [e3] at he
        have pm2 := pm.map (·.2)
        refine pm2.mem_iff.mpr ?_
        rcases List.mem_append.mp he with he | he
        · exact List.mem_cons_of_mem _ (a2 e he)
        · rw [List.mem_singleton.mp he]
          exact List.mem_cons_self
      · rw [pm.length_eq]
        exact Nat.succ_le_succ a3
  refine set_of_list (I.ok.hd hc) hl.isList D (fun h e => ?_) fun h' tk R kp => ?_
  · refine ⟨[], fun e he => absurd he List.not_mem_nil, fun e he => ?_, Nat.le_refl _, tab_new e⟩
    rw [List.take_zero] at he
    exact absurd he List.not_mem_nil
  obtain ⟨M', a1, a2, a3, R⟩ := R
  have ez : M.take its.toArray.size = M := List.take_of_length_le (by rw [List.size_toArray, len]; exact Nat.le_refl _)
  rw [ez] at a2
  have fresh : H s.heap.objs.size = none := I.hok.fresh (Nat.le_refl _)
  have nd : (M'.map (·.2)).Nodup := by
    obtain ⟨_, _, _, _, _, _, nd, _⟩ := id R
    have e : (keysOf M').map (·.2) = (M'.map (·.2)).map fun k : List Str => (k.map Sum.inr : List Key) := by
      show (M'.map _).map _ = _
      rw [List.map_map, List.map_map]
      rfl
    rw [e] at nd
    exact List.Pairwise.of_map (S := (· ≠ ·)) (fun k : List Str => (k.map Sum.inr : List Key)) (fun a b (ne : (a.map Sum.inr : List Key) ≠ b.map Sum.inr) e => ne (congrArg _ e)) nd
  exact ⟨.ref _, upd H s.heap.objs.size (TupSet X.prog X.w s.heap.objs.size (keysOf M')), I.laid (t' := tk) kp (Nat.le_refl _) (tset_ok R), rfl, q _ _ a1 a2 nd fresh⟩
end
end L2
set_option Elab.async false
set_option linter.all false
set_option maxRecDepth 100000
set_option maxHeartbeats 4000000
/-! Tuples of ints: their order, and sorting by it. -/
namespace TKI
open PySem PySem.Spec PyProof.Rows L2 TKS
/-- ints -/
def slt (x y : Int) : Bool := decide (x < y)
theorem slt_irr (x : Int) : slt x x = false := decide_eq_false (Int.lt_irrefl x)
theorem slt_tr {x y z : Int} (h1 : slt x y = true) (h2 : slt y z = true) : slt x z = true := decide_eq_true (Int.lt_trans (of_decide_eq_true h1) (of_decide_eq_true h2))
theorem slt_as {x y : Int} (h : slt x y = true) : slt y x = false := decide_eq_false (Int.not_lt.mpr (Int.le_of_lt (of_decide_eq_true h)))
theorem slt_tri {x y : Int} (h1 : slt x y = false) (h2 : slt y x = false) : x = y := by
  have a := of_decide_eq_false h1
  have b := of_decide_eq_false h2
  omega
/-- tuples of texts, item by item -/
def llt : List Int → List Int → Bool
  | [], [] => false
  | [], _ :: _ => true
  | _ :: _, [] => false
  | x :: xs, y :: ys => if x = y then llt xs ys else slt x y
theorem llt_irr : ∀ x : List Int, llt x x = false
  | [] => rfl
  | x :: xs => by
    show (if x = x then llt xs xs else slt x x) = false
    rw [if_pos rfl]
    exact llt_irr xs
theorem llt_cons {x y : Int} {xs ys : List Int} : llt (x :: xs) (y :: ys) = if x = y then llt xs ys else slt x y := rfl
theorem llt_as : ∀ {x y : List Int}, llt x y = true → llt y x = false
  | [], [], _ => rfl
  | [], _ :: _, _ => rfl
  | _ :: _, [], h => by cases h
  | x :: xs, y :: ys, h => by
    rw [llt_cons] at h ⊢
    by_cases e : x = y
    · rw [if_pos e] at h
      rw [if_pos e.symm]
      exact llt_as h
    · rw [if_neg e] at h
      rw [if_neg (Ne.symm e)]
      exact slt_as h
theorem llt_tri : ∀ {x y : List Int}, llt x y = false → llt y x = false → x = y
  | [], [], _, _ => rfl
  | [], _ :: _, h, _ => by cases h
  | _ :: _, [], _, h => by cases h
  | x :: xs, y :: ys, h1, h2 => by
    rw [llt_cons] at h1 h2
    by_cases e : x = y
    · rw [if_pos e] at h1
      rw [if_pos e.symm] at h2
      rw [e, llt_tri h1 h2]
    · rw [if_neg e] at h1
      rw [if_neg (Ne.symm e)] at h2
      exact absurd (slt_tri h1 h2) e
theorem llt_tr : ∀ {x y z : List Int}, llt x y = true → llt y z = true → llt x z = true
  | [], [], _, h, _ => by cases h
  | _ :: _, [], _, h, _ => by cases h
  | [], _ :: _, [], _, h => by cases h
  | [], _ :: _, _ :: _, _, _ => rfl
  | _ :: _, _ :: _, [], _, h => by cases h
  | x :: xs, y :: ys, z :: zs, h1, h2 => by
    rw [llt_cons] at h1 h2 ⊢
    by_cases e1 : x = y
    · rw [if_pos e1] at h1
      by_cases e2 : y = z
      · rw [if_pos e2] at h2
        rw [if_pos (e1.trans e2)]
        exact llt_tr h1 h2
      · rw [if_neg e2] at h2
        rw [if_neg (by rw [e1]; exact e2), e1]
        exact h2
    · rw [if_neg e1] at h1
      by_cases e2 : y = z
      · rw [if_pos e2] at h2
        rw [if_neg (by rw [← e2]; exact e1), ← e2]
        exact h1
      · rw [if_neg e2] at h2
        have h3 := slt_tr h1 h2
        rw [if_neg (fun e => by rw [e, slt_irr] at h3; cases h3)]
        exact h3
theorem swo_llt (k : Value → List Int) : SrtO.Swo fun v u => llt (k v) (k u) := by
  refine ⟨fun x y h => llt_as h, fun x y z h1 h2 => ?_⟩
  cases h : llt (k z) (k x) with
  | false => rfl
  | true =>
    cases g : llt (k x) (k y) with
    | true =>
      rw [llt_tr h g] at h2
      cases h2
    | false =>
      have e := llt_tri g h1
      rw [e, h2] at h
      cases h
/-- one sorted list alone -/
theorem sorted_uniq {α : Type} {k : α → List Int} : ∀ {l m : List α}, l.Perm m → l.Pairwise (fun x y => llt (k y) (k x) = false) → m.Pairwise (fun x y => llt (k y) (k x) = false) → l.map k = m.map k := by
  intro l m p h1 h2
  have e1 : (l.map k).Pairwise (fun x y => llt y x = false) := List.pairwise_map.mpr h1
  have e2 : (m.map k).Pairwise (fun x y => llt y x = false) := List.pairwise_map.mpr h2
  refine List.Perm.eq_of_pairwise (le := fun x y => llt y x = false) ?_ e1 e2 (p.map k)
  intro a b _ _ g1 g2
  exact llt_tri g2 g1
section
variable {P : Program} {w : World} {A : Around} {E : Value → Shared → Prop} {s : Shared}
theorem lex_txt {b fin : Bool} {Q : Bool → Shared → Prop} : ∀ {ks ls : List Int} {xs ys : List Value} (i : Nat), ItemsAre (mixKind P w) (ks.map Sum.inl) xs → ItemsAre (mixKind P w) (ls.map Sum.inl) ys → fin = decide (ks.length < ls.length) → Q (llt ks ls) s → PySem.W.KatLex P w A b fin Q (xs.zip ys) i s
  | [], [], _, _, _, .nil, .nil, hf, h => by
    rw [hf]
    exact h
  | [], _ :: _, _, _, _, .nil, .cons _ _, hf, h => by
    rw [hf, decide_eq_true (by rw [List.length_cons]; exact Nat.succ_pos _)]
    exact h
  | _ :: _, [], _, _, _, .cons _ _, .nil, hf, h => by
    rw [hf, decide_eq_false (by rw [List.length_nil]; exact Nat.not_lt_zero _)]
    exact h
  | k :: ks, l :: ls, _, _, i, .cons (v := v) (vs := vs) e1 r1, .cons (v := u) (vs := us) e2 r2, hf, h => by
    obtain ⟨t1, rfl⟩ : ∃ t, v = .int k t := by
      rcases keyIs_shape (show keyIs (.inl k) v = true from e1) with ⟨x, t, z, q⟩ | ⟨_, _, z, _⟩
      · cases z
        exact ⟨t, q⟩
      · cases z
    obtain ⟨t2, rfl⟩ : ∃ t, u = .int l t := by
      rcases keyIs_shape (show keyIs (.inl l) u = true from e2) with ⟨x, t, z, q⟩ | ⟨_, _, z, _⟩
      · cases z
        exact ⟨t, q⟩
      · cases z
    show PySem.W.KatLex P w A b fin Q ((.int k t1, .int l t2) :: vs.zip us) i s
    refine PySem.W.kat_cons (wpAny_eqBool_int ?_)
    refine PySem.W.kat_go (fun z => ?_) (fun z => ?_)
    · have ek : k = l := by simpa using z
      refine PySem.W.kat_yes (lex_txt (i + 1) r1 r2 ?_ ?_)
      · rw [hf, List.length_cons, List.length_cons]
        exact decide_eq_decide.mpr (Nat.succ_lt_succ_iff)
      · rw [llt_cons, if_pos ek] at h
        exact h
    · have ek : ¬ k = l := by simpa using z
      rw [llt_cons, if_neg ek] at h
      refine PySem.W.kat_no ?_
      cases (b && i == 0) with
      | true => exact oneLt_int h
      | false => exact PySem.W.kat_one _ _ (PyProof.Rows.lt_int (Q := PySem.W.BoolBack Q) h)
/-- a tuple of texts, not empty -/
def TxtAt (P : Program) (w : World) (h : Heap) (v : Value) (ks : List Int) : Prop := ∃ b, v = .ref b ∧ IsK P w h (ks.map Sum.inl) b ∧ ks ≠ []
theorem TxtAt.keep {h h' : Heap} {v : Value} {ks : List Int} (x : TxtAt P w h v ks) (kp : ∀ b o, h.get? b = some o → o.cls = .type "tuple" → h'.get? b = some o) : TxtAt P w h' v ks := by
  obtain ⟨b, e, ⟨o, its, n, e1, e2, r⟩, ne⟩ := x
  exact ⟨b, e, ⟨o, its, n, kp b o e1 e2, e2, r⟩, ne⟩
theorem txt_cmp {vs : List Value} {k : Value → List Int} {b : Bool} (hp : ∀ v ∈ vs, TxtAt P w s.heap v (k v)) : SrtO.Cmp P w A s (tuples' b) (fun p => p.1 ∈ vs) (SrtO.lt2 fun v u => llt (k v) (k u)) := by
  intro p q hm hm'
  show wpAny (model P w) A (keyLt' (tuples' b) p.1 q.1) (fun r s' => s' = s ∧ r = llt (k p.1) (k q.1)) (fun _ _ => False) s
  obtain ⟨b1, e1, ⟨o1, i1, n1, ho1, hc1, hd1, r1⟩, _⟩ := hp _ hm
  obtain ⟨b2, e2, ⟨o2, i2, n2, ho2, hc2, hd2, r2⟩, _⟩ := hp _ hm'
  generalize k p.1 = x at r1 ⊢
  generalize k q.1 = y at r2 ⊢
  rw [e1, e2]
  refine PySem.W.kat_lt ho1 hd1 ho2 hd2 (lex_txt 0 r1 r2 ?_ ⟨rfl, rfl⟩)
  have z1 : x.length = i1.size := by simpa using r1.length
  have z2 : y.length = i2.size := by simpa using r2.length
  rw [z1, z2]
theorem txt_firsts {k : Value → List Int} : ∀ {vs : List Value}, (∀ v ∈ vs, TxtAt P w s.heap v (k v)) → ∃ fs, PySem.W.KatTups s.heap vs fs ∧ fs.length = vs.length ∧ ∀ f ∈ fs, ∃ x t, f = Value.int x t
  | [], _ => ⟨[], .nil, rfl, fun f hf => absurd hf List.not_mem_nil⟩
  | v :: vs, h => by
    obtain ⟨fs, h1, h2, h3⟩ := txt_firsts (vs := vs) fun u hu => h u (List.mem_cons_of_mem _ hu)
    obtain ⟨b, rfl, ⟨o, its, n, ho, hc, hd, r⟩, ne⟩ := h v List.mem_cons_self
    generalize k (.ref b) = ks at r ne
    cases ks with
    | nil => exact absurd rfl ne
    | cons x xs =>
      cases hl : its.toList with
      | nil =>
        rw [hl] at r
        cases r
      | cons f r0 =>
        rw [hl] at r
        cases r with
        | cons e r1 =>
          obtain ⟨t1, rfl⟩ : ∃ t, f = .int x t := by
            rcases keyIs_shape (show keyIs (.inl x) f = true from e) with ⟨x', t, z, q⟩ | ⟨_, _, z, _⟩
            · cases z
              exact ⟨t, q⟩
            · cases z
          refine ⟨.int x t1 :: fs, .cons ho hc hd (by rw [← Array.getElem?_toList, hl]; rfl) h1, congrArg Nat.succ h2, fun g hg => ?_⟩
          rcases List.mem_cons.mp hg with z | z
          · exact ⟨x, t1, z⟩
          · exact h3 g z
theorem txt_sortable {a : Addr} {vs : List Value} {k : Value → List Int} (h0 : 0 < vs.length) (hp : ∀ v ∈ vs, TxtAt P w s.heap v (k v)) (ha : ∀ o, s.heap.get? a = some o → o.cls ≠ .type "tuple") : SrtO.SortableO P w A s a vs fun v u => llt (k v) (k u) := by
  intro h' keep
  have hp' : ∀ v ∈ vs, TxtAt P w h' v (k v) := fun v hm => (hp v hm).keep fun b o e c => keep b o (fun z => by subst z; exact ha o e c) e
  obtain ⟨fs, h1, h2, h3⟩ := txt_firsts (s := { s with heap := h' }) hp'
  refine ⟨tuples' true, fun Q E hq => ?_, txt_cmp hp'⟩
  refine PySem.W.kat_kind (T := .type "int") h1 (by omega) (fun f hm => ?_) (by rfl) ?_
  · obtain ⟨x, t, rfl⟩ := h3 f hm
    exact PySem.W.Looks.now
  · have e : (Value.type "int" != Value.type "tuple") = true := by first | decide +kernel | rfl | decide
    rw [e]
    exact hq
end
end TKI
set_option Elab.async false
set_option linter.all false
set_option maxRecDepth 100000
set_option maxHeartbeats 4000000
namespace L2
namespace NI
open PySem PySem.Spec PyProof.Rows PpSet TKI
open TKS hiding slt slt_irr slt_tr slt_as slt_tri llt llt_irr llt_cons llt_as llt_tri llt_tr swo_llt sorted_uniq lex_txt TxtAt txt_cmp txt_firsts txt_sortable
/-- tuples by their places: each a tuple of texts, not empty -/
def TxtTups (K : PySem.W.Frag) (H : Hp) (M : List (Addr × List Int)) : Prop := ∀ p ∈ M, SqT K H p.1 (p.2.map V.int) ∧ p.2 ≠ []
abbrev refsOf (M : List (Addr × List Int)) : List V := M.map fun p => V.ref p.1
abbrev keysOf (M : List (Addr × List Int)) : List (Addr × List Key) := M.map fun p => (p.1, p.2.map Sum.inl)
def SortedT (M : List (Addr × List Int)) : Prop := M.Pairwise fun x y => llt y.2 x.2 = false
def adr : Value → Addr
  | .ref a => a
  | _ => 0
/-- the texts of the tuple that a value names -/
def keyFn (M : List (Addr × List Int)) (v : Value) : List Int := ((M.find? fun p => decide (p.1 = adr v)).map (·.2)).getD []
theorem map_kv (ks : List Int) : (ks.map (Sum.inl : Int → Key)).map kV = ks.map V.int := by
  rw [List.map_map]
  rfl
theorem refs_vals : ∀ {M : List (Addr × List Int)} {us : List Value}, Vals (refsOf M) us → us = M.map fun p => Value.ref p.1
  | [], _, .nil => rfl
  | p :: M, _, .cons r t => by
    rw [List.map_cons, ← refs_vals t]
    exact congrArg (· :: _) r
theorem valsRefsT : ∀ M : List (Addr × List Int), Vals (refsOf M) (M.map fun p => Value.ref p.1)
  | [] => .nil
  | p :: M => .cons rfl (valsRefsT M)
section
variable {X : Cx} {pins : List (Addr × Obj)} {σ : St} {H : Hp} {s : Shared} {M : List (Addr × List Int)}
theorem isTx (I : Inv X pins σ H s) {b : Addr} {ks : List Int} (h : SqT X.K H b (ks.map V.int)) : IsK X.prog X.w s.heap (ks.map Sum.inl) b := I.isK (by rw [map_kv]; exact h)
theorem key_at (I : Inv X pins σ H s) (hM : TxtTups X.K H M) {p : Addr × List Int} (hp : p ∈ M) : keyFn M (.ref p.1) = p.2 := by
  unfold keyFn
  cases e : M.find? fun q => decide (q.1 = adr (.ref p.1)) with
  | none =>
    have z := List.find?_eq_none.mp e p hp
    exact absurd (decide_eq_true rfl) z
  | some q =>
    have hq := List.mem_of_find?_eq_some e
    have ea : q.1 = p.1 := of_decide_eq_true (List.find?_some (p := fun q : Addr × List Int => decide (q.1 = adr (.ref p.1))) e)
    have h1 := isTx I (hM q hq).1
    rw [ea] at h1
    have h2 := isTx I (hM p hp).1
    have z := h1.inj h2
    show q.2 = p.2
    exact (List.map_inj_right (f := (Sum.inl : Int → Key)) fun _ _ e => Sum.inl.inj e).mp z
theorem key_tup (I : Inv X pins σ H s) (hM : TxtTups X.K H M) {v : Value} (hv : v ∈ M.map fun p => Value.ref p.1) : TxtAt X.prog X.w s.heap v (keyFn M v) := by
  obtain ⟨p, hp, rfl⟩ := List.mem_map.mp hv
  rw [key_at I hM hp]
  exact ⟨p.1, rfl, isTx I (hM p hp).1, (hM p hp).2⟩
/-- what a sort puts out, as tuples by their places -/
theorem outs_of (I : Inv X pins σ H s) (hM : TxtTups X.K H M) {out : List Value} (pm : out.Perm (M.map fun p => Value.ref p.1)) (sr : SrtO.Srtd (fun v u => llt (keyFn M v) (keyFn M u)) out) :
    ∃ M' : List (Addr × List Int), M'.Perm M ∧ SortedT M' ∧ out = M'.map fun p => Value.ref p.1 := by
  refine ⟨out.map fun v => (adr v, keyFn M v), ?_, ?_, ?_⟩
  · have z := pm.map fun v => (adr v, keyFn M v)
    rw [List.map_map] at z
    have e : M.map ((fun v => (adr v, keyFn M v)) ∘ fun p => Value.ref p.1) = M := by
      refine (List.map_congr_left (g := id) fun p hp => ?_).trans (List.map_id M)
      show (adr (.ref p.1), keyFn M (.ref p.1)) = p
      rw [key_at I hM hp]
      rfl
    rw [e] at z
    exact z
  · exact List.pairwise_map.mpr sr
  · rw [List.map_map]
    refine ((List.map_congr_left (g := id) fun v hv => ?_).trans (List.map_id out)).symm
    obtain ⟨p, hp, rfl⟩ := List.mem_map.mp (pm.mem_iff.mp hv)
    rfl
end
section
variable {X : Cx}
/-- sorted(xs), xs a list of tuples of texts -/
def rSortTL (K : PySem.W.Frag) : List V → Hp → VK → Prop := fun vs H Q => ∃ (a : Addr) (M : List (Addr × List Int)), vs = [V.ref a] ∧ SqL K H a (refsOf M) ∧ TxtTups K H M ∧ ∀ (M' : List (Addr × List Int)) (p : Addr), M'.Perm M → SortedT M' → H p = none → Q (.ref p) (upd H p (.lst (refsOf M')))
theorem cr_sortTL : CallR X (.builtin "sorted") (rSortTL X.K) := by
  intro pins s σ H vs us Q I r h
  obtain ⟨a, M, rfl, hs, hM, q⟩ := h
  obtain ⟨its, rv, hl, hz⟩ := I.list hs
  rw [Vals.ref1 r]
  have ei := refs_vals rv
  have len : its.length = M.length := by rw [ei, List.length_map]
  rw [List.length_map] at hz
  refine SrtO.sorted_ord (swo_llt (keyFn M)) hl.isList (by rw [len]; exact hz) (fun h2 h₁ b e kp => ?_) fun out sr st => ?_
  · refine txt_sortable (by omega) (fun v hv => ?_) fun o ho => ?_
    · rw [ei] at hv
      exact (key_tup I hM hv).keep fun c o ho _ => (kp c o ho).2
    · have z : some o = some (seqObj "list" its.toArray 0) := ho.symm.trans e
      cases z
      exact fun z => absurd (show Value.type "list" = Value.type "tuple" from z) (by decide)
  · have pm := st.perm
    rw [ei] at pm
    obtain ⟨M', g1, g2, g3⟩ := outs_of I hM pm sr
    obtain ⟨ep, he⟩ := sortedAll_at s.heap its out.toArray
    refine ⟨.ref _, upd H (s.heap.objs.size + 1) (.lst (refsOf M')), I.laid (t' := s.toks) (fun _ _ => sortedAll_old) (Nat.le_succ _) ⟨by rw [List.length_map, g1.length_eq]; exact hz, out, ep, by rw [g3]; exact valsRefsT M', he⟩, rfl, q M' _ g1 g2 (I.hok.fresh (Nat.le_succ _))⟩
/-- sorted(xs), xs a set of tuples of texts -/
def rSortTS (K : PySem.W.Frag) (P : Program) (w : World) : List V → Hp → VK → Prop := fun vs H Q => ∃ (a : Addr) (M : List (Addr × List Int)), vs = [V.ref a] ∧ H a = some (TupSet P w a (keysOf M)) ∧ TxtTups K H M ∧ ∀ (M' : List (Addr × List Int)) (p : Addr), M'.Perm M → SortedT M' → H p = none → Q (.ref p) (upd H p (.lst (refsOf M')))
theorem cr_sortTS (hc : X.calm = true) : CallR X (.builtin "sorted") (rSortTS X.K X.prog X.w) := by
  intro pins s σ H vs us Q I r h
  obtain ⟨a, M, rfl, ha, hM, q⟩ := h
  rw [Vals.ref1 r]
  obtain ⟨es, ep, t, R⟩ := (I.tset ha).full fun p hp => by
    obtain ⟨p0, hp0, rfl⟩ := List.mem_map.mp hp
    exact isTx I (hM p0 hp0).1
  obtain ⟨o, ho, hex, hd⟩ := R.ob
  have hz := size_of R.rows
  have few := R.few
  rw [List.length_map] at hz few
  have er : es.toList.map (·.2) = M.map fun p => Value.ref p.1 := by
    rw [R.rows]
    unfold rowsK
    rw [List.map_map, List.map_map]
    rfl
  have hh : X.A.in1.handled = none := I.ok.hd hc
  refine Calls.call_function_entry kind_sorted plain_sorted entry_sorted (args_sorted1 _) ?_
  unfold Builtin.«sorted»
  refine wpAny_bind (m := checkCount "sorted" 1 1 _) (wpAny_pure ?_)
  refine wpAny_bind (collect_set (A := X.A.in1) hh ⟨o, ho, hex.1, hd⟩ R.fit (by unfold scanBound; omega) R.tab.ris R.led fun s1 vs k1 z1 g1 o1 pm => ?_)
  rw [er] at pm
  have lv : vs.length = M.length := by rw [pm.length_eq, List.length_map]
  refine wpAny_bind (wpAny_newList ?_ (by rw [sizeLine_eq]; omega))
  have hoL : (s1.heap.push (seqObj "list" vs.toArray 0)).get? s1.heap.objs.size = some (seqObj "list" vs.toArray 0) := Heap.get?_push_size _ rfl
  have kp : ∀ b u, s.heap.get? b = some u → (s1.heap.push (seqObj "list" vs.toArray 0)).get? b = some u := fun b u e => Heap.get?_push_of_some _ (k1 b u e)
  refine wpAny_bind (wpAny_holding (wpAny_call_entry slot_list_sort ⟨_, hoL, rfl⟩ entry_list_sort (SrtO.list_sort_ord (s := { s1 with heap := s1.heap.push (seqObj "list" vs.toArray 0) }) (swo_llt (keyFn M)) hoL (by rw [sizeLine_eq]; omega) (fun h2 => ?_) fun out sr st => ⟨_, rfl, ?_⟩) (args_list_sort _)))
  · refine txt_sortable (by omega) (fun v hv => (key_tup I hM (pm.mem_iff.mp hv)).keep fun c o ho _ => kp c o ho) fun o ho => ?_
    have z : some o = some (seqObj "list" vs.toArray 0) := ho.symm.trans hoL
    cases z
    exact fun z => absurd (show Value.type "list" = Value.type "tuple" from z) (by decide)
  · obtain ⟨c, hcc⟩ := sortedHeap_at (vs := vs) (out := out.toArray) hoL
    obtain ⟨M', m1, m2, m3⟩ := outs_of I hM (st.perm.trans pm) sr
    refine wpAny_pure ⟨_, rfl, ?_⟩
    have fresh : H s1.heap.objs.size = none := I.hok.fresh z1
    have old : ∀ b u, s.heap.get? b = some u → (sortedHeap (s1.heap.push (seqObj "list" vs.toArray 0)) s1.heap.objs.size vs out.toArray).get? b = some u := fun b u e => by
      have lt := Heap.lt_size (k1 b u e)
      rw [sortedHeap_old (Nat.ne_of_lt lt) (by rw [size_push']; exact Nat.lt_succ_of_lt lt)]
      exact kp b u e
    have J : Inv X pins σ (upd H s1.heap.objs.size (.lst (refsOf M'))) ⟨sortedHeap (s1.heap.push (seqObj "list" vs.toArray 0)) s1.heap.objs.size vs out.toArray, s1.gens, s1.drawn, s1.toks, s1.os⟩ := by
      refine I.call' (ch := []) o1 (Un.laid old z1 fresh) (I.hok.laid old z1 ⟨by rw [List.length_map, m1.length_eq, sizeLine_eq]; omega, out, c, by rw [m3]; exact valsRefsT M', hcc⟩) ?_ fun _ z => nomatch z
      rw [g1]
      exact I.bare
    exact ⟨.ref _, _, J, rfl, q M' _ m1 m2 fresh⟩
end
end NI
end L2
set_option Elab.async false
set_option linter.all false
set_option maxRecDepth 100000
set_option maxHeartbeats 4000000
/-! sorted, sets, dict(..), owned sums of lists -/
namespace DN
open PySem PySem.Spec PyProof.Rows L2 TKS
section
variable {K : PySem.W.Frag} {Hm H : Hp}
def tupD (z : List Str) : D := .tup (z.map .str)
def tupI (z : List Int) : D := .tup (z.map .int)
def toTT : List D → (List (List Str) → Prop) → Prop
  | [], P => P []
  | .tup b :: r, P => toSs b fun z => toTT r fun zs => P (z :: zs)
  | _ :: _, _ => False
def toTI : List D → (List (List Int) → Prop) → Prop
  | [], P => P []
  | .tup b :: r, P => toIs b fun z => toTI r fun zs => P (z :: zs)
  | _ :: _, _ => False
theorem of_TT : ∀ {ds : List D} {P : List (List Str) → Prop}, toTT ds P → ∃ zs : List (List Str), ds = zs.map tupD ∧ P zs
  | [], _, h => ⟨[], rfl, h⟩
  | .tup b :: r, _, h => by
    obtain ⟨z, e, h⟩ := of_Ss h
    obtain ⟨zs, e2, h⟩ := of_TT (ds := r) h
    exact ⟨z :: zs, by rw [e, e2]; rfl, h⟩
theorem of_TI : ∀ {ds : List D} {P : List (List Int) → Prop}, toTI ds P → ∃ zs : List (List Int), ds = zs.map tupI ∧ P zs
  | [], _, h => ⟨[], rfl, h⟩
  | .tup b :: r, _, h => by
    obtain ⟨z, e, h⟩ := of_Is h
    obtain ⟨zs, e2, h⟩ := of_TI (ds := r) h
    exact ⟨z :: zs, by rw [e, e2]; rfl, h⟩
theorem to_TT (zs : List (List Str)) (P : List (List Str) → Prop) (h : P zs) : toTT (zs.map tupD) P := by
  induction zs generalizing P with
  | nil => exact h
  | cons z r ih => exact to_Ss z _ (ih _ h)
theorem to_TI (zs : List (List Int)) (P : List (List Int) → Prop) (h : P zs) : toTI (zs.map tupI) P := by
  induction zs generalizing P with
  | nil => exact h
  | cons z r ih => exact to_Is z _ (ih _ h)
theorem dq_TT : ∀ {zs : List (List Str)} {xs : List V}, DqL K Hm xs (zs.map tupD) → ∃ M : List (Addr × List Str), xs = L2.refsOf M ∧ M.map (·.2) = zs ∧ ∀ p ∈ M, SqT K Hm p.1 (p.2.map V.str)
  | [], _, .nil => ⟨[], rfl, rfl, nofun⟩
  | z :: r, _, .cons (.tup (a := a) h hs) t => by
    obtain ⟨M, e1, e2, e3⟩ := dq_TT t
    rw [hs.of_strs] at h
    refine ⟨(a, z) :: M, by rw [e1]; rfl, by rw [List.map_cons, e2], fun p hp => ?_⟩
    rcases List.mem_cons.mp hp with rfl | hp
    · exact h
    · exact e3 p hp
theorem TT_dq : ∀ {M : List (Addr × List Str)}, (∀ p ∈ M, SqT K Hm p.1 (p.2.map V.str)) → DqL K Hm (L2.refsOf M) ((M.map (·.2)).map tupD)
  | [], _ => .nil
  | p :: r, h => .cons (.tup (h p List.mem_cons_self) (.strs _)) (TT_dq fun q hq => h q (List.mem_cons_of_mem _ hq))
theorem dq_TI : ∀ {zs : List (List Int)} {xs : List V}, DqL K Hm xs (zs.map tupI) → ∃ M : List (Addr × List Int), xs = L2.NI.refsOf M ∧ M.map (·.2) = zs ∧ ∀ p ∈ M, SqT K Hm p.1 (p.2.map V.int)
  | [], _, .nil => ⟨[], rfl, rfl, nofun⟩
  | z :: r, _, .cons (.tup (a := a) h hs) t => by
    obtain ⟨M, e1, e2, e3⟩ := dq_TI t
    rw [hs.of_ints] at h
    refine ⟨(a, z) :: M, by rw [e1]; rfl, by rw [List.map_cons, e2], fun p hp => ?_⟩
    rcases List.mem_cons.mp hp with rfl | hp
    · exact h
    · exact e3 p hp
theorem TI_dq : ∀ {M : List (Addr × List Int)}, (∀ p ∈ M, SqT K Hm p.1 (p.2.map V.int)) → DqL K Hm (L2.NI.refsOf M) ((M.map (·.2)).map tupI)
  | [], _ => .nil
  | p :: r, h => .cons (.tup (h p List.mem_cons_self) (.ints _)) (TI_dq fun q hq => h q (List.mem_cons_of_mem _ hq))
/-- the texts in order -/
def gSortS : GN := one fun x P => isL x fun ds => toSs ds fun zs => zs.length < 64 ∧ ∀ ys : List Str, ys.Perm zs → sortedS ys = true → P (.lst (ys.map D.str))
theorem p_sortS : PrimN K (rSortedS K) gSortS := fun Hm H vs ds P Q l hv g k => by
  obtain ⟨x, rfl, g⟩ := of_one g
  obtain ⟨v, rfl, hx⟩ := hv.one
  obtain ⟨a, xs, ds, rfl, rfl, hs, hd, g⟩ := rd_L hx g
  obtain ⟨zs, rfl, g1, g2⟩ := of_Ss g
  rw [hd.of_strs] at hs
  exact ⟨a, zs, rfl, .of (l.lst hs), g1, fun ys p pm st np => k _ _ _ _ (g2 ys pm st) (.one l np) (.lst upd_same (.strs _))⟩
def gSortI : GN := one fun x P => isL x fun ds => toIs ds fun zs => ∀ ys : List Int, ys.Perm zs → ys.Pairwise (· ≤ ·) → P (.lst (ys.map D.int))
theorem p_sortI : PrimN K (rSortedI K) gSortI := fun Hm H vs ds P Q l hv g k => by
  obtain ⟨x, rfl, g⟩ := of_one g
  obtain ⟨v, rfl, hx⟩ := hv.one
  obtain ⟨a, xs, ds, rfl, rfl, hs, hd, g⟩ := rd_L hx g
  obtain ⟨zs, rfl, g2⟩ := of_Is g
  rw [hd.of_ints] at hs
  exact ⟨a, zs, rfl, .of (l.lst hs), fun ys p pm st np => k _ _ _ _ (g2 ys pm st) (.one l np) (.lst upd_same (.ints _))⟩
/-- tuples of texts in order -/
def srtT (ys : List (List Str)) : Prop := ys.Pairwise fun x y => TKS.llt y x = false
def srtI (ys : List (List Int)) : Prop := ys.Pairwise fun x y => TKI.llt y x = false
def gSortTT : GN := one fun x P => isL x fun ds => toTT ds fun zs => (∀ z ∈ zs, z ≠ []) ∧ ∀ ys : List (List Str), ys.Perm zs → srtT ys → P (.lst (ys.map tupD))
theorem perm_snd {α β : Type} {M' M : List (α × β)} (h : M'.Perm M) : (M'.map (·.2)).Perm (M.map (·.2)) := h.map _
theorem p_sortTT : PrimN K (L2.rSortTL K) gSortTT := fun Hm H vs ds P Q l hv g k => by
  obtain ⟨x, rfl, g⟩ := of_one g
  obtain ⟨v, rfl, hx⟩ := hv.one
  obtain ⟨a, xs, ds, rfl, rfl, hs, hd, g⟩ := rd_L hx g
  obtain ⟨zs, rfl, g1, g2⟩ := of_TT g
  obtain ⟨M, rfl, rfl, hM⟩ := dq_TT hd
  refine ⟨a, M, rfl, .of (l.lst hs), fun p hp => ⟨l.seqT (hM p hp), g1 _ (List.mem_map_of_mem hp)⟩, fun M' p pm st np => k _ _ _ _ (g2 (M'.map (·.2)) (perm_snd pm) (List.pairwise_map.mpr (show M'.Pairwise (fun x y => TKS.llt y.2 x.2 = false) from st))) (.one l np) (.lst upd_same ?_)⟩
  exact (TT_dq fun q hq => hM q (pm.mem_iff.mp hq)).le (.of (same_upd (none_of_le l np)))
def gSortTI : GN := one fun x P => isL x fun ds => toTI ds fun zs => (∀ z ∈ zs, z ≠ []) ∧ ∀ ys : List (List Int), ys.Perm zs → srtI ys → P (.lst (ys.map tupI))
theorem p_sortTI : PrimN K (L2.NI.rSortTL K) gSortTI := fun Hm H vs ds P Q l hv g k => by
  obtain ⟨x, rfl, g⟩ := of_one g
  obtain ⟨v, rfl, hx⟩ := hv.one
  obtain ⟨a, xs, ds, rfl, rfl, hs, hd, g⟩ := rd_L hx g
  obtain ⟨zs, rfl, g1, g2⟩ := of_TI g
  obtain ⟨M, rfl, rfl, hM⟩ := dq_TI hd
  refine ⟨a, M, rfl, .of (l.lst hs), fun p hp => ⟨l.seqT (hM p hp), g1 _ (List.mem_map_of_mem hp)⟩, fun M' p pm st np => k _ _ _ _ (g2 (M'.map (·.2)) (perm_snd pm) (List.pairwise_map.mpr (show M'.Pairwise (fun x y => TKI.llt y.2 x.2 = false) from st))) (.one l np) (.lst upd_same ?_)⟩
  exact (TI_dq fun q hq => hM q (pm.mem_iff.mp hq)).le (.of (same_upd (none_of_le l np)))
/-- sorted(set(xs)), xs a list of texts -/
def gSetS : GN := one fun x P => isL x fun ds => toSs ds fun zs => zs.length ≤ 1000 ∧ ∀ ys : List Str, ys.Nodup → (∀ y, y ∈ ys ↔ y ∈ zs) → sortedS ys = true → P (.lst (ys.map D.str))
/-- sorted(d), d a dict by texts -/
def gSortD : GN := one fun x P => isDic x fun kvs => ∃ ks : List Str, kvs.map (·.1) = ks.map Sum.inr ∧ ks.length < 64 ∧ ∀ ys : List Str, ys.Perm ks → sortedS ys = true → P (.lst (ys.map D.str))
theorem p_sortD : PrimN K (fun xs H Q => ∃ (a : Addr) (kvs : List (Key × V)) (ks : List Str), xs = [.ref a] ∧ Rd H a (.dK kvs) ∧ kvs.map (·.1) = ks.map Sum.inr ∧ ks.length < 64 ∧ ∀ ys p, ys.Perm ks → sortedS ys = true → H p = none → Q (.ref p) (upd H p (.lst (ys.map V.str)))) gSortD := fun Hm H vs ds P Q l hv g k => by
  obtain ⟨x, rfl, g⟩ := of_one g
  obtain ⟨v, rfl, hx⟩ := hv.one
  obtain ⟨a, xs, ds, rfl, rfl, hs, hd, ks, g1, g2, g3⟩ := rd_dic hx g
  exact ⟨a, xs, ks, rfl, l.rdD rfl hs, by rw [hd.keys, g1], g2, fun ys p pm st np => k _ _ _ _ (g3 ys pm st) (.one l np) (.lst upd_same (.strs _))⟩
/-- dict(xs), xs a list of pairs -/
def toPs : List D → (List (Key × D) → Prop) → Prop
  | [], P => P []
  | .tup [x, y] :: r, P => keyD x fun k => toPs r fun kvs => P ((k, y) :: kvs)
  | _ :: _, _ => False
theorem of_Ps : ∀ {ds : List D} {xs : List V} {P : List (Key × D) → Prop}, DqL K Hm xs ds → toPs ds P → ∃ (ps : List Addr) (vs : List (Key × V)) (kvs : List (Key × D)), xs = ps.map V.ref ∧ Paired (fun p kv => SqT K Hm p [kV kv.1, kv.2]) ps vs ∧ DqP K Hm vs kvs ∧ P kvs := fun {ds} => by
  induction ds with
  | nil =>
    intro xs P d h
    cases d
    exact ⟨[], [], [], rfl, .nil, .nil, h⟩
  | cons z r ih =>
    intro xs P d h
    match z, d, h with
    | .tup [x, y], .cons (.tup (a := a) (xs := ws) ht hw) t, h =>
      obtain ⟨u1, u2, rfl, dx, dy⟩ := hw.two
      obtain ⟨k, rfl, h⟩ := of_key dx h
      obtain ⟨ps, vs, kvs, e, p, q, h⟩ := ih t h
      exact ⟨a :: ps, (k, u2) :: vs, (k, y) :: kvs, by rw [e]; rfl, .cons ht p, .cons dy q, h⟩
def mgD (acc more : List (Key × D)) : List (Key × D) := more.foldl (fun acc kv => pD acc kv.1 kv.2) acc
theorem mg_dq (more : List (Key × V)) : ∀ (md : List (Key × D)) (acc : List (Key × V)) (ad : List (Key × D)), DqP K Hm more md → DqP K Hm acc ad → DqP K Hm (mergeK acc more) (mgD ad md) := by
  induction more with
  | nil =>
    intro md acc ad h g
    cases h
    exact g
  | cons kv r ih =>
    intro md acc ad h g
    cases h with
    | cons a b =>
      rename_i v d k ds
      exact ih ds (putK acc k v) (pD ad k d) b (DqP.putD k a g)
def gDict : GN := one fun x P => isL x fun ds => toPs ds fun kvs => P (.dic (mgD [] kvs))
theorem p_dictP : PrimN K (fun xs H Q => ∃ (a : Addr) (ps : List Addr) (kvs : List (Key × V)), xs = [.ref a] ∧ SqL K H a (ps.map V.ref) ∧ Paired (fun p kv => SqT K H p [kV kv.1, kv.2]) ps kvs ∧ ∀ p, H p = none → Q (.ref p) (upd H p (.dK (mergeK [] kvs)))) gDict := fun Hm H vs ds P Q l hv g k => by
  obtain ⟨x, rfl, g⟩ := of_one g
  obtain ⟨v, rfl, hx⟩ := hv.one
  obtain ⟨a, xs, ds, rfl, rfl, hs, hd, g⟩ := rd_L hx g
  obtain ⟨ps, us, kvs, rfl, pr, dq, g⟩ := of_Ps hd g
  refine ⟨a, ps, us, rfl, .of (l.lst hs), L2.Paired.mapP pr fun _ _ h => l.seqT h, fun p np => k _ _ _ _ g (.one l np) (.dic (.inl upd_same) (mg_dq _ _ _ _ (dq.le (.of (same_upd (none_of_le l np)))) .nil))⟩
/-- (..) * n -/
def gRepT : G2 := fun x y P => isT x fun a => isI y fun n => a ≠ [] ∧ 2 ≤ n ∧ n ≤ 1000 ∧ a.length ≤ 1000 ∧ P (.tup (repL a n.toNat))
theorem p_repT : Prim2 K (rRepT K) gRepT := fun Hm H u w x y P Q l hx hy g k => by
  obtain ⟨a, xs, ds, rfl, rfl, hs, hd, g⟩ := rd_T hx g
  obtain ⟨n, rfl, rfl, g1, g2, g3, g4, g⟩ := rd_I hy g
  exact ⟨a, n, xs, rfl, rfl, l.seqT hs, fun z => g1 (by cases hd with | nil => rfl | cons _ _ => cases z), g2, g3, by rw [hd.len]; exact g4, fun p np => k _ _ _ _ g (.one l np) (.tup (.of upd_same) ((hd.repL n.toNat).le (.of (same_upd (none_of_le l np)))))⟩
end
end DN
set_option Elab.async false
set_option linter.all false
set_option maxRecDepth 100000
set_option maxHeartbeats 4000000
/-! sets, sorted at once; owned sums of lists -/
namespace DN
open PySem PySem.Spec PyProof.Rows L2 TKS
section
variable {X : Cx} {E : XK} {pn : Nat → Prop} {e : Expr} {st : Stmt} {t : T} {Fa Fb : W D} {FB : W Bool} {FI : W (List D)} {vs : List Nat} {i : Nat} {k : Wk}
def setSW (F : W D) : W D := fun δ P R => F δ (fun x δ1 => isL x fun ds => toSs ds fun zs => zs.length ≤ 1000 ∧ ∀ ys : List Str, ys.Nodup → (∀ y, y ∈ ys ↔ y ∈ zs) → sortedS ys = true → P (.lst (ys.map D.str)) δ1) R
theorem m_setS (h : PE X e (tCB (rSortTx X.prog X.w) (tCons (tCB (rSetTx X.K X.prog X.w) (tCons (tE X.K E Fa) tNil)) tNil))) : PE X e (tE X.K E (setSW Fa)) := peI h fun σ H Q ⟨Hm, δ, fp, P, R, env, hF, hP, hR⟩ =>
  ⟨Hm, δ, fp, _, R, env, hF, fun x δ1 h1 v Hm1 H1 fp1 s1 e1 dv => by
    obtain ⟨a, xs, ds, rfl, rfl, hs, hd, g⟩ := rd_L dv h1
    obtain ⟨zs, rfl, g1, g2⟩ := of_Ss g
    rw [hd.of_strs] at hs
    refine ⟨a, zs, rfl, .of (e1.sub.lst hs), g1, fun D p nd mem ln np => ?_⟩
    refine ⟨p, D, rfl, upd_same, Nat.le_trans ln g1, fun ys q pm so nq => ?_⟩
    have pq : q ≠ p := fun z => by rw [z, upd_same] at nq; cases nq
    have nq' : H1 q = none := by rw [upd_ne pq] at nq; exact nq
    have n : New Hm1 H1 (upd Hm1 q (.lst (ys.map V.str))) (upd (upd H1 p (TxtSet X.prog X.w p D)) q (.lst (ys.map V.str))) := by
      have m1 := none_of_le e1.sub nq'
      have m2 := none_of_le e1.sub np
      refine ⟨same_upd m1, (same_upd np).trans (same_upd nq), fun b o hb => ?_, fun b o hb => ?_⟩
      · by_cases z : b = q
        · rw [z, upd_same] at hb ⊢; exact .inl hb
        · rw [upd_ne z] at hb ⊢
          rw [upd_ne fun y => by rw [y, m2] at hb; cases hb]
          exact e1.sub b o hb
      · by_cases z : b = q
        · rw [z]; exact .inr nq'
        · rw [upd_ne z] at hb; exact .inl ⟨o, hb⟩
    exact hP _ δ1 (g2 ys (pm.nodup_iff.mpr nd) (fun y => (pm.mem_iff).trans (mem y)) so) _ _ _ fp1 (s1.trans (n.step _)) (e1.new n) (.lst upd_same (.strs _)), hR⟩
/-! sorted({.. for .. in ..}): tuples of texts -/
def sT (F : W D) : List (List Str) → Env → (List (List Str) → Env → Prop) → Prop := fun acc δ N => F δ (fun y δ' => isT y fun ds => toSs ds fun z => z ≠ [] ∧ acc.length + 1 < 64 ∧ N (if z ∈ acc then acc else z :: acc) δ') noR
def rdS (K : PySem.W.Frag) (P : Program) (w : World) (q : Addr) : Hp → HO → List (List Str) → Prop := fun Hm o acc => ∃ L : List (Addr × List Str), o = TupSet P w q (L2.keysOf L) ∧ (L.map (·.2)).Perm acc ∧ (∀ p ∈ L, SqT K Hm p.1 (p.2.map V.str) ∧ p.2 ≠ []) ∧ acc.Nodup
theorem map_inr_inj : ∀ {a b : List Str}, a.map (Sum.inr : Str → Key) = b.map Sum.inr → a = b
  | [], [], _ => rfl
  | [], _ :: _, h => by cases h
  | _ :: _, [], h => by cases h
  | x :: a, y :: b, h => by
    injection h with h1 h2
    injection h1 with h1
    rw [h1, map_inr_inj h2]
theorem perm_map_ex {α β : Type} (f : α → β) : ∀ {l' : List β} {l : List α}, l'.Perm (l.map f) → ∃ m : List α, l' = m.map f ∧ m.Perm l := fun {l' l} h => by
  have : ∀ {a b : List β}, a.Perm b → ∀ l : List α, b = l.map f → ∃ m : List α, a = m.map f ∧ m.Perm l := by
    intro a b h
    induction h with
    | nil =>
      intro l e
      exact ⟨[], rfl, by cases l with | nil => exact .nil | cons _ _ => cases e⟩
    | cons x _ ih =>
      intro l e
      cases l with
      | nil => cases e
      | cons y r =>
        injection e with e1 e2
        obtain ⟨m, em, pm⟩ := ih r e2
        exact ⟨y :: m, by rw [e1, em]; rfl, pm.cons y⟩
    | swap x y r =>
      intro l e
      match l, e with
      | u :: v :: r', e =>
        injection e with e1 e2
        injection e2 with e2 e3
        exact ⟨v :: u :: r', by rw [e1, e2, e3]; rfl, .swap u v r'⟩
    | trans _ _ ih1 ih2 =>
      intro l e
      obtain ⟨m, em, pm⟩ := ih2 l e
      obtain ⟨n, en, pn⟩ := ih1 m em
      exact ⟨n, en, pn.trans pm⟩
  exact this h l rfl
theorem sT_ok {F : W D} (q : Addr) : IntoAt X.K q (rdS X.K X.prog X.w q) (fun D σ H N => tE X.K E0 F σ H fun y H4 => adT X.K X.prog X.w D y H4 N) (sT F) := by
  intro Hm H σ δ fp o a N N' env b r h k
  refine ⟨Hm, δ, fp, _, noR, env, h, fun y δ1 h1 v Hm1 H1 fp1 s1 e1 dv => ?_, fun _ h => h.elim⟩
  obtain ⟨p, xs, ds, rfl, rfl, hs, hd, g⟩ := rd_T dv h1
  obtain ⟨z, rfl, zn, few, g⟩ := of_Ss g
  rw [hd.of_strs] at hs
  obtain ⟨L, rfl, pm, hL, nd⟩ := r
  have b1 := b.step s1
  have ln : L.length = a.length := by rw [← pm.length_eq, List.length_map]
  have kv : ∀ z : List Str, (z.map (Sum.inr : Str → Key)).map kV = z.map V.str := fun z => by rw [List.map_map]; rfl
  refine ⟨p, z.map Sum.inr, L2.keysOf L, rfl, b1.at_, by rw [kv]; exact e1.sub.seqT hs, fun p' hp => ?_, by rw [List.length_map, ln]; exact few, fun L' c1 c2 => ?_⟩
  · obtain ⟨p0, hp0, rfl⟩ := List.mem_map.mp hp
    show SqT X.K H1 p0.1 ((p0.2.map Sum.inr).map kV)
    rw [kv]
    exact e1.sub.seqT ((Le.of s1.mask).seqT (hL p0 hp0).1)
  have ks : (L2.keysOf L).map (·.2) = (L.map (·.2)).map (fun z => z.map Sum.inr) := by rw [List.map_map, List.map_map]; rfl
  have mem : z.map Sum.inr ∈ (L2.keysOf L).map (·.2) ↔ z ∈ a := by
    rw [ks, List.mem_map]
    refine ⟨fun ⟨z', hz, e⟩ => ?_, fun hz => ⟨z, pm.mem_iff.mpr hz, rfl⟩⟩
    rw [← map_inr_inj e]
    exact pm.mem_iff.mp hz
  by_cases hz : z ∈ a
  · rw [if_pos hz] at g
    rw [c1 (mem.mpr hz)]
    exact k _ _ g Hm1 H1 fp1 _ s1 e1 b1 ⟨L, rfl, pm, fun p' hp => ⟨(Le.of s1.mask).seqT (hL p' hp).1, (hL p' hp).2⟩, nd⟩
  · rw [if_neg hz] at g
    have c := c2 fun y => hz (mem.mp y)
    obtain ⟨M, rfl, pM⟩ := perm_map_ex (fun p : Addr × List Str => (p.1, p.2.map Sum.inr)) (l := (p, z) :: L) c
    refine k _ _ g Hm1 H1 fp1 _ s1 e1 b1 ⟨M, rfl, ?_, fun p' hp => ?_, List.nodup_cons.mpr ⟨hz, nd⟩⟩
    · exact (pM.map (fun p : Addr × List Str => p.2)).trans (pm.cons z)
    · rcases List.mem_cons.mp (pM.mem_iff.mp hp) with rfl | hp
      · exact ⟨hs, zn⟩
      · exact ⟨(Le.of s1.mask).seqT (hL p' hp).1, (hL p' hp).2⟩
def sortCW (FI : W (List D)) (t : T) (FB : W Bool) (F : W D) (vs : List Nat) : W D := fun δ P R => FI δ (fun ds δ1 => cL t FB (sT F) vs (fun (acc : List (List Str)) δ2 => ∀ ys : List (List Str), ys.Perm acc → srtT ys → P (.lst (ys.map tupD)) (rst vs δ1 δ2)) ds [] (clr vs δ1)) R
theorem sort_end {Hm H : Hp} {σ : L2.St} {δ : Env} {fp : Fp} {q : Addr} {o : HO} {acc : List (List Str)} {P : D → Env → Prop} {Q : VK} (h : ∀ ys, ys.Perm acc → srtT ys → P (.lst (ys.map tupD)) δ) (env : EnvOk X.K Hm H σ δ fp) (b : Beside X.K q Hm H fp o) (r : rdS X.K X.prog X.w q Hm o acc)
    (hP : ∀ d δ', P d δ' → ∀ v Hm' H' fp', Step Hm H fp Hm' H' fp' → EnvOk X.K Hm' H' σ δ' fp' → Dq X.K Hm' v d → Q v H') : rSortTS X.K X.prog X.w [.ref q] H Q := by
  obtain ⟨L, rfl, pm, hL, nd⟩ := r
  refine ⟨q, L, rfl, b.at_, fun p hp => ⟨env.sub.seqT (hL p hp).1, (hL p hp).2⟩, fun M' p pM st np => ?_⟩
  have n := New.one env.sub (o := .lst (L2.refsOf M')) np
  have q2 := h (M'.map (·.2)) ((pM.map (fun p : Addr × List Str => p.2)).trans pm) (List.pairwise_map.mpr (show M'.Pairwise (fun x y => TKS.llt y.2 x.2 = false) from st))
  exact hP _ _ q2 _ _ _ fp (n.step _) (env.new n) (.lst upd_same ((TT_dq fun y hy => (hL y (pM.mem_iff.mp hy)).1).le (.of n.mask)))
theorem m_sortCD (h : PE X e (tCB (rSortTS X.K X.prog X.w) (tCons (tScG (fun D => TupSet X.prog X.w D []) (adT X.K X.prog X.w) (wkI k (tVar i)) (tgD X.K (fun i => i ∉ vs) t) (tT X.K E0 FB) (tE X.K E0 Fa) vs) tNil)))
    (h' : PE X e (tCB (rSortTS X.K X.prog X.w) (tCons (tLockE (tScG (fun D => TupSet X.prog X.w D []) (adT X.K X.prog X.w) (wkI k (tVar i)) (tgD X.K (fun i => i ∉ vs) t) (tT X.K E0 FB) (tE X.K E0 Fa) vs)) tNil))) (nd : vs.Nodup) : PE X e (tE X.K E (sortCW (itD k (vr i)) t FB Fa vs)) :=
  peI (peOr h' h) fun σ H Q ⟨Hm, δ, fp, P, R, env, hF, hP, hR⟩ => by
    obtain ⟨v, d, δ1, Hm1, fp1, hv, h1, s1, e1, dv⟩ := vr_at (R := R) (P := fun d δ1 => isDic d fun kvs => cL t FB (sT Fa) vs (fun (acc : List (List Str)) δ2 => ∀ ys : List (List Str), ys.Perm acc → srtT ys → P (.lst (ys.map tupD)) (rst vs δ1 δ2)) (wkD k kvs) [] (clr vs δ1)) env hF
    obtain ⟨a, xs, ds, rfl, rfl, ha, hx, h1⟩ := rd_dic dv h1
    exact compDict (Q := fun x H1 => rSortTS X.K X.prog X.w [x] H1 Q) (rd := fun q => rdS X.K X.prog X.w q) (o0 := fun q => TupSet X.prog X.w q []) (a0 := []) (N := fun (acc : List (List Str)) δ2 => ∀ ys : List (List Str), ys.Perm acc → srtT ys → P (.lst (ys.map tupD)) δ2) (fun q => sT_ok q) (fun q Hm => ⟨[], rfl, .nil, nofun, .nil⟩) (fun {q Hm Hm' o a} s ⟨L, e, pm, hL, nd⟩ => ⟨L, e, pm, fun p hp => ⟨(Le.of s).seqT (hL p hp).1, (hL p hp).2⟩, nd⟩) nd e1 hv ha hx h1
      fun acc δ' h q o Hm' H' fp' nq s e' b r => sort_end h e' b r fun d δ2 hp v2 Hm2 H2 fp2 s2 e2 dv2 => hP d δ2 hp v2 Hm2 H2 fp2 (s1.trans (s.trans s2)) e2 dv2
/-! owned: a sum of lists, list(..) -/
def owCat (Fa Fb : W D) : W (List D) := fun δ P R => Fa δ (fun x δ1 => Fb δ1 (fun y δ2 => gCatL x y fun d => isL d fun ds => P ds δ2) R) R
theorem m_owCat (h : PE X e (tOp rCat (tE X.K E Fa) (tE X.K E Fb))) : PE X e (tOw X.K E (owCat Fa Fb)) := peI h fun σ H Q ⟨Hm, δ, fp, P, R, env, hF, hP, hR⟩ =>
  ⟨Hm, δ, fp, _, R, env, hF, fun x δ1 h1 v Hm1 H1 fp1 s1 e1 dv => ⟨Hm1, δ1, fp1, _, R, e1, h1, fun y δ2 h2 w Hm2 H2 fp2 s2 e2 dw => by
    obtain ⟨a, xs, ds, rfl, rfl, hs, hd, g⟩ := rd_L (dv.le (.of s2.mask)) h2
    obtain ⟨b, ys, es, rfl, rfl, ht, he, g⟩ := rd_L dw g
    refine ⟨a, b, xs, ys, rfl, rfl, e2.sub.lst hs, e2.sub.lst ht, by rw [hd.len, he.len]; exact g.1, fun p np => ?_⟩
    obtain ⟨b1, b2, b3⟩ := e2.beside np (.lst (xs ++ ys))
    exact hP _ δ2 g.2 p _ Hm2 _ fp2 ((s1.trans s2).trans b3) b1 b2 (s1.dom p (s2.dom p np)) (hd.app he), fun e he => (hR e he).step s1⟩, hR⟩
def owList (F : W D) : W (List D) := fun δ P R => F δ (fun x δ1 => match x with
  | .lst ds => P ds δ1
  | .tup ds => P ds δ1
  | _ => False) R
theorem m_owList (h : PE X e (tCB (fun xs H Q => ∃ p ys, xs = [.ref p] ∧ (SqL X.K H p ys ∨ SqT X.K H p ys) ∧ ∀ l, H l = none → Q (.ref l) (upd H l (.lst ys))) (tCons (tE X.K E Fa) tNil))) : PE X e (tOw X.K E (owList Fa)) := peI h fun σ H Q ⟨Hm, δ, fp, P, R, env, hF, hP, hR⟩ =>
  ⟨Hm, δ, fp, _, R, env, hF, fun x δ1 h1 v Hm1 H1 fp1 s1 e1 dv => by
    have fin : ∀ {a xs ds}, v = .ref a → (SqL X.K H1 a xs ∨ SqT X.K H1 a xs) → DqL X.K Hm1 xs ds → P ds δ1 → ∃ p ys, [v] = [V.ref p] ∧ (SqL X.K H1 p ys ∨ SqT X.K H1 p ys) ∧ ∀ l, H1 l = none → Q (.ref l) (upd H1 l (.lst ys)) := fun {a xs ds} ev hs hd g => by
      subst ev
      refine ⟨a, xs, rfl, hs, fun p np => ?_⟩
      obtain ⟨b1, b2, b3⟩ := e1.beside np (.lst xs)
      exact hP _ δ1 g p _ Hm1 _ fp1 (s1.trans b3) b1 b2 (s1.dom p np) hd
    cases dv with
    | lst a b => exact fin rfl (.inl (.of (e1.sub.lst a))) b h1
    | tup a b => exact fin rfl (.inr (e1.sub.seqT a)) b h1
    | _ => exact h1.elim, hR⟩
end
end DN
set_option Elab.async false
set_option linter.all false
set_option maxRecDepth 100000
set_option maxHeartbeats 4000000
/-! operations whose kind the data decide -/
namespace DN
open PySem PySem.Spec PyProof.Rows L2 TKS
section
variable {X : Cx} {K : PySem.W.Frag} {E : XK} {e : Expr}
def rOr (r r' : R2) : R2 := fun x y H Q => r x y H Q ∨ r' x y H Q
def rOrN (r r' : List V → Hp → VK → Prop) : List V → Hp → VK → Prop := fun xs H Q => r xs H Q ∨ r' xs H Q
theorem opOr {f : Value → Value → Sem Value} {r r' : R2} (h : OpR X f r) (h' : OpR X f r') : OpR X f (rOr r r') := fun pins s σ H x y v u Q I rx ry q => q.elim (h pins s σ H x y v u Q I rx ry) (h' pins s σ H x y v u Q I rx ry)
theorem ixOr {r r' : R2} (h : IxR X r) (h' : IxR X r') : IxR X (rOr r r') := fun va sl pins s σ H x y v u Q I rx ry q => q.elim (h va sl pins s σ H x y v u Q I rx ry) (h' va sl pins s σ H x y v u Q I rx ry)
theorem crOr {f : Value} {r r' : List V → Hp → VK → Prop} (h : CallR X f r) (h' : CallR X f r') : CallR X f (rOrN r r') := fun pins s σ H xs us Q I rx q => q.elim (h pins s σ H xs us Q I rx) (h' pins s σ H xs us Q I rx)
theorem piOr {tg : Expr} {t u : TI} (h : PI X tg e t) (g : PI X tg e u) : PI X tg e (fun σ H R => t σ H R ∨ u σ H R) := ⟨fun pins s σ H R I q => q.elim (h.run pins s σ H R I) (g.run pins s σ H R I)⟩
theorem P2L {r r' : R2} {g g' : G2} (p : Prim2 K r g) (p' : Prim2 K r' g') (G : G2) (h : ∀ x y P, G x y P → g x y P ∨ g' x y P) : Prim2 K (rOr r r') G := fun Hm H v w x y P Q l hx hy q k => (h x y P q).elim (fun q => .inl (p Hm H v w x y P Q l hx hy q k)) fun q => .inr (p' Hm H v w x y P Q l hx hy q k)
theorem PNL {r r' : List V → Hp → VK → Prop} {g g' : GN} (p : PrimN K r g) (p' : PrimN K r' g') (G : GN) (h : ∀ xs P, G xs P → g xs P ∨ g' xs P) : PrimN K (rOrN r r') G := fun Hm H vs ds P Q l hv q k => (h ds P q).elim (fun q => .inl (p Hm H vs ds P Q l hv q k)) fun q => .inr (p' Hm H vs ds P Q l hv q k)
theorem P3L {r r' : V → Option Int → Option Int → Hp → VK → Prop} {g g' : G3} (p : Prim3 K r g) (p' : Prim3 K r' g') (G : G3) (h : ∀ x lo hi P, G x lo hi P → g x lo hi P ∨ g' x lo hi P) : Prim3 K (fun x lo hi H Q => r x lo hi H Q ∨ r' x lo hi H Q) G := fun Hm H v x lo hi P Q l hx q k => (h x lo hi P q).elim (fun q => .inl (p Hm H v x lo hi P Q l hx q k)) fun q => .inr (p' Hm H v x lo hi P Q l hx q k)
/-! + -/
def gPlus : G2 := fun x y P => match x, y with
  | .int a, .int b => P (.int (a + b))
  | .str a, .str b => a.length + b.length ≤ sizeLine ∧ P (.str (a ++ b))
  | .lst a, .lst b => a.length + b.length ≤ sizeLine ∧ P (.lst (a ++ b))
  | .tup a, .tup b => a.length + b.length ≤ sizeLine ∧ P (.tup (a ++ b))
  | _, _ => False
abbrev rPlus (K : PySem.W.Frag) : R2 := rOr (rOr (rI0 fun i j => .int (i + j)) (fun x y H Q => ∃ i j, x = .str i ∧ y = .str j ∧ i.length + j.length ≤ sizeLine ∧ Q (.str (i ++ j)) H)) (rOr rCat (rCatA K))
theorem o_plus : OpR X (binaryOp .Add) (rPlus X.K) := opOr (opOr op_add op_add_str) (opOr op_cat op_catA)
theorem p_plus : Prim2 K (rPlus K) gPlus := by
  refine P2L (P2L p_add p_addS (fun x y P => gAdd x y P ∨ gAddS x y P) fun _ _ _ h => h) (P2L p_catL p_catT (fun x y P => gCatL x y P ∨ gCatT x y P) fun _ _ _ h => h) _ fun x y P h => ?_
  unfold gPlus at h
  split at h
  · exact .inl (.inl h)
  · exact .inl (.inr h)
  · exact .inr (.inl h)
  · exact .inr (.inr h)
  · exact h.elim
/-! * -/
def gTimes : G2 := fun x y P => match x, y with
  | .int a, .int b => CMul a b ∧ P (.int (a * b))
  | .lst a, .int n => -(2 ^ 63) ≤ n ∧ n < 2 ^ 63 ∧ a.length * n.toNat ≤ sizeLine ∧ P (.lst (repL a n.toNat))
  | .tup a, .int n => a ≠ [] ∧ 2 ≤ n ∧ n ≤ 1000 ∧ a.length ≤ 1000 ∧ P (.tup (repL a n.toNat))
  | _, _ => False
abbrev rTimes (K : PySem.W.Frag) : R2 := rOr (rI CMul fun i j => .int (i * j)) (rOr rRep (rRepT K))
theorem o_times : OpR X (binaryOp .Mult) (rTimes X.K) := opOr op_mul (opOr op_rep op_repT)
theorem p_times : Prim2 K (rTimes K) gTimes := by
  refine P2L p_mul (P2L p_repL p_repT (fun x y P => gRepL x y P ∨ gRepT x y P) fun _ _ _ h => h) _ fun x y P h => ?_
  unfold gTimes at h
  split at h
  · exact .inl h
  · exact .inr (.inl h)
  · exact .inr (.inr h)
  · exact h.elim
/-! == -/
def gEqA (neg : Bool) : G2 := fun x y P => match x, y with
  | .non, .non => P (.bl (!neg))
  | .bl a, .bl b => P (.bl (if neg then !decide (a = b) else decide (a = b)))
  | .int a, .int b => P (.bl (if neg then !decide (a = b) else decide (a = b)))
  | .str a, .str b => P (.bl (if neg then !decide (a = b) else decide (a = b)))
  | x, y => Pl x ∧ Pl y ∧ P (.bl (if neg then !eqD x y else eqD x y))
theorem o_eq (hu : X.A.units + 64 < cLine) : OpR X (compareOp .Eq) (rOr rEq (rEqD X.K)) := opOr op_eq (op_eqD hu)
theorem o_ne (hu : X.A.units + 64 < cLine) : OpR X (compareOp .NotEq) (rOr rNe (rNeD X.K)) := opOr op_ne (op_neD hu)
theorem p_eqA : Prim2 K (rOr rEq (rEqD K)) (gEqA false) := by
  refine P2L p_eq p_eqD _ fun x y P h => ?_
  unfold gEqA at h
  split at h
  · exact .inl h
  · exact .inl h
  · exact .inl h
  · exact .inl h
  · exact .inr h
theorem p_neA : Prim2 K (rOr rNe (rNeD K)) (gEqA true) := by
  refine P2L p_ne p_neD _ fun x y P h => ?_
  unfold gEqA at h
  split at h
  · exact .inl h
  · exact .inl h
  · exact .inl h
  · exact .inl h
  · exact .inr h
/-! in -/
def gInA (neg : Bool) : G2 := fun x y P => match y with
  | .str b => isS x fun a => P (.bl (if neg then !hasS a b else hasS a b))
  | .lst ys => Pl x ∧ Pl (.lst ys) ∧ P (.bl (if neg then !memD x ys else memD x ys))
  | .tup ys => Pl x ∧ Pl (.tup ys) ∧ P (.bl (if neg then !memD x ys else memD x ys))
  | _ => False
abbrev rInA (K : PySem.W.Frag) : R2 := rOr (fun x y H Q => ∃ i j, x = .str i ∧ y = .str j ∧ Q (.bl (!(Builtin.Str.occurrences j i 0 j.length 1).isEmpty)) H) (rOr (rInD K) (rInDT K false))
abbrev rNinA (K : PySem.W.Frag) : R2 := rOr (fun x y H Q => ∃ i j, x = .str i ∧ y = .str j ∧ Q (.bl (!(!(Builtin.Str.occurrences j i 0 j.length 1).isEmpty))) H) (rOr (rNotInD K) (rInDT K true))
theorem o_in (hu : X.A.units + 65 < cLine) : OpR X (compareOp .In) (rInA X.K) := opOr op_in_str (opOr (op_inD hu) (op_inDT hu))
theorem o_nin (hu : X.A.units + 65 < cLine) : OpR X (compareOp .NotIn) (rNinA X.K) := opOr op_notIn_str (opOr (op_notInD hu) (op_notInDT hu))
theorem p_inA : Prim2 K (rInA K) (gInA false) := by
  refine P2L p_inS (P2L p_inL p_inT (fun x y P => gIn isL false x y P ∨ gIn isT false x y P) fun _ _ _ h => h) _ fun x y P h => ?_
  unfold gInA at h
  split at h
  · left
    unfold gInS
    cases x with
    | str a => exact h
    | _ => exact h.elim
  · exact .inr (.inl h)
  · exact .inr (.inr h)
  · exact h.elim
theorem p_ninA : Prim2 K (rNinA K) (gInA true) := by
  refine P2L p_ninS (P2L p_ninL p_ninT (fun x y P => gIn isL true x y P ∨ gIn isT true x y P) fun _ _ _ h => h) _ fun x y P h => ?_
  unfold gInA at h
  split at h
  · left
    unfold gInS
    cases x with
    | str a => exact h
    | _ => exact h.elim
  · exact .inr (.inl h)
  · exact .inr (.inr h)
  · exact h.elim
/-! an item, a slice, a length -/
def gIxA : G2 := fun x y P => match x with
  | .lst a => isI y fun i => optD (atI a i) P
  | .tup a => isI y fun i => optD (atI a i) P
  | .str z => isI y fun i => z.length ≤ sizeLine ∧ optD (atI z.cps.toList i) fun c => P (.str ⟨#[c]⟩)
  | _ => False
abbrev rIxA (K : PySem.W.Frag) : R2 := rOr (rOr (rIxL K) (rIxT K)) rIxS
theorem o_ix : IxR X (rIxA X.K) := ixOr (ixOr ix_list ix_tup) ix_str
theorem p_ixA : Prim2 K (rIxA K) gIxA := by
  refine P2L (P2L p_ixL p_ixT (fun x y P => gIx isL x y P ∨ gIx isT x y P) fun _ _ _ h => h) p_ixS _ fun x y P h => ?_
  unfold gIxA at h
  split at h
  · exact .inl (.inl h)
  · exact .inl (.inr h)
  · exact .inr h
  · exact h.elim
def gCutA : G3 := fun x lo hi P => match x with
  | .lst a => P (.lst (cutD a lo hi))
  | .tup a => P (.tup (cutD a lo hi))
  | .str z => z.length ≤ sizeLine ∧ P (.str (cutS z lo hi))
  | _ => False
abbrev rCutA (K : PySem.W.Frag) : V → Option Int → Option Int → Hp → VK → Prop := fun x lo hi H Q => (rSlL K x lo hi H Q ∨ rSlA K x lo hi H Q) ∨ rSlS x lo hi H Q
theorem o_sl : L2.SlR X (rCutA X.K) := SlR.or (SlR.or sl_list sl_tupA) sl_str
theorem p_cutA : Prim3 K (rCutA K) gCutA := by
  refine P3L (P3L p_cutL p_cutT (fun x lo hi P => gCutL x lo hi P ∨ gCutT x lo hi P) fun _ _ _ _ h => h) p_cutS _ fun x lo hi P h => ?_
  unfold gCutA at h
  split at h
  · exact .inl (.inl h)
  · exact .inl (.inr h)
  · exact .inr h
  · exact h.elim
def gLenA : GN := one fun x P => match x with
  | .lst a => P (.int (a.length : Nat))
  | .tup a => P (.int (a.length : Nat))
  | .str z => z.length ≤ sizeLine ∧ P (.int (z.length : Nat))
  | .scr a => P (.int (a.length : Nat))
  | _ => False
abbrev rLenA (K : PySem.W.Frag) : List V → Hp → VK → Prop := rOrN (fun xs H Q => ∃ p ys, xs = [.ref p] ∧ (SqL K H p ys ∨ SqT K H p ys) ∧ Q (.int ys.length) H) (fun xs H Q => ∃ z, xs = [.str z] ∧ z.length ≤ sizeLine ∧ Q (.int z.length) H)
theorem o_len : CallR X (.builtin "len") (rLenA X.K) := crOr call_len_seq call_len_str
theorem p_lenA : PrimN K (rLenA K) gLenA := by
  refine PNL p_lenL p_lenS _ fun xs P h => ?_
  obtain ⟨x, rfl, h⟩ := of_one h
  cases x with
  | lst a => exact .inl h
  | tup a => exact .inl h
  | str z => exact .inr h
  | scr z => exact .inl h
  | _ => exact h.elim
/-! what a for walks: a list, a tuple, a text -/
def itA (F : W D) : W (List D) := fun δ P R => F δ (fun d δ1 => match d with
  | .lst ds => P ds δ1
  | .tup ds => P ds δ1
  | .str z => P (chs z) δ1
  | _ => False) R
theorem vr_split (i : Nat) (δ : Env) (P : List D → Env → Prop) (R : Er → Prop) (h : itA (vr i) δ P R) : itL (vr i) δ P R ∨ itT (vr i) δ P R ∨ itS (vr i) δ P R := by
  unfold itA itL itT itS vr at *
  revert h
  cases slot δ i with
  | no => exact fun h => h.elim
  | sh d =>
    cases d with
    | lst _ => exact fun h => .inl h
    | tup _ => exact fun h => .inr (.inl h)
    | str _ => exact fun h => .inr (.inr h)
    | _ => exact fun h => h.elim
  | ow o =>
    cases o with
    | lst _ => exact fun h => .inl h
    | _ => exact fun h => h.elim
theorem i_any {tg : Expr} {i : Nat} (h1 : PI X tg e (tI X.K E (itL (vr i)))) (h2 : PI X tg e (tI X.K E (itT (vr i)))) (h3 : PI X tg e (tI X.K E (itS (vr i)))) : PI X tg e (tI X.K E (itA (vr i))) :=
  piI (piOr h1 (piOr h2 h3)) fun σ H Rr ⟨Hm, δ, fp, P, R, env, hF, hP, hR⟩ => (vr_split i δ P R hF).elim (fun h => .inl ⟨Hm, δ, fp, P, R, env, h, hP, hR⟩) fun h => h.elim (fun h => .inr (.inl ⟨Hm, δ, fp, P, R, env, h, hP, hR⟩)) fun h => .inr (.inr ⟨Hm, δ, fp, P, R, env, h, hP, hR⟩)
/-- a name of the module -/
def GlobD (K : PySem.W.Frag) (mg : Str → Option Value) (x : Str) (d : D) : Prop := ∃ v u, mg x = some u ∧ RelV v u ∧ ∀ H, Dq K H v d
theorem m_glob {x : Str} {d : D} {pos : Pos} (g : GlobD X.K X.mg x d) (hg : Gl X x) (hd : (x == ("__debug__" : Str)) = false := by decide) : PE X (.Name x pos) (tE X.K E (ret d)) := by
  obtain ⟨v, u, m, r, q⟩ := g
  exact m_c (pe_glob hg m r hd) q
end
end DN
set_option Elab.async false
set_option linter.all false
set_option maxRecDepth 100000
set_option maxHeartbeats 4000000
/-! calls by name, with a star, without arguments; a new purse -/
namespace DN
open PySem PySem.Spec PyProof.Rows L2 TKS
section
variable {X : Cx} {E : XK} {pn : Nat → Prop} {e : Expr} {es : List Expr} {st : Stmt} {sts : List Stmt} {Fa Fb : W D} {FL : W (List D)} {i : Nat} {B : S}
theorem pkI {kws : List Keyword} {t t' : TA} (h : PK X kws t) (m : ∀ σ H Q, t' σ H Q → t σ H Q) : PK X kws t' := ⟨fun pos pins s σ H Q I q => h.run pos pins s σ H Q I (m σ H Q q)⟩
theorem m_knil {kws : List Keyword} (h : PK X kws tNil) : PK X kws (tL X.K E nilW) := pkI h fun σ H Q ⟨Hm, δ, fp, P, R, env, hF, hP, hR⟩ => hP [] δ hF [] Hm H fp (.refl ..) env .nil
theorem m_kcons {kws : List Keyword} (h : PK X kws (tCons (tE X.K E Fa) (tL X.K E FL))) : PK X kws (tL X.K E (consW Fa FL)) := pkI h fun σ H Q ⟨Hm, δ, fp, P, R, env, hF, hP, hR⟩ =>
  ⟨Hm, δ, fp, _, R, env, hF, fun x δ1 h1 v Hm1 H1 fp1 s1 e1 dv => ⟨Hm1, δ1, fp1, _, R, e1, h1, fun y δ2 h2 w Hm2 H2 fp2 s2 e2 dw => hP (x :: y) δ2 h2 (v :: w) Hm2 H2 fp2 (s1.trans s2) e2 (.cons (dv.le (.of s2.mask)) dw), fun e he => (hR e he).step s1⟩, hR⟩
def permL {α : Type} (p : List Nat) (zs : List α) : List α := p.filterMap fun i => zs[i]?
theorem perm_dq {K : PySem.W.Frag} {Hm : Hp} {vs : List V} {ds : List D} (h : DqL K Hm vs ds) : ∀ p : List Nat, DqL K Hm (permL p vs) (permL p ds)
  | [] => .nil
  | i :: r => by
    unfold permL
    rw [List.filterMap_cons, List.filterMap_cons]
    cases e : vs[i]? with
    | none =>
      cases e' : ds[i]? with
      | none => exact perm_dq h r
      | some d =>
        obtain ⟨v, a, _⟩ := h.get' e'
        rw [e] at a; cases a
    | some v =>
      obtain ⟨d, a, q⟩ := h.get e
      rw [a]
      exact .cons q (perm_dq h r)
/-- f(y=.., x=..): p lays the values in the parameters' order -/
def callKW (f : PF) (m : Nat) (p : List Nat) (F : W (List D)) : W D := fun δ P R => F δ (fun ds δ1 => ds.length = m ∧ f (permL p ds) (fun d => P d δ1) noR) R
theorem m_callK {n m : Nat} {ks : List Str} {f : PF} {p : List Nat} (h : PE X e (tCallKw0 ks.length (spP X.K n f) (permL p) (tL X.K E0 FL))) (hm : ks.length = m) (len : ∀ ds P R, f ds P R → ds.length = n) : PE X e (tE X.K E0 (callKW f m p FL)) := peI h fun σ H Q ⟨Hm, δ, fp, P, R, env, hF, hP, hR⟩ =>
  ⟨Hm, δ, fp, _, R, env, hF, fun ds δ1 h1 v Hm1 H1 fp1 s1 e1 dv => ⟨by rw [dv.len, hm]; exact h1.1, by rw [(perm_dq dv p).len]; exact len _ _ _ h1.2, Hm1, _, _, e1.sub, perm_dq dv p, h1.2, fun d hd u Hm2 H2 n du => hP d δ1 hd u Hm2 H2 fp1 (s1.trans (n.step _)) (e1.new n) du⟩, hR⟩
/-- f(x, *ys) -/
def starW (Fa Fb : W D) : W (List D) := fun δ P R => Fa δ (fun x δ1 => Fb δ1 (fun y δ2 => match y with
  | .tup ds => P (x :: ds) δ2
  | .lst ds => P (x :: ds) δ2
  | _ => False) R) R
theorem m_star (h : PA X es (tCons (tE X.K E Fa) (StX.tStar X.K (tE X.K E Fb) tNil))) : PA X es (tL X.K E (starW Fa Fb)) := paI h fun σ H Q ⟨Hm, δ, fp, P, R, env, hF, hP, hR⟩ =>
  ⟨Hm, δ, fp, _, R, env, hF, fun x δ1 h1 v Hm1 H1 fp1 s1 e1 dv => ⟨Hm1, δ1, fp1, _, R, e1, h1, fun y δ2 h2 w Hm2 H2 fp2 s2 e2 dw => by
    cases dw with
    | tup a b =>
      refine ⟨_, _, rfl, .inl (e2.sub.seqT a), ?_⟩
      show Q (v :: (_ ++ [])) H2
      rw [List.append_nil]
      exact hP _ δ2 h2 _ Hm2 H2 fp2 (s1.trans s2) e2 (.cons (dv.le (.of s2.mask)) b)
    | lst a b =>
      refine ⟨_, _, rfl, .inr (.of (e2.sub.lst a)), ?_⟩
      show Q (v :: (_ ++ [])) H2
      rw [List.append_nil]
      exact hP _ δ2 h2 _ Hm2 H2 fp2 (s1.trans s2) e2 (.cons (dv.le (.of s2.mask)) b)
    | _ => exact h2.elim, fun e he => (hR e he).step s1⟩, hR⟩
theorem m_meth0 {C : Addr} {m : Str} {f : PF} (h : PE X e (tMeth C m (spP X.K 1 f) [] E0 (tE X.K E0 Fa) tNil)) (len : ∀ ds P R, f ds P R → ds.length = 1) : PE X e (tE X.K E0 (methW C m f Fa nilW)) := peI h fun σ H Q ⟨Hm, δ, fp, P, R, env, hF, hP, hR⟩ =>
  ⟨Hm, δ, fp, _, R, env, hF, fun d δ1 h1 v Hm1 H1 fp1 s1 e1 dv => by
    obtain ⟨a, dx, xs, fs, rfl, rfl, ho, hx, hm, h1⟩ := rd_obj dv h1
    refine ⟨_, _, _, rfl, e1.sub.ins ho, ?_, ?_⟩
    · rcases hx.lookup (f := m) with ⟨z, _⟩ | ⟨_, _, _, z, _⟩
      · exact z
      · rw [hm] at z; cases z
    · exact ⟨rfl, Hm1, _, _, e1.sub, .cons (.obj ho hx) .nil, h1, fun d hd u Hm3 H3 n du => hP d δ1 hd u Hm3 H3 fp1 (s1.trans (n.step _)) (e1.new n) du⟩, hR⟩
def owRep (Fa Fb : W D) : W (List D) := fun δ P R => Fa δ (fun x δ1 => Fb δ1 (fun y δ2 => gRepL x y fun d => isL d fun ds => P ds δ2) R) R
/-- purse = _law_purse(script, at) -/
def purS (F : W (List D)) (i : Nat) : S := fun δ P => F δ (fun ds δ1 => match ds with
  | [.scr zs, .int k] => 0 ≤ k ∧ k ≤ 63 ∧ i < δ1.length ∧ P.nx (put δ1 i (.ow (.pur 63000)))
  | _ => False) P.er
theorem s_pur (h : PS X st (tAsg (tCall (spPurse X.K) [] E0 (tL X.K E0 FL)) (gName i))) (hi : ¬ pn i) : PS X st (tS X.K E0 pn (purS FL i)) := psI h fun D σ H ⟨Hm, δ, fp, P, env, hF, k⟩ =>
  ⟨Hm, δ, fp, _, _, env, hF, fun ds δ1 h1 v Hm1 H1 fp1 s1 e1 dv => by
    match ds, h1, dv with
    | [.scr ns, .int n], ⟨h0, h63, hi2, h2⟩, .cons (.scr (a := a) ha) (.cons (.int _) .nil) =>
      obtain ⟨m, rfl⟩ := Int.eq_ofNat_of_zero_le h0
      refine ⟨a, ns, m, by show _ = _; rfl, e1.sub.seq ha, by omega, fun p p0 p1 p2 np ok => ?_⟩
      have hp : upd H1 p (.lst [.int p0, .int p1, .int p2]) p = some (.lst [.int p0, .int p1, .int p2]) := upd_same
      obtain ⟨b1, b2, b3⟩ := e1.beside np (.lst [.int p0, .int p1, .int p2])
      have e2 := b1.put_ow i hi2 (v := .ref p) (o := .pur 63000) (g := [p]) (.pur b2.msk hp ok) fun j q hq hm => by
        rw [List.mem_singleton.mp hm] at hq
        exact absurd hq (b2.off j)
      have s2 := s1.trans b3
      exact k.nx _ h2 _ Hm1 _ _ ⟨s2.mask, s2.keep, fun j q hq => by
        by_cases z : j = i
        · rw [if_pos z] at hq
          rw [List.mem_singleton.mp hq]
          exact .inr (s1.dom p np)
        · rw [if_neg z] at hq
          exact s2.new j q hq, s2.only, s2.dom⟩ e2 (.set hi), k.er⟩
/-- a body's reading may forget what it pins -/
theorem ss_pn {pn' : Nat → Prop} (h : PSs X sts (tS X.K E pn B)) (l : ∀ i, pn' i → pn i) : PSs X sts (tS X.K E pn' B) := pssI h fun D σ H ⟨Hm, δ, fp, P, env, hF, k⟩ =>
  ⟨Hm, δ, fp, P, env, hF, ⟨fun δ' h σ' Hm' H' fp' s e p => k.nx δ' h σ' Hm' H' fp' s e ⟨p.len, fun i hi => p.at_ i (l i hi)⟩, fun d δ' h v σ' Hm' H' fp' s e p dv => k.rt d δ' h v σ' Hm' H' fp' s e ⟨p.len, fun i hi => p.at_ i (l i hi)⟩ dv, fun δ' h σ' Hm' H' fp' s e p => k.bk δ' h σ' Hm' H' fp' s e ⟨p.len, fun i hi => p.at_ i (l i hi)⟩, fun δ' h σ' Hm' H' fp' s e p => k.ct δ' h σ' Hm' H' fp' s e ⟨p.len, fun i hi => p.at_ i (l i hi)⟩, k.er⟩⟩
end
end DN
set_option Elab.async false
set_option linter.all false
set_option maxRecDepth 100000
set_option maxHeartbeats 4000000
namespace Lw
open PySem PySem.Spec PyProof.Rows L2 TKS DN
abbrev D := DN.D
abbrev S := DN.S
def topS (i : Nat) : Stmt := PySem.Challenge.pw_backthen_k01_tales_checked.main.body.getD i (.Pass ⟨0, 0, 0, 0⟩)
abbrev s__wall : Stmt := topS 0
theorem sc__wall : FnScope ["k"] ["k"] (defScope s__wall) := ⟨rfl, rfl, rfl, by decide +kernel, rfl, by decide +kernel, by decide +kernel⟩
abbrev s_tale_stands : Stmt := topS 5
theorem sc_tale_stands : FnScope ["tale", "stands", "word", "moment"] ["tale"] (defScope s_tale_stands) := ⟨rfl, rfl, rfl, by decide +kernel, rfl, by decide +kernel, by decide +kernel⟩
abbrev s_sentence_link : Stmt := topS 6
theorem sc_sentence_link : FnScope ["stand", "word", "moment"] ["stand", "word", "moment"] (defScope s_sentence_link) := ⟨rfl, rfl, rfl, by decide +kernel, rfl, by decide +kernel, by decide +kernel⟩
abbrev s_tale_links : Stmt := topS 7
theorem sc_tale_links : FnScope ["tale", "stand", "sentence"] ["tale"] (defScope s_tale_links) := ⟨rfl, rfl, rfl, by decide +kernel, rfl, by decide +kernel, by decide +kernel⟩
abbrev s_joined : Stmt := topS 8
theorem sc_joined : FnScope ["things", "pairs", "parts", "thing", "one", "other", "part"] ["things", "pairs"] (defScope s_joined) := ⟨rfl, rfl, rfl, by decide +kernel, rfl, by decide +kernel, by decide +kernel⟩
abbrev s_closed : Stmt := topS 9
theorem sc_closed : FnScope ["masks", "middle", "mask"] ["masks"] (defScope s_closed) := ⟨rfl, rfl, rfl, by decide +kernel, rfl, by decide +kernel, by decide +kernel⟩
abbrev s_is_name : Stmt := topS 15
theorem sc_is_name : FnScope ["thing", "letter"] ["thing"] (defScope s_is_name) := ⟨rfl, rfl, rfl, by decide +kernel, rfl, by decide +kernel, by decide +kernel⟩
abbrev s_is_pair : Stmt := topS 16
theorem sc_is_pair : FnScope ["thing"] ["thing"] (defScope s_is_pair) := ⟨rfl, rfl, rfl, by decide +kernel, rfl, by decide +kernel, by decide +kernel⟩
abbrev s_is_sentence : Stmt := topS 17
theorem sc_is_sentence : FnScope ["thing"] ["thing"] (defScope s_is_sentence) := ⟨rfl, rfl, rfl, by decide +kernel, rfl, by decide +kernel, by decide +kernel⟩
abbrev s_closing_index : Stmt := topS 18
theorem sc_closing_index : FnScope ["tale", "low", "high", "middle"] ["tale"] (defScope s_closing_index) := ⟨rfl, rfl, rfl, by decide +kernel, rfl, by decide +kernel, by decide +kernel⟩
abbrev s_check_tale : Stmt := topS 19
theorem sc_check_tale : FnScope ["thing", "k", "sentence"] ["thing"] (defScope s_check_tale) := ⟨rfl, rfl, rfl, by decide +kernel, rfl, by decide +kernel, by decide +kernel⟩
abbrev s__law_at : Stmt := topS 21
theorem sc__law_at : FnScope ["script", "k"] ["script", "k"] (defScope s__law_at) := ⟨rfl, rfl, rfl, by decide +kernel, rfl, by decide +kernel, by decide +kernel⟩
abbrev s__law_mixed : Stmt := topS 22
theorem sc__law_mixed : FnScope ["cell", "k", "number"] ["cell", "k"] (defScope s__law_mixed) := ⟨rfl, rfl, rfl, by decide +kernel, rfl, by decide +kernel, by decide +kernel⟩
abbrev s__law_purse : Stmt := topS 23
theorem sc__law_purse : FnScope ["script", "at", "cell"] ["script", "at"] (defScope s__law_purse) := ⟨rfl, rfl, rfl, by decide +kernel, rfl, by decide +kernel, by decide +kernel⟩
abbrev s__law_draw : Stmt := topS 24
theorem sc__law_draw : FnScope ["purse", "out_of", "drawn"] ["purse", "out_of"] (defScope s__law_draw) := ⟨rfl, rfl, rfl, by decide +kernel, rfl, by decide +kernel, by decide +kernel⟩
abbrev s__law_links : Stmt := topS 25
theorem sc__law_links : FnScope ["sentences", "found", "place", "word", "moment"] ["sentences"] (defScope s__law_links) := ⟨rfl, rfl, rfl, by decide +kernel, rfl, by decide +kernel, by decide +kernel⟩
abbrev s__law_order : Stmt := topS 26
theorem sc__law_order : FnScope ["names", "links", "head", "name", "turn", "one", "other", "strict", "link", "least", "after", "middle"] ["names", "links"] (defScope s__law_order) := ⟨rfl, rfl, rfl, by decide +kernel, rfl, by decide +kernel, by decide +kernel⟩
abbrev s__law_names : Stmt := topS 27
theorem sc__law_names : FnScope ["sentences", "word", "moment"] ["sentences"] (defScope s__law_names) := ⟨rfl, rfl, rfl, by decide +kernel, rfl, by decide +kernel, by decide +kernel⟩
abbrev s__law_model : Stmt := topS 28
theorem sc__law_model : FnScope ["sentences"] ["sentences"] (defScope s__law_model) := ⟨rfl, rfl, rfl, by decide +kernel, rfl, by decide +kernel, by decide +kernel⟩
abbrev s__law_fits : Stmt := topS 29
theorem sc__law_fits : FnScope ["sentences", "head", "after", "one"] ["sentences"] (defScope s__law_fits) := ⟨rfl, rfl, rfl, by decide +kernel, rfl, by decide +kernel, by decide +kernel⟩
abbrev s__law_groups : Stmt := topS 30
theorem sc__law_groups : FnScope ["model", "head", "after", "name", "one"] ["model"] (defScope s__law_groups) := ⟨rfl, rfl, rfl, by decide +kernel, rfl, by decide +kernel, by decide +kernel⟩
abbrev s__law_related : Stmt := topS 31
theorem sc__law_related : FnScope ["model", "one", "two", "head", "after"] ["model", "one", "two"] (defScope s__law_related) := ⟨rfl, rfl, rfl, by decide +kernel, rfl, by decide +kernel, by decide +kernel⟩
abbrev s__law_covers : Stmt := topS 32
theorem sc__law_covers : FnScope ["model", "lots", "found", "one", "above", "other", "mid"] ["model"] (defScope s__law_covers) := ⟨rfl, rfl, rfl, by decide +kernel, rfl, by decide +kernel, by decide +kernel⟩
abbrev s__law_is_name : Stmt := topS 33
theorem sc__law_is_name : FnScope ["value", "sign"] ["value"] (defScope s__law_is_name) := ⟨rfl, rfl, rfl, by decide +kernel, rfl, by decide +kernel, by decide +kernel⟩
abbrev s__law_is_sentence : Stmt := topS 34
theorem sc__law_is_sentence : FnScope ["value"] ["value"] (defScope s__law_is_sentence) := ⟨rfl, rfl, rfl, by decide +kernel, rfl, by decide +kernel, by decide +kernel⟩
abbrev s__law_due : Stmt := topS 35
theorem sc__law_due : FnScope ["value", "k", "item"] ["value"] (defScope s__law_due) := ⟨rfl, rfl, rfl, by decide +kernel, rfl, by decide +kernel, by decide +kernel⟩
abbrev s__law_odd : Stmt := topS 36
theorem sc__law_odd : FnScope ["purse", "some"] ["purse"] (defScope s__law_odd) := ⟨rfl, rfl, rfl, by decide +kernel, rfl, by decide +kernel, by decide +kernel⟩
abbrev s__law_bent : Stmt := topS 37
theorem sc__law_bent : FnScope ["purse", "value", "at", "way", "pair"] ["purse", "value"] (defScope s__law_bent) := ⟨rfl, rfl, rfl, by decide +kernel, rfl, by decide +kernel, by decide +kernel⟩
abbrev s__law_drawn : Stmt := topS 38
theorem sc__law_drawn : FnScope ["purse", "names", "words", "found", "turn"] ["purse"] (defScope s__law_drawn) := ⟨rfl, rfl, rfl, by decide +kernel, rfl, by decide +kernel, by decide +kernel⟩
abbrev s_law : Stmt := topS 39
theorem sc_law : FnScope ["script", "at", "purse", "turn", "value", "bend", "held", "due", "told", "names", "one", "other", "line", "name", "long"] ["script"] (defScope s_law) := ⟨rfl, rfl, rfl, by decide +kernel, rfl, by decide +kernel, by decide +kernel⟩
abbrev s_Order_init : Stmt := inClass (topS 10) 0
theorem sc_Order_init : FnScope ["self", "tale", "links", "link", "same", "first", "second", "strict", "_", "moment", "k", "group", "steps"] ["self", "tale"] (defScope s_Order_init) := ⟨rfl, rfl, rfl, by decide +kernel, rfl, by decide +kernel, by decide +kernel⟩
abbrev s_Order_precedes : Stmt := inClass (topS 10) 1
theorem sc_Order_precedes : FnScope ["self", "one", "other"] ["self", "one", "other"] (defScope s_Order_precedes) := ⟨rfl, rfl, rfl, by decide +kernel, rfl, by decide +kernel, by decide +kernel⟩
abbrev s_Order_unrelated : Stmt := inClass (topS 10) 2
theorem sc_Order_unrelated : FnScope ["self", "one", "other"] ["self", "one", "other"] (defScope s_Order_unrelated) := ⟨rfl, rfl, rfl, by decide +kernel, rfl, by decide +kernel, by decide +kernel⟩
abbrev s_Order_is_consistent : Stmt := inClass (topS 10) 3
theorem sc_Order_is_consistent : FnScope ["self", "k"] ["self"] (defScope s_Order_is_consistent) := ⟨rfl, rfl, rfl, by decide +kernel, rfl, by decide +kernel, by decide +kernel⟩
abbrev s_Order_group_number : Stmt := inClass (topS 10) 4
theorem sc_Order_group_number : FnScope ["self", "thing"] ["self", "thing"] (defScope s_Order_group_number) := ⟨rfl, rfl, rfl, by decide +kernel, rfl, by decide +kernel, by decide +kernel⟩
abbrev s_Order_later_numbers : Stmt := inClass (topS 10) 5
theorem sc_Order_later_numbers : FnScope ["self", "number"] ["self", "number"] (defScope s_Order_later_numbers) := ⟨rfl, rfl, rfl, by decide +kernel, rfl, by decide +kernel, by decide +kernel⟩
abbrev s_Order_cover_numbers : Stmt := inClass (topS 10) 6
theorem sc_Order_cover_numbers : FnScope ["self"] ["self"] (defScope s_Order_cover_numbers) := ⟨rfl, rfl, rfl, by decide +kernel, rfl, by decide +kernel, by decide +kernel⟩
abbrev s_Order_component_numbers : Stmt := inClass (topS 10) 7
theorem sc_Order_component_numbers : FnScope ["self"] ["self"] (defScope s_Order_component_numbers) := ⟨rfl, rfl, rfl, by decide +kernel, rfl, by decide +kernel, by decide +kernel⟩
abbrev s_Order_cycle_rank : Stmt := inClass (topS 10) 8
theorem sc_Order_cycle_rank : FnScope ["self"] ["self"] (defScope s_Order_cycle_rank) := ⟨rfl, rfl, rfl, by decide +kernel, rfl, by decide +kernel, by decide +kernel⟩
abbrev s_Order_forced_numbers : Stmt := inClass (topS 10) 9
theorem sc_Order_forced_numbers : FnScope ["self"] ["self"] (defScope s_Order_forced_numbers) := ⟨rfl, rfl, rfl, by decide +kernel, rfl, by decide +kernel, by decide +kernel⟩
abbrev s_Order_before_pairs : Stmt := inClass (topS 10) 10
theorem sc_Order_before_pairs : FnScope ["self", "moments"] ["self", "moments"] (defScope s_Order_before_pairs) := ⟨rfl, rfl, rfl, by decide +kernel, rfl, by decide +kernel, by decide +kernel⟩
abbrev s_Order_next_numbers : Stmt := inClass (topS 10) 11
theorem sc_Order_next_numbers : FnScope ["self", "front"] ["self", "front"] (defScope s_Order_next_numbers) := ⟨rfl, rfl, rfl, by decide +kernel, rfl, by decide +kernel, by decide +kernel⟩
abbrev s_Order_first_numbers : Stmt := inClass (topS 10) 12
theorem sc_Order_first_numbers : FnScope ["self"] ["self"] (defScope s_Order_first_numbers) := ⟨rfl, rfl, rfl, by decide +kernel, rfl, by decide +kernel, by decide +kernel⟩
structure Txt (K : PySem.W.Frag) (mg : Str → Option Value) : Prop where
  m_len : mg "len" = none
  m_max : mg "max" = none
  m_min : mg "min" = none
  m_range : mg "range" = none
  m_enumerate : mg "enumerate" = none
  m_zip : mg "zip" = none
  m_isinstance : mg "isinstance" = none
  m_sorted : mg "sorted" = none
  m_tuple : mg "tuple" = none
  m_list : mg "list" = none
  m_set : mg "set" = none
  m_dict : mg "dict" = none
  m_any : mg "any" = none
  m_all : mg "all" = none
  m_int : mg "int" = none
  m_str : mg "str" = none
  m_sum : mg "sum" = none
  m_abs : mg "abs" = none
  m_bool : mg "bool" = none
def k_MOVING_WORDS : D := .tup [.str "at", .str "then", .str "back"]
def k_FORWARD_WORDS : D := .tup [.str "then", .str "later"]
def k_BACKWARD_WORDS : D := .tup [.str "back", .str "earlier"]
def k_WORDS : D := .tup [.str "at", .str "then", .str "back", .str "later", .str "earlier", .str "with"]
def k_LETTERS : D := .str "abcdefghijklmnopqrstuvwxyz"
def k_LONGEST_NAME : D := .int 8
structure Wds (K : PySem.W.Frag) (mg : Str → Option Value) : Prop where
  g_MOVING_WORDS : GlobD K mg "MOVING_WORDS" k_MOVING_WORDS
  g_FORWARD_WORDS : GlobD K mg "FORWARD_WORDS" k_FORWARD_WORDS
  g_BACKWARD_WORDS : GlobD K mg "BACKWARD_WORDS" k_BACKWARD_WORDS
  g_WORDS : GlobD K mg "WORDS" k_WORDS
  g_LETTERS : GlobD K mg "LETTERS" k_LETTERS
  g_LONGEST_NAME : GlobD K mg "LONGEST_NAME" k_LONGEST_NAME
structure Kls (K : PySem.W.Frag) (mg : Str → Option Value) (C : Nat → Addr) : Prop where
  c : ∀ i, i < 1 → Cls K (C i)
  g_0 : mg "Order" = some (.ref (C 0))
  n_0_groups : NoAttr K (C 0) "groups"
  n_0_number : NoAttr K (C 0) "number"
  n_0_after : NoAttr K (C 0) "after"
end Lw
set_option Elab.async false
set_option linter.all false
set_option maxRecDepth 100000
set_option maxHeartbeats 4000000
/-! a tale as a list of words and moments; where it stands; its links -/
namespace L2
open PySem PySem.Spec PyProof.Rows
abbrev Sen := Str × Str
abbrev Lnk := Str × Str × Bool
def mvW : List V := [.str "at", .str "then", .str "back"]
def fwW : List V := [.str "then", .str "later"]
def bkW : List V := [.str "back", .str "earlier"]
def moving (w : Str) : Bool := inV (.str w) mvW
/-- from p on: where the tale stands behind each sentence -/
def standsL : Str → List Sen → List Str
  | _, [] => []
  | p, s :: r => (if moving s.1 = true then s.2 else p) :: standsL (if moving s.1 = true then s.2 else p) r
/-- what one sentence relates, told at q -/
def linkOf (q : Str) (s : Sen) : List Lnk :=
  if s.1 = "with" then [(q, s.2, false)] else if inV (.str s.1) fwW = true then [(q, s.2, true)] else if inV (.str s.1) bkW = true then [(s.2, q, true)] else []
def linksL : Str → List Sen → List Lnk
  | _, [] => []
  | p, s :: r => linkOf p s ++ linksL (if moving s.1 = true then s.2 else p) r
theorem standsL_length : ∀ (S : List Sen) (p : Str), (standsL p S).length = S.length
  | [], _ => rfl
  | _ :: r, _ => congrArg Nat.succ (standsL_length r _)
theorem standsL_at : ∀ (S : List Sen) (p : Str) (i : Nat) (s : Sen), S[i]? = some s → ∃ q, (p :: standsL p S)[i]? = some q ∧ (standsL p S)[i]? = some (if moving s.1 = true then s.2 else q)
  | s :: r, p, 0, _, h => ⟨p, rfl, by cases h; rfl⟩
  | _ :: r, p, i + 1, s, h => standsL_at r _ i s h
theorem linksL_at : ∀ (S : List Sen) (p q : Str) (i : Nat) (s : Sen), S[i]? = some s → (p :: standsL p S)[i]? = some q → linksL p (S.take (i + 1)) = linksL p (S.take i) ++ linkOf q s
  | s :: r, p, q, 0, _, h, e => by
    cases h
    cases e
    show linkOf p s ++ linksL _ [] = [] ++ linkOf p s
    show linkOf p s ++ [] = _
    rw [List.append_nil, List.nil_append]
  | s0 :: r, p, q, i + 1, s, h, e => by
    show linkOf p s0 ++ linksL _ (r.take (i + 1)) = (linkOf p s0 ++ linksL _ (r.take i)) ++ _
    rw [linksL_at r _ q i s h e, List.append_assoc]
theorem linkOf_le (q : Str) (s : Sen) : (linkOf q s).length ≤ 1 := by
  unfold linkOf
  split
  · exact Nat.le_refl _
  · split
    · exact Nat.le_refl _
    · split
      · exact Nat.le_refl _
      · exact Nat.zero_le _
theorem linksL_le : ∀ (S : List Sen) (p : Str), (linksL p S).length ≤ S.length
  | [], _ => Nat.le_refl _
  | s :: r, p => by
    show (linkOf p s ++ linksL _ r).length ≤ r.length + 1
    rw [List.length_append]
    have := linkOf_le p s
    have := linksL_le r (if moving s.1 = true then s.2 else p)
    omega
/-- two lists, thing by thing -/
inductive All2 {α β : Type} (R : α → β → Prop) : List α → List β → Prop
  | nil : All2 R [] []
  | cons {x : α} {y : β} {xs ys} (h : R x y) (t : All2 R xs ys) : All2 R (x :: xs) (y :: ys)
namespace All2
variable {α β : Type} {R R' : α → β → Prop} {xs xs' : List α} {ys ys' : List β}
theorem length : ∀ {xs : List α} {ys : List β}, All2 R xs ys → xs.length = ys.length
  | _, _, .nil => rfl
  | _, _, .cons _ t => congrArg Nat.succ t.length
theorem imp (f : ∀ x y, R x y → R' x y) : ∀ {xs : List α} {ys : List β}, All2 R xs ys → All2 R' xs ys
  | _, _, .nil => .nil
  | _, _, .cons h t => .cons (f _ _ h) (t.imp f)
theorem append : ∀ {xs xs' : List α} {ys ys' : List β}, All2 R xs ys → All2 R xs' ys' → All2 R (xs ++ xs') (ys ++ ys')
  | _, _, _, _, .nil, b => b
  | _, _, _, _, .cons h t, b => .cons h (t.append b)
theorem get : ∀ {xs ys} {i : Nat} {x : α}, All2 R xs ys → xs[i]? = some x → ∃ y, ys[i]? = some y ∧ R x y
  | _, _, 0, _, .cons h _, e => ⟨_, rfl, by cases e; exact h⟩
  | _, _, i + 1, _, .cons _ t, e => t.get (i := i) e
theorem get' : ∀ {xs ys} {i : Nat} {y : β}, All2 R xs ys → ys[i]? = some y → ∃ x, xs[i]? = some x ∧ R x y
  | _, _, 0, _, .cons h _, e => ⟨_, rfl, by cases e; exact h⟩
  | _, _, i + 1, _, .cons _ t, e => t.get' (i := i) e
end All2
/-- x is a tuple of a word and a moment -/
def SenAt (K : PySem.W.Frag) (H : Hp) (x : V) (s : Sen) : Prop := ∃ t, x = .ref t ∧ SqT K H t [.str s.1, .str s.2]
def TaleAt (K : PySem.W.Frag) (H : Hp) (a : Addr) (S : List Sen) : Prop := ∃ xs, SqT K H a xs ∧ All2 (SenAt K H) xs S
theorem SenAt.same {K : PySem.W.Frag} {H H' : Hp} {x : V} {s : Sen} (e : Same H H') (h : SenAt K H x s) : SenAt K H' x s := by
  obtain ⟨t, rfl, h⟩ := h
  exact ⟨t, rfl, e.seqT h⟩
theorem TaleAt.same {K : PySem.W.Frag} {H H' : Hp} {a : Addr} {S : List Sen} (e : Same H H') (h : TaleAt K H a S) : TaleAt K H' a S := by
  obtain ⟨xs, q, r⟩ := h
  exact ⟨xs, e.seqT q, r.imp fun _ _ => SenAt.same e⟩
/-- x is a link's own tuple -/
def LnkAt (H : Hp) (x : V) (l : Lnk) : Prop := ∃ t, x = .ref t ∧ H t = some (.tup [.str l.1, .str l.2.1, .bl l.2.2])
def LinksAt (H : Hp) (p : Addr) (L : List Lnk) : Prop := ∃ xs, H p = some (.lst xs) ∧ All2 (LnkAt H) xs L
theorem LnkAt.same {H H' : Hp} {x : V} {l : Lnk} (e : Same H H') (h : LnkAt H x l) : LnkAt H' x l := by
  obtain ⟨t, rfl, h⟩ := h
  exact ⟨t, rfl, e _ _ h⟩
theorem LinksAt.same {H H' : Hp} {p : Addr} {L : List Lnk} (e : Same H H') (h : LinksAt H p L) : LinksAt H' p L := by
  obtain ⟨xs, q, r⟩ := h
  exact ⟨xs, e _ _ q, r.imp fun _ _ => LnkAt.same e⟩
theorem Same.fresh {H H' : Hp} {p : Addr} {o : HO} (e : Same H H') (h : H p = none) : Same H (upd H' p o) := fun b x q => by
  rw [upd_ne (ne_of_none q h)]
  exact e _ _ q
/-- a tale begins with a word that moves -/
def Begins (S : List Sen) : Prop := ∀ s, S[0]? = some s → moving s.1 = true
end L2
set_option Elab.async false
set_option linter.all false
set_option maxRecDepth 100000
/-! a walk over a list or a tuple, whichever it is -/
namespace L2
open PySem PySem.Spec PyProof.Rows
def SideQ (K : PySem.W.Frag) (H : Hp) (a : Addr) (J : It) : Prop := (J = Itl K a ∧ ∃ xs, SqL K H a xs) ∨ (J = Itt K a ∧ ∃ xs, SqT K H a xs)
def iSeq (K : PySem.W.Frag) (tl : TE) : TI := fun σ H R => tl σ H fun x H1 => ∃ a J, x = .ref a ∧ SideQ K H1 a J ∧ R J H1
theorem pi_seq {X : Cx} {tg l : Expr} {tl : TE} (hl : PE X l tl) : PI X tg l (iSeq X.K tl) := by
  refine ⟨fun pins s σ H R I h => ?_⟩
  refine thn (hl.run pins s σ H _ I h) fun v s1 ⟨x, H1, I1, r1, a, J, e, side, q⟩ => ?_
  subst e
  cases r1
  have fresh : ∀ b ∈ [s1.heap.objs.size], FpOk X pins H1 b := fun b hb => by
    cases List.mem_singleton.mp hb
    exact I1.fpOk (Nat.le_refl _) (I1.hok.fresh (Nat.le_refl _))
  have new : ∀ {o : Obj} {b : Addr} {u : Obj}, s1.heap.get? b = some u → (s1.heap.push o).get? b = some u := fun e => Heap.get?_push_of_some _ e
  rcases side with ⟨rfl, xs, hq⟩ | ⟨rfl, xs, hq⟩
  · obtain ⟨us, _, p, _⟩ := I1.list hq
    refine wpAny_pyIter_list p.isList ?_
    exact ⟨s1.heap.objs.size, [s1.heap.objs.size], _, _, H1, rfl, I1.kept (t' := s1.toks) fun b o e => new e, turn_list a _, ⟨_, Heap.get?_push_size _ rfl, rfl, rfl⟩, fresh, q⟩
  · obtain ⟨us, _, p, _⟩ := I1.tuple hq
    refine wpAny_pyIter_tuple (show s1.heap.IsTuple a us.toArray from p) ?_
    exact ⟨s1.heap.objs.size, [s1.heap.objs.size], _, _, H1, rfl, I1.kept (t' := s1.toks) fun b o e => new e, turn_tuple a _, ⟨_, Heap.get?_push_size _ rfl, rfl, rfl⟩, fresh, q⟩
theorem seq_walk {K : PySem.W.Frag} {H : Hp} {a : Addr} {xs : List V} (h : SqL K H a xs ∨ SqT K H a xs) : ∃ (J : It) (G : Hp → Prop), Walk J xs.length G (YAt xs) ∧ (∀ H', Same H H' → G H' ∧ SideQ K H' a J) := by
  rcases h with h | h
  · exact ⟨_, _, walk_list, fun H' s => ⟨s.seq h, .inl ⟨rfl, xs, s.seq h⟩⟩⟩
  · exact ⟨_, _, walk_tup, fun H' s => ⟨s.seqT h, .inr ⟨rfl, xs, s.seqT h⟩⟩⟩
/-- a list or a tuple of sentences -/
def TaleQ (K : PySem.W.Frag) (H : Hp) (a : Addr) (S : List Sen) : Prop := ∃ xs, (SqL K H a xs ∨ SqT K H a xs) ∧ All2 (SenAt K H) xs S
theorem TaleQ.same {K : PySem.W.Frag} {H H' : Hp} {a : Addr} {S : List Sen} (e : Same H H') (h : TaleQ K H a S) : TaleQ K H' a S := by
  obtain ⟨xs, q, r⟩ := h
  exact ⟨xs, q.elim (fun q => .inl (e.seq q)) fun q => .inr (e.seqT q), r.imp fun _ _ => SenAt.same e⟩
/-- the law's links: none for a sentence that relates nothing -/
def optOf (q : Str) (s : Sen) : Option Lnk := (linkOf q s)[0]?
def lawLinks : Str → List Sen → List (Option Lnk)
  | _, [] => []
  | p, s :: r => optOf p s :: lawLinks (if moving s.1 = true then s.2 else p) r
theorem optOf_list (q : Str) (s : Sen) : (optOf q s).toList = linkOf q s := by
  have h := linkOf_le q s
  unfold optOf
  match linkOf q s, h with
  | [], _ => rfl
  | [l], _ => rfl
  | _ :: _ :: _, h => exact absurd h (by simp)
theorem lawLinks_some : ∀ (S : List Sen) (p : Str), (lawLinks p S).filterMap id = linksL p S
  | [], _ => rfl
  | s :: r, p => by
    show (optOf p s :: lawLinks _ r).filterMap id = linkOf p s ++ linksL _ r
    rw [← lawLinks_some r, ← optOf_list]
    cases h : optOf p s with
    | none => rfl
    | some l => rfl
theorem lawLinks_at : ∀ (S : List Sen) (p q : Str) (i : Nat) (s : Sen), S[i]? = some s → (p :: standsL p S)[i]? = some q → (lawLinks p S)[i]? = some (optOf q s)
  | s :: r, p, q, 0, _, h, e => by
    cases h
    cases e
    rfl
  | _ :: r, p, q, i + 1, s, h, e => lawLinks_at r _ q i s h e
theorem lawLinks_length : ∀ (S : List Sen) (p : Str), (lawLinks p S).length = S.length
  | [], _ => rfl
  | _ :: r, _ => congrArg Nat.succ (lawLinks_length r _)
def LnkO (H : Hp) (x : V) : Option Lnk → Prop
  | none => x = .non
  | some l => LnkAt H x l
theorem LnkO.same {H H' : Hp} {x : V} {l : Option Lnk} (e : Same H H') (h : LnkO H x l) : LnkO H' x l := by
  cases l with
  | none => exact h
  | some l => exact LnkAt.same e h
def LinksO (H : Hp) (p : Addr) (L : List (Option Lnk)) : Prop := ∃ xs, H p = some (.lst xs) ∧ All2 (LnkO H) xs L
theorem LinksO.same {H H' : Hp} {p : Addr} {L : List (Option Lnk)} (e : Same H H') (h : LinksO H p L) : LinksO H' p L := by
  obtain ⟨xs, q, r⟩ := h
  exact ⟨xs, e _ _ q, r.imp fun _ _ => LnkO.same e⟩
end L2
set_option Elab.async false
set_option linter.all false
set_option maxRecDepth 100000
/-! d.update(e), two dicts -/
namespace L2
open PySem PySem.Spec PyProof.Rows
theorem mergeK_length : ∀ (ls ks : List (Key × V)), (mergeK ks ls).length ≤ ks.length + ls.length
  | [], ks => Nat.le_refl _
  | l :: r, ks => by
    have h1 := mergeK_length r (putK ks l.1 l.2)
    have h2 := length_putK ks l.1 l.2
    show (mergeK (putK ks l.1 l.2) r).length ≤ ks.length + (r.length + 1)
    omega
theorem upd_self {P : Program} {w : World} {κ : Type} [DecidableEq κ] (knd : KeyKind P w κ) (d : Addr) :
    MeetsIn P w (Builtin.«dict.update» ⟨[.ref d, .ref d], []⟩) (fun _ R s => (∃ kvs, s.heap.DictOf knd d kvs) ∧ R (.ok (.ret .none)) s) :=
  .of_wp fun A R s ⟨⟨kvs, hd⟩, h⟩ => by
    unfold Builtin.«dict.update»
    refine wpAny_bind ?_
    unfold Builtin.Dict.selfAndRest
    refine wpAny_bind (wpAny_notOrdered_dict hd.typeIs ?_)
    show wpAny _ _ (pure (d, [Value.ref d])) _ _ s
    refine wpAny_pure ?_
    show wpAny _ _ (Builtin.Dict.updateFrom "dict.update" d (.ref d) [] .none) _ _ s
    unfold Builtin.Dict.updateFrom
    refine wpAny_bind (wpAny_typeOf hd.typeIs ?_)
    rw [if_neg (by decide)]
    refine wpAny_bind ?_
    unfold Builtin.Dict.merge
    refine wpAny_bind ?_
    unfold Builtin.Dict.readDirectly
    refine wpAny_bind (wpAny_isInstance hd.typeIs isSubtype_dict_dict ?_)
    simp only [Bool.not_true, Bool.false_eq_true, if_false]
    refine wpAny_bind (wpAny_specialOf hd.typeIs F.slot_dict_iter.lookup (wpAny_pure ?_))
    simp only [beq_self_eq_true, if_true]
    refine wpAny_bind (wpAny_pure ?_)
    show wpAny _ _ (Builtin.Dict.mergeDict "dict.update" d d) _ _ _
    unfold Builtin.Dict.mergeDict
    simp only [beq_self_eq_true, if_true]
    refine wpAny_bind (wpAny_rule (wpAny_pure ?_))
    show wpAny _ _ (Builtin.Dict.addKeywords d [] >>= _) _ _ _
    exact wpAny_bind (wpAny_pure (wpAny_pure ⟨.none, rfl, h⟩))
/-- the same dict's own update changes nothing -/
def rUpdS : V → List V → Hp → VK → Prop := fun x vs H Q => ∃ a b ks ls, x = .ref a ∧ vs = [.ref b] ∧ H a = some (.dK ks) ∧ Rd H b (.dK ls) ∧ ks.length + ls.length ≤ sizeLine ∧ (a = b → Q .non H) ∧ (a ≠ b → Q .non (upd H a (.dK (mergeK ks ls))))
/-- d.update(e), d and e two dicts of ints and texts -/
def rUpd : V → List V → Hp → VK → Prop := fun x vs H Q => ∃ a b ks ls, x = .ref a ∧ vs = [.ref b] ∧ H a = some (.dK ks) ∧ Rd H b (.dK ls) ∧ a ≠ b ∧ ks.length + ls.length ≤ sizeLine ∧ Q .non (upd H a (.dK (mergeK ks ls)))
theorem mt_update {X : Cx} : MtM X "dict.update" rUpd := by
  rintro pins s σ H x vs v us Q I rx rv ⟨a, b, ks, ls, rfl, rfl, hA, hB, ne, hz, q⟩
  cases rx
  obtain ⟨u, rfl, ru⟩ := rv.one
  cases ru
  obtain ⟨_, ya, va, ra, da⟩ := dk_of I.hok hA
  obtain ⟨_, yb, vb, rb, db⟩ := dk_rd I.hok hB
  have hzv : va.length + vb.length ≤ sizeLine := by rw [← ra.length, ← rb.length]; exact hz
  have lm := mergeK_length ls ks
  have fin : ∀ h', h'.DictOf (mixKind X.prog X.w) a (merged va vb) → h'.DictOf (mixKind X.prog X.w) b vb → Heap.SameBut a s.heap h' → EP X pins σ Q .none { s with heap := h' } := fun h' d1 _ sb => by
    have he : ∃ o, h'.get? a = some o := let ⟨o, _, _, ho, _⟩ := d1; ⟨o, ho⟩
    exact ⟨.non, _, d_write (t' := s.toks) I (by rw [hA]; exact True.intro) sb he (dk_new (by omega) ya (KV.merge rb ra) d1), rfl, q⟩
  exact call_meetsIn F.slot_dict_update da.typeIs F.entry_dict_update (F.args_dict_update_2 _ _) (meets_dict_update (mixKind X.prog X.w) a b ne yb) ⟨va, vb, da, db, hzv, fin⟩
theorem mt_updateS {X : Cx} : MtM X "dict.update" rUpdS := by
  rintro pins s σ H x vs v us Q I rx rv ⟨a, b, ks, ls, rfl, rfl, hA, hB, hz, q1, q2⟩
  by_cases e : a = b
  · subst e
    cases rx
    obtain ⟨u, rfl, ru⟩ := rv.one
    cases ru
    obtain ⟨_, ya, va, ra, da⟩ := dk_of I.hok hA
    exact call_meetsIn F.slot_dict_update da.typeIs F.entry_dict_update (F.args_dict_update_2 _ _) (upd_self (mixKind X.prog X.w) a) ⟨⟨va, da⟩, .non, H, I, rfl, q1 rfl⟩
  · exact mt_update pins s σ H _ _ v us Q I rx rv ⟨a, b, ks, ls, rfl, rfl, hA, hB, e, hz, q2 e⟩
end L2
set_option Elab.async false
set_option linter.all false
/-! what dict(list of pairs) holds -/
namespace L2
open PySem PySem.Spec PyProof.Rows
open Classical in
theorem putK_keys (kvs : List (Key × V)) (k : Key) (v : V) : (putK kvs k v).map (·.1) = if k ∈ kvs.map (·.1) then kvs.map (·.1) else kvs.map (·.1) ++ [k] := by
  have e : (kvs.any fun e => decide (e.1 = k)) = true ↔ k ∈ kvs.map (·.1) := by
    rw [List.any_eq_true, List.mem_map]
    exact ⟨fun ⟨x, h, g⟩ => ⟨x, h, of_decide_eq_true g⟩, fun ⟨x, h, g⟩ => ⟨x, h, decide_eq_true g⟩⟩
  unfold putK
  by_cases h : k ∈ kvs.map (·.1)
  · rw [if_pos (e.mpr h), if_pos h, List.map_map]
    refine List.map_congr_left fun x _ => ?_
    show (if x.1 = k then (x.1, v) else x).1 = x.1
    split <;> rfl
  · rw [if_neg (fun z => h (e.mp z)), if_neg h, List.map_append]
    rfl
theorem mergeK_cons (acc : List (Key × V)) (e : Key × V) (r : List (Key × V)) : mergeK acc (e :: r) = mergeK (putK acc e.1 e.2) r := rfl
/-- a key that is not told stays what it was -/
theorem merge_out {k : Key} : ∀ (ls acc : List (Key × V)), k ∉ ls.map (·.1) → valV (mergeK acc ls) k = valV acc k
  | [], _, _ => rfl
  | e :: r, acc, h => by
    rw [List.map_cons, List.mem_cons, not_or] at h
    rw [mergeK_cons, merge_out r _ h.2, valV_put, if_neg h.1]
/-- a key that is told has one of its values -/
theorem merge_in {k : Key} : ∀ (ls acc : List (Key × V)), k ∈ ls.map (·.1) → ∃ v, (k, v) ∈ ls ∧ valV (mergeK acc ls) k = some v
  | e :: r, acc, h => by
    rw [mergeK_cons]
    by_cases c : k ∈ r.map (·.1)
    · obtain ⟨v, hv, q⟩ := merge_in r (putK acc e.1 e.2) c
      exact ⟨v, List.mem_cons_of_mem _ hv, q⟩
    · rw [List.map_cons, List.mem_cons] at h
      have ek : k = e.1 := h.resolve_right c
      refine ⟨e.2, by rw [ek]; exact List.mem_cons_self, ?_⟩
      rw [merge_out r _ c, valV_put, if_pos ek]
/-- one value a key: that one -/
theorem merge_fun {k : Key} {v : V} {ls acc : List (Key × V)} (f : ∀ e ∈ ls, e.1 = k → e.2 = v) (h : k ∈ ls.map (·.1)) : valV (mergeK acc ls) k = some v := by
  obtain ⟨u, hu, q⟩ := merge_in ls acc h
  have e : u = v := f (k, u) hu rfl
  rw [q, e]
theorem merge_keys_nodup : ∀ (ls acc : List (Key × V)), (acc.map (·.1)).Nodup → ((mergeK acc ls).map (·.1)).Nodup
  | [], _, h => h
  | e :: r, acc, h => by
    rw [mergeK_cons]
    refine merge_keys_nodup r _ ?_
    rw [putK_keys]
    split
    · exact h
    · rename_i c
      refine List.nodup_append.mpr ⟨h, List.nodup_cons.mpr ⟨List.not_mem_nil, List.nodup_nil⟩, fun a ha b hb z => ?_⟩
      cases List.mem_singleton.mp hb
      exact c (z ▸ ha)
theorem merge_keys_mem {k : Key} : ∀ (ls acc : List (Key × V)), k ∈ (mergeK acc ls).map (·.1) ↔ k ∈ acc.map (·.1) ∨ k ∈ ls.map (·.1)
  | [], acc => by
    show k ∈ acc.map (·.1) ↔ _
    simp
  | e :: r, acc => by
    rw [mergeK_cons, merge_keys_mem r, putK_keys, List.map_cons, List.mem_cons]
    split
    · rename_i c
      constructor
      · rintro (h | h)
        · exact .inl h
        · exact .inr (.inr h)
      · rintro (h | rfl | h)
        · exact .inl h
        · exact .inl c
        · exact .inr h
    · rw [List.mem_append, List.mem_singleton]
      constructor
      · rintro ((h | h) | h)
        · exact .inl h
        · exact .inr (.inl h)
        · exact .inr (.inr h)
      · rintro (h | h | h)
        · exact .inl (.inl h)
        · exact .inl (.inr h)
        · exact .inr h
/-- a key is there exactly where it has a value -/
theorem key_val {kvs : List (Key × V)} {k : Key} : (∃ v, valV kvs k = some v) ↔ k ∈ kvs.map (·.1) := by
  rw [← Option.isSome_iff_exists, ← valV_any, List.any_eq_true, List.mem_map]
  exact ⟨fun ⟨x, h, g⟩ => ⟨x, h, of_decide_eq_true g⟩, fun ⟨x, h, g⟩ => ⟨x, h, decide_eq_true g⟩⟩
end L2
set_option Elab.async false
set_option linter.all false
set_option maxRecDepth 100000
set_option maxHeartbeats 4000000
/-! parts joined by pairs: the classes of what pairs lead to -/
namespace L2
open PySem PySem.Spec PyProof.Rows
inductive Conn (E : List (Str × Str)) : Str → Str → Prop
  | refl (x : Str) : Conn E x x
  | edge {x y : Str} (h : (x, y) ∈ E) : Conn E x y
  | symm {x y : Str} (h : Conn E x y) : Conn E y x
  | trans {x y z : Str} (h : Conn E x y) (g : Conn E y z) : Conn E x z
theorem Conn.mono {E E' : List (Str × Str)} (s : ∀ p ∈ E, p ∈ E') {x y : Str} (h : Conn E x y) : Conn E' x y := by
  induction h with
  | refl x => exact .refl x
  | edge h => exact .edge (s _ h)
  | symm _ ih => exact ih.symm
  | trans _ _ i1 i2 => exact i1.trans i2
theorem Conn.nil {x y : Str} (h : Conn [] x y) : x = y := by
  induction h with
  | refl x => rfl
  | edge h => cases h
  | symm _ ih => exact ih.symm
  | trans _ _ i1 i2 => exact i1.trans i2
theorem Conn.more {E : List (Str × Str)} {a b x y : Str} (h : Conn (E ++ [(a, b)]) x y) : Conn E x y ∨ ((Conn E a x ∨ Conn E b x) ∧ (Conn E a y ∨ Conn E b y)) := by
  induction h with
  | refl x => exact .inl (.refl x)
  | edge h =>
    rcases List.mem_append.mp h with h | h
    · exact .inl (.edge h)
    · cases List.mem_singleton.mp h
      exact .inr ⟨.inl (.refl _), .inr (.refl _)⟩
  | symm _ ih =>
    rcases ih with h | ⟨h, g⟩
    · exact .inl h.symm
    · exact .inr ⟨g, h⟩
  | trans _ _ i1 i2 =>
    rcases i1 with h | ⟨h, g⟩
    · rcases i2 with h2 | ⟨h2, g2⟩
      · exact .inl (h.trans h2)
      · refine .inr ⟨?_, g2⟩
        rcases h2 with h2 | h2
        · exact .inl (h2.trans h.symm)
        · exact .inr (h2.trans h.symm)
    · rcases i2 with h2 | ⟨h2, g2⟩
      · refine .inr ⟨h, ?_⟩
        rcases g with g | g
        · exact .inl (g.trans h2)
        · exact .inr (g.trans h2)
      · exact .inr ⟨h, g2⟩
theorem Conn.less {E : List (Str × Str)} {a b x y : Str} (h : Conn E x y ∨ ((Conn E a x ∨ Conn E b x) ∧ (Conn E a y ∨ Conn E b y))) : Conn (E ++ [(a, b)]) x y := by
  have up : ∀ {x y}, Conn E x y → Conn (E ++ [(a, b)]) x y := fun h => h.mono fun p hp => List.mem_append_left _ hp
  have ab : Conn (E ++ [(a, b)]) a b := .edge (List.mem_append_right _ (List.mem_singleton.mpr rfl))
  rcases h with h | ⟨h, g⟩
  · exact up h
  · have fx : Conn (E ++ [(a, b)]) a x := by
      rcases h with h | h
      · exact up h
      · exact ab.trans (up h)
    have fy : Conn (E ++ [(a, b)]) a y := by
      rcases g with h | h
      · exact up h
      · exact ab.trans (up h)
    exact fx.symm.trans fy
abbrev PM := List (Str × List Str)
def getP (P : PM) (k : Str) : Option (List Str) := (P.find? fun e => decide (e.1 = k)).map (·.2)
def putP (P : PM) (k : Str) (L : List Str) : PM := if (P.any fun e => decide (e.1 = k)) = true then P.map (fun e => if e.1 = k then (e.1, L) else e) else P ++ [(k, L)]
def putAll (P : PM) (ks : List Str) (L : List Str) : PM := ks.foldl (fun P t => putP P t L) P
def startP (ts : List Str) : PM := ts.foldl (fun P t => putP P t [t]) []
def mergeP (P : PM) (a b : Str) : PM := if b ∈ (getP P a).getD [] then P else putAll P ((getP P a).getD [] ++ (getP P b).getD []) ((getP P a).getD [] ++ (getP P b).getD [])
def joinP (ts : List Str) (E : List (Str × Str)) : PM := E.foldl (fun P e => mergeP P e.1 e.2) (startP ts)
theorem getP_pos {p : Str × List Str} {r : PM} {k : Str} (e : p.1 = k) : getP (p :: r) k = some p.2 := by simp [getP, List.find?_cons, e]
theorem getP_neg {p : Str × List Str} {r : PM} {k : Str} (e : ¬ p.1 = k) : getP (p :: r) k = getP r k := by simp [getP, List.find?_cons, e]
theorem getP_any (k : Str) : ∀ P : PM, (P.any fun e => decide (e.1 = k)) = (getP P k).isSome
  | [] => rfl
  | p :: r => by
    rw [List.any_cons]
    by_cases e : p.1 = k
    · rw [getP_pos e, decide_eq_true e]
      rfl
    · rw [getP_neg e, decide_eq_false e, getP_any k r]
      rfl
theorem getP_map (k j : Str) (L : List Str) : ∀ P : PM, getP (P.map fun e => if e.1 = k then (e.1, L) else e) j = (getP P j).map fun x => if j = k then L else x
  | [] => rfl
  | p :: r => by
    rw [List.map_cons]
    by_cases e : p.1 = j
    · rw [getP_pos (p := p) e]
      by_cases h : p.1 = k
      · rw [if_pos h, getP_pos (p := (p.1, L)) e, Option.map_some, if_pos (e.symm.trans h)]
      · rw [if_neg h, getP_pos (p := p) e, Option.map_some, if_neg fun z => h (e.trans z)]
    · rw [getP_neg (p := p) e, ← getP_map k j L r]
      by_cases h : p.1 = k
      · rw [if_pos h, getP_neg (p := (p.1, L)) e]
      · rw [if_neg h, getP_neg (p := p) e]
theorem getP_app (k j : Str) (L : List Str) : ∀ P : PM, getP P k = none → getP (P ++ [(k, L)]) j = if j = k then some L else getP P j
  | [], _ => by
    by_cases e : j = k
    · rw [if_pos e]
      exact getP_pos (p := (k, L)) e.symm
    · rw [if_neg e]
      exact getP_neg (p := (k, L)) fun z => e z.symm
  | p :: r, hn => by
    have hk : ¬ p.1 = k := fun z => by
      rw [getP_pos z] at hn
      cases hn
    rw [getP_neg hk] at hn
    rw [List.cons_append]
    by_cases e : p.1 = j
    · rw [getP_pos e, getP_pos e, if_neg fun z => hk (e.trans z)]
    · rw [getP_neg e, getP_neg e, getP_app k j L r hn]
theorem getP_put (P : PM) (k j : Str) (L : List Str) : getP (putP P k L) j = if j = k then some L else getP P j := by
  unfold putP
  rw [getP_any]
  by_cases h : (getP P k).isSome = true
  · rw [if_pos h, getP_map]
    by_cases e : j = k
    · subst e
      rw [if_pos rfl]
      cases g : getP P j with
      | none => rw [g] at h; cases h
      | some x => rw [Option.map_some, if_pos rfl]
    · rw [if_neg e]
      cases getP P j with
      | none => rfl
      | some x => rw [Option.map_some, if_neg e]
  · rw [if_neg h]
    exact getP_app k j L P (Option.not_isSome_iff_eq_none.mp h)
theorem getP_all (L : List Str) (j : Str) : ∀ (ks : List Str) (P : PM), getP (putAll P ks L) j = if j ∈ ks then some L else getP P j
  | [], P => by
    rw [if_neg List.not_mem_nil]
    rfl
  | k :: r, P => by
    show getP (putAll (putP P k L) r L) j = _
    rw [getP_all L j r, getP_put]
    by_cases h : j ∈ r
    · rw [if_pos h, if_pos (List.mem_cons_of_mem _ h)]
    · rw [if_neg h]
      by_cases e : j = k
      · rw [if_pos e, if_pos (e ▸ List.mem_cons_self)]
      · rw [if_neg e, if_neg fun z => (List.mem_cons.mp z).elim e h]
theorem getP_start (j : Str) : ∀ (ts : List Str) (P : PM), getP (ts.foldl (fun P t => putP P t [t]) P) j = if j ∈ ts then some [j] else getP P j
  | [], P => by
    rw [if_neg List.not_mem_nil]
    rfl
  | t :: r, P => by
    rw [List.foldl_cons, getP_start j r, getP_put]
    by_cases h : j ∈ r
    · rw [if_pos h, if_pos (List.mem_cons_of_mem _ h)]
    · rw [if_neg h]
      by_cases e : j = t
      · rw [if_pos e, if_pos (e ▸ List.mem_cons_self), e]
      · rw [if_neg e, if_neg fun z => (List.mem_cons.mp z).elim e h]
/-- every key has its class -/
structure Good (P : PM) (ts : List Str) (E : List (Str × Str)) : Prop where
  dom : ∀ x, (getP P x).isSome = true ↔ x ∈ ts
  cls : ∀ x L, getP P x = some L → L.Nodup ∧ (∀ y, y ∈ L ↔ Conn E x y)
  one : ∀ x L y, getP P x = some L → y ∈ L → getP P y = some L
theorem good_start (ts : List Str) : Good (startP ts) ts [] := by
  have g : ∀ j, getP (startP ts) j = if j ∈ ts then some [j] else none := fun j => getP_start j ts []
  refine ⟨fun x => ?_, fun x L h => ?_, fun x L y h hy => ?_⟩
  · rw [g]
    by_cases h : x ∈ ts
    · rw [if_pos h]
      exact ⟨fun _ => h, fun _ => rfl⟩
    · rw [if_neg h]
      exact ⟨fun z => (nomatch z), fun z => absurd z h⟩
  · rw [g] at h
    by_cases hx : x ∈ ts
    · rw [if_pos hx] at h
      cases h
      refine ⟨List.nodup_cons.mpr ⟨List.not_mem_nil, List.nodup_nil⟩, fun y => Iff.intro (fun hy => ?_) (fun c => ?_)⟩
      · rw [List.mem_singleton.mp hy]
        exact .refl x
      · rw [c.nil]
        exact List.mem_singleton.mpr rfl
    · rw [if_neg hx] at h
      cases h
  · rw [g] at h
    by_cases hx : x ∈ ts
    · rw [if_pos hx] at h
      cases h
      cases List.mem_singleton.mp hy
      rw [g, if_pos hx]
    · rw [if_neg hx] at h
      cases h
theorem Good.merge {P : PM} {ts : List Str} {E : List (Str × Str)} (G : Good P ts E) {a b : Str} (ha : a ∈ ts) (hb : b ∈ ts) : Good (mergeP P a b) ts (E ++ [(a, b)]) := by
  obtain ⟨A, eA⟩ := Option.isSome_iff_exists.mp ((G.dom a).mpr ha)
  obtain ⟨B, eB⟩ := Option.isSome_iff_exists.mp ((G.dom b).mpr hb)
  obtain ⟨nA, cA⟩ := G.cls a A eA
  obtain ⟨nB, cB⟩ := G.cls b B eB
  unfold mergeP
  rw [eA, eB]
  show Good (if b ∈ A then P else putAll P (A ++ B) (A ++ B)) ts _
  by_cases h : b ∈ A
  · rw [if_pos h]
    have ab : Conn E a b := (cA b).mp h
    refine ⟨G.dom, fun x L e => ⟨(G.cls x L e).1, fun y => ?_⟩, G.one⟩
    rw [(G.cls x L e).2 y]
    refine ⟨fun c => .less (.inl c), fun c => ?_⟩
    rcases c.more with c | ⟨c1, c2⟩
    · exact c
    · have f1 : Conn E a x := c1.elim id fun c => ab.trans c
      have f2 : Conn E a y := c2.elim id fun c => ab.trans c
      exact f1.symm.trans f2
  · rw [if_neg h]
    have g : ∀ j, getP (putAll P (A ++ B) (A ++ B)) j = if j ∈ A ++ B then some (A ++ B) else getP P j := fun j => getP_all _ j _ P
    have inA : ∀ x ∈ A, x ∈ ts := fun x hx => (G.dom x).mp (by rw [G.one a A x eA hx]; rfl)
    have inB : ∀ x ∈ B, x ∈ ts := fun x hx => (G.dom x).mp (by rw [G.one b B x eB hx]; rfl)
    have dis : ∀ x ∈ A, ∀ y ∈ B, x ≠ y := fun x hx y hy e => by
      subst e
      have e1 := G.one a A x eA hx
      rw [G.one b B x eB hy] at e1
      cases e1
      exact h ((cB b).mpr (.refl b))
    have nAB : (A ++ B).Nodup := List.nodup_append.mpr ⟨nA, nB, dis⟩
    have mem : ∀ y, y ∈ A ++ B ↔ (Conn E a y ∨ Conn E b y) := fun y => by rw [List.mem_append, cA, cB]
    refine ⟨fun x => ?_, fun x L e => ?_, fun x L y e hy => ?_⟩
    · rw [g]
      by_cases hx : x ∈ A ++ B
      · rw [if_pos hx]
        exact ⟨fun _ => (List.mem_append.mp hx).elim (inA x) (inB x), fun _ => rfl⟩
      · rw [if_neg hx]
        exact G.dom x
    · rw [g] at e
      by_cases hx : x ∈ A ++ B
      · rw [if_pos hx] at e
        cases e
        refine ⟨nAB, fun y => ⟨fun hy => .less (.inr ⟨(mem x).mp hx, (mem y).mp hy⟩), fun c => ?_⟩⟩
        rcases c.more with c | ⟨_, c2⟩
        · exact (mem y).mpr (((mem x).mp hx).elim (fun z => .inl (z.trans c)) fun z => .inr (z.trans c))
        · exact (mem y).mpr c2
      · rw [if_neg hx] at e
        refine ⟨(G.cls x L e).1, fun y => ?_⟩
        rw [(G.cls x L e).2 y]
        refine ⟨fun c => .less (.inl c), fun c => ?_⟩
        rcases c.more with c | ⟨c1, _⟩
        · exact c
        · exact absurd ((mem x).mpr c1) hx
    · rw [g] at e ⊢
      by_cases hx : x ∈ A ++ B
      · rw [if_pos hx] at e
        cases e
        rw [if_pos hy]
      · rw [if_neg hx] at e
        have hy2 : y ∉ A ++ B := fun z => hx ((mem x).mpr (((mem y).mp z).elim (fun c => .inl (c.trans ((G.cls x L e).2 y |>.mp hy).symm)) fun c => .inr (c.trans ((G.cls x L e).2 y |>.mp hy).symm)))
        rw [if_neg hy2]
        exact G.one x L y e hy
theorem good_fold {ts : List Str} : ∀ (E E0 : List (Str × Str)) (P : PM), Good P ts E0 → (∀ e ∈ E, e.1 ∈ ts ∧ e.2 ∈ ts) → Good (E.foldl (fun P e => mergeP P e.1 e.2) P) ts (E0 ++ E)
  | [], E0, P, G, _ => by
    rw [List.append_nil]
    exact G
  | e :: r, E0, P, G, h => by
    obtain ⟨h1, h2⟩ := h e (List.mem_cons_self ..)
    have g := good_fold r (E0 ++ [e]) (mergeP P e.1 e.2) (G.merge h1 h2) fun e' he => h e' (List.mem_cons_of_mem _ he)
    rw [List.append_assoc] at g
    exact g
theorem good_join {ts : List Str} {E : List (Str × Str)} (h : ∀ e ∈ E, e.1 ∈ ts ∧ e.2 ∈ ts) : Good (joinP ts E) ts E := by
  have g := good_fold E [] (startP ts) (good_start ts) h
  exact g
end L2
set_option Elab.async false
set_option linter.all false
set_option maxRecDepth 100000
set_option maxHeartbeats 4000000
/-! links, groups, steps: what is told of them without a heap -/
namespace L2
open PySem PySem.Spec PyProof.Rows
def natsV (ms : List Nat) : List V := ms.map fun n : Nat => V.int (n : Int)
/-- one round: who leads to the middle leads to where the middle leads -/
def closeRound (j : Nat) (ms : List Nat) : List Nat := ms.map fun m => if m.testBit j = true then m ||| ms.getD j 0 else m
def closeN : Nat → List Nat → List Nat
  | 0, ms => ms
  | k + 1, ms => closeRound k (closeN k ms)
theorem closeN_length : ∀ (k : Nat) (ms : List Nat), (closeN k ms).length = ms.length
  | 0, _ => rfl
  | k + 1, ms => by
    show ((closeN k ms).map _).length = _
    rw [List.length_map, closeN_length k ms]
/-- the relations at the same time -/
def sameL (L : List Lnk) : List (Str × Str) := (L.filter fun l => !l.2.2).map fun l => (l.1, l.2.1)
theorem sameL_at {L : List Lnk} {i : Nat} {l : Lnk} (h : L[i]? = some l) : sameL (L.take (i + 1)) = sameL (L.take i) ++ if l.2.2 = true then [] else [(l.1, l.2.1)] := by
  unfold sameL
  rw [List.take_add_one, h, Option.toList_some, List.filter_append, List.map_append]
  congr 1
  cases hb : l.2.2 <;> simp [List.filter, hb]
theorem linksL_in : ∀ (S : List Sen) (p : Str) (l : Lnk), l ∈ linksL p S → l.1 ∈ p :: S.map (·.2) ∧ l.2.1 ∈ p :: S.map (·.2)
  | [], _, _, h => nomatch h
  | s :: r, p, l, h => by
    have one : ∀ l ∈ linkOf p s, l.1 ∈ [p, s.2] ∧ l.2.1 ∈ [p, s.2] := fun l h => by
      unfold linkOf at h
      split at h
      · cases List.mem_singleton.mp h
        exact ⟨by simp, by simp⟩
      · split at h
        · cases List.mem_singleton.mp h
          exact ⟨by simp, by simp⟩
        · split at h
          · cases List.mem_singleton.mp h
            exact ⟨by simp, by simp⟩
          · cases h
    rcases List.mem_append.mp h with h | h
    · obtain ⟨h1, h2⟩ := one l h
      have up : ∀ y, y ∈ [p, s.2] → y ∈ p :: (s :: r).map (·.2) := fun y hy => by
        rcases List.mem_cons.mp hy with rfl | hy
        · exact List.mem_cons_self
        · cases List.mem_singleton.mp hy
          exact List.mem_cons_of_mem _ List.mem_cons_self
      exact ⟨up _ h1, up _ h2⟩
    · obtain ⟨h1, h2⟩ := linksL_in r _ l h
      have up : ∀ y, y ∈ (if moving s.1 = true then s.2 else p) :: r.map (·.2) → y ∈ p :: (s :: r).map (·.2) := fun y hy => by
        rcases List.mem_cons.mp hy with e | hy
        · rw [e]
          split
          · exact List.mem_cons_of_mem _ List.mem_cons_self
          · exact List.mem_cons_self
        · exact List.mem_cons_of_mem _ (List.mem_cons_of_mem _ hy)
      exact ⟨up _ h1, up _ h2⟩
theorem links_in {S : List Sen} (h : ∀ s, S[0]? = some s → s.1 = ("at" : Str)) {l : Lnk} (hl : l ∈ linksL "" S) : l.1 ∈ S.map (·.2) ∧ l.2.1 ∈ S.map (·.2) := by
  cases S with
  | nil => cases hl
  | cons s r =>
    have e := h s rfl
    have e1 : linkOf "" s = [] := by
      unfold linkOf
      rw [e]
      rfl
    have hl : l ∈ linkOf "" s ++ linksL (if moving s.1 = true then s.2 else "") r := hl
    rw [e1, List.nil_append, e] at hl
    exact linksL_in r s.2 l hl
end L2
namespace Lw
open PySem PySem.Spec PyProof.Rows L2 TKS
/-- the classes as the program lists them -/
structure IsGroups (ts : List Str) (E : List (Str × Str)) (G : List (List Str)) : Prop where
  asc : G.Pairwise fun x y => llt y x = false
  nd : G.Nodup
  own : ∀ g ∈ G, ∃ x L, x ∈ ts ∧ L.Nodup ∧ (∀ y, y ∈ L ↔ Conn E x y) ∧ g.Perm L ∧ sortedS g = true
  all : ∀ x ∈ ts, ∃ g ∈ G, x ∈ g
  few : G.length ≤ 60
  small : ∀ g ∈ G, g.length ≤ 60
/-- group k has m -/
def InG (G : List (List Str)) (k : Nat) (m : Str) : Prop := ∃ g, G[k]? = some g ∧ m ∈ g
/-- the steps told by strict links -/
structure StepsOk (G : List (List Str)) (L : List Lnk) (ms : List Nat) : Prop where
  len : ms.length = G.length
  bit : ∀ i j, (ms.getD i 0).testBit j = true ↔ ∃ a b, (a, b, true) ∈ L ∧ InG G i a ∧ InG G j b
/-- some group is after itself -/
def looped (A : List Nat) : Bool := (List.range A.length).any fun k => (A.getD k 0).testBit k
/-- no order of the tale has a group after itself -/
def Sound (S : List Sen) : Prop := ∀ G ms, IsGroups (S.map (·.2)) (sameL (linksL "" S)) G → StepsOk G (linksL "" S) ms → looped (closeN ms.length ms) = false
theorem closeN_len (k : Nat) (ms : List Nat) : (closeN k ms).length = ms.length := closeN_length k ms
theorem groups_one {ts : List Str} {E : List (Str × Str)} {G : List (List Str)} (h : IsGroups ts E G) {i j : Nat} {m : Str} (h1 : InG G i m) (h2 : InG G j m) : i = j := by
  obtain ⟨g1, e1, m1⟩ := h1
  obtain ⟨g2, e2, m2⟩ := h2
  obtain ⟨x1, L1, _, n1, c1, p1, s1⟩ := h.own g1 (List.mem_of_getElem? e1)
  obtain ⟨x2, L2, _, n2, c2, p2, s2⟩ := h.own g2 (List.mem_of_getElem? e2)
  have k1 : Conn E x1 m := (c1 m).mp (p1.mem_iff.mp m1)
  have k2 : Conn E x2 m := (c2 m).mp (p2.mem_iff.mp m2)
  have p : L1.Perm L2 := (List.perm_ext_iff_of_nodup n1 n2).mpr fun y => by
    rw [c1, c2]
    exact ⟨fun c => k2.trans (k1.symm.trans c), fun c => k1.trans (k2.symm.trans c)⟩
  have e : g1 = g2 := sortedS_uniq (p1.trans (p.trans p2.symm)) s1 s2
  subst e
  exact (List.getElem?_inj (List.getElem?_eq_some_iff.mp e1).1 h.nd).mp (e1.trans e2.symm)
end Lw
set_option Elab.async false
set_option linter.all false
/-! closing by rounds: behind k rounds, whom chains lead to that pass only numbers below k -/
namespace L2
section
variable (E : Nat → Nat → Prop)
inductive Thru (k : Nat) : Nat → Nat → Prop
  | edge {i j : Nat} (h : E i j) : Thru k i j
  | thru {i m j : Nat} (hm : m < k) (h : Thru k i m) (g : Thru k m j) : Thru k i j
end
variable {E : Nat → Nat → Prop}
theorem Thru.mono {k l i j : Nat} (le : k ≤ l) (h : Thru E k i j) : Thru E l i j := by
  induction h with
  | edge h => exact .edge h
  | thru hm _ _ a b => exact .thru (Nat.lt_of_lt_of_le hm le) a b
theorem Thru.succ {k i j : Nat} : Thru E (k + 1) i j ↔ Thru E k i j ∨ (Thru E k i k ∧ Thru E k k j) := by
  constructor
  · intro h
    induction h with
    | edge h => exact .inl (.edge h)
    | @thru i m j hm _ _ a b =>
      rcases Nat.lt_or_eq_of_le (Nat.le_of_lt_succ hm) with lt | rfl
      · rcases a with a | ⟨a1, a2⟩
        · rcases b with b | ⟨b1, b2⟩
          · exact .inl (.thru lt a b)
          · exact .inr ⟨.thru lt a b1, b2⟩
        · rcases b with b | ⟨_, b2⟩
          · exact .inr ⟨a1, .thru lt a2 b⟩
          · exact .inr ⟨a1, b2⟩
      · exact .inr ⟨a.elim id fun z => z.1, b.elim id fun z => z.2⟩
  · rintro (h | ⟨h, g⟩)
    · exact h.mono (Nat.le_succ k)
    · exact .thru (Nat.lt_succ_self k) (h.mono (Nat.le_succ k)) (g.mono (Nat.le_succ k))
def StepOf (ms : List Nat) (i j : Nat) : Prop := (ms.getD i 0).testBit j = true
theorem closeN_thru (ms : List Nat) : ∀ (k i j : Nat), k ≤ ms.length → i < ms.length → (((closeN k ms).getD i 0).testBit j = true ↔ Thru (StepOf ms) k i j)
  | 0, i, j, _, hi => by
    constructor
    · exact fun h => .edge h
    · intro h
      cases h with
      | edge h => exact h
      | thru hm _ _ => exact absurd hm (Nat.not_lt_zero _)
  | k + 1, i, j, hk, hi => by
    have ih := closeN_thru ms k
    rw [Thru.succ, ← ih i j (by omega) hi, ← ih i k (by omega) hi, ← ih k j (by omega) (by omega)]
    have hi' : i < (closeN k ms).length := by rw [closeN_length]; exact hi
    have e : (closeN (k + 1) ms).getD i 0 = if ((closeN k ms).getD i 0).testBit k = true then (closeN k ms).getD i 0 ||| (closeN k ms).getD k 0 else (closeN k ms).getD i 0 := by
      have ei : (closeN k ms).getD i 0 = (closeN k ms)[i] := by
        rw [List.getD_eq_getElem?_getD, List.getElem?_eq_getElem hi']
        rfl
      have q : ∀ F : Nat → Nat, ((closeN k ms).map F).getD i 0 = F (closeN k ms)[i] := fun F => by
        rw [List.getD_eq_getElem?_getD, List.getElem?_map, List.getElem?_eq_getElem hi']
        rfl
      rw [ei]
      exact q _
    rw [e]
    by_cases c : ((closeN k ms).getD i 0).testBit k = true
    · rw [if_pos c, Nat.testBit_or, Bool.or_eq_true]
      constructor
      · rintro (h | h)
        · exact .inl h
        · exact .inr ⟨c, h⟩
      · rintro (h | ⟨_, h⟩)
        · exact .inl h
        · exact .inr h
    · rw [if_neg c]
      exact ⟨.inl, fun h => h.elim id fun z => absurd z.1 c⟩
/-- a chain of steps -/
inductive Way (E : Nat → Nat → Prop) : Nat → Nat → Prop
  | one {i j : Nat} (h : E i j) : Way E i j
  | two {i m j : Nat} (h : Way E i m) (g : Way E m j) : Way E i j
theorem way_thru {n i j : Nat} (hE : ∀ i j, E i j → j < n) : Way E i j ↔ Thru E n i j := by
  have fin : ∀ {i j}, Way E i j → j < n := fun h => by
    induction h with
    | one h => exact hE _ _ h
    | two _ _ _ b => exact b
  constructor
  · intro h
    induction h with
    | one h => exact .edge h
    | two h _ a b => exact .thru (fin h) a b
  · intro h
    induction h with
    | edge h => exact .one h
    | thru _ _ _ a b => exact .two a b
theorem closed_way {ms : List Nat} (hb : ∀ i j, StepOf ms i j → j < ms.length) {i j : Nat} (hi : i < ms.length) : ((closeN ms.length ms).getD i 0).testBit j = true ↔ Way (StepOf ms) i j := by
  rw [closeN_thru ms ms.length i j (Nat.le_refl _) hi, way_thru hb]
end L2
set_option Elab.async false
set_option linter.all false
/-! what the order says of two moments, told by the links alone -/
namespace Lw
open PySem PySem.Spec PyProof.Rows L2
/-- chains of links, one of them strict at least -/
inductive Bef (L : List Lnk) : Str → Str → Prop
  | link {a b x y : Str} (h : (a, b, true) ∈ L) (h1 : Conn (sameL L) x a) (h2 : Conn (sameL L) b y) : Bef L x y
  | both {x y z : Str} (h : Bef L x y) (g : Bef L y z) : Bef L x z
section
variable {ts : List Str} {L : List Lnk} {G : List (List Str)} {ms : List Nat}
theorem inG_conn (iG : IsGroups ts (sameL L) G) {i : Nat} {x y : Str} (hx : InG G i x) : InG G i y ↔ Conn (sameL L) x y := by
  obtain ⟨g, e, mx⟩ := hx
  obtain ⟨z, M, _, _, c, p, _⟩ := iG.own g (List.mem_of_getElem? e)
  have zx : Conn (sameL L) z x := (c x).mp (p.mem_iff.mp mx)
  constructor
  · rintro ⟨g', e', my⟩
    rw [e] at e'
    cases e'
    exact zx.symm.trans ((c y).mp (p.mem_iff.mp my))
  · intro h
    exact ⟨g, e, p.mem_iff.mpr ((c y).mpr (zx.trans h))⟩
theorem inG_of (iG : IsGroups ts (sameL L) G) {x : Str} (h : x ∈ ts) : ∃ i, InG G i x := by
  obtain ⟨g, hg, hx⟩ := iG.all x h
  obtain ⟨i, e⟩ := List.getElem?_of_mem hg
  exact ⟨i, g, e, hx⟩
theorem inG_lt {i : Nat} {x : Str} (h : InG G i x) : i < G.length := by
  obtain ⟨g, e, _⟩ := h
  exact (List.getElem?_eq_some_iff.mp e).1
theorem step_lt (St : StepsOk G L ms) : ∀ i j, StepOf ms i j → j < ms.length := fun i j h => by
  obtain ⟨a, b, _, _, hb⟩ := (St.bit i j).mp h
  rw [St.len]
  exact inG_lt hb
theorem way_bef (iG : IsGroups ts (sameL L) G) (St : StepsOk G L ms) {i j : Nat} (h : Way (StepOf ms) i j) : ∀ x y, InG G i x → InG G j y → Bef L x y := by
  induction h with
  | one h =>
    intro x y hx hy
    obtain ⟨a, b, hl, ha, hb⟩ := (St.bit _ _).mp h
    exact .link hl ((inG_conn iG hx).mp ha) ((inG_conn iG hb).mp hy)
  | @two i m j h g ih1 ih2 =>
    intro x y hx hy
    have hm : ∃ z, InG G m z := by
      have last : ∀ {i m}, Way (StepOf ms) i m → ∃ z, InG G m z := fun h => by
        induction h with
        | one h =>
          obtain ⟨a, b, _, _, hb⟩ := (St.bit _ _).mp h
          exact ⟨b, hb⟩
        | two _ _ _ b => exact b
      exact last h
    obtain ⟨z, hz⟩ := hm
    exact .both (ih1 x z hx hz) (ih2 z y hz hy)
theorem bef_way (iG : IsGroups ts (sameL L) G) (St : StepsOk G L ms) (hL : ∀ l ∈ L, l.1 ∈ ts ∧ l.2.1 ∈ ts) {x y : Str} (h : Bef L x y) : ∀ i, InG G i x → ∃ j, InG G j y ∧ Way (StepOf ms) i j := by
  induction h with
  | link h h1 h2 =>
    intro i hx
    obtain ⟨j, hb⟩ := inG_of iG (hL _ h).2
    exact ⟨j, (inG_conn iG hb).mpr h2, .one ((St.bit _ _).mpr ⟨_, _, h, (inG_conn iG hx).mpr h1, hb⟩)⟩
  | both _ _ ih1 ih2 =>
    intro i hx
    obtain ⟨m, hm, w1⟩ := ih1 i hx
    obtain ⟨j, hj, w2⟩ := ih2 m hm
    exact ⟨j, hj, .two w1 w2⟩
theorem rel_same (iG : IsGroups ts (sameL L) G) {i j : Nat} {x y : Str} (hx : InG G i x) (hy : InG G j y) : i = j ↔ Conn (sameL L) x y := by
  constructor
  · rintro rfl
    exact (inG_conn iG hx).mp hy
  · exact fun h => groups_one iG ((inG_conn iG hx).mpr h) hy
theorem rel_bef (iG : IsGroups ts (sameL L) G) (St : StepsOk G L ms) (hL : ∀ l ∈ L, l.1 ∈ ts ∧ l.2.1 ∈ ts) {i j : Nat} {x y : Str} (hx : InG G i x) (hy : InG G j y) : ((closeN ms.length ms).getD i 0).testBit j = true ↔ Bef L x y := by
  rw [closed_way (step_lt St) (by rw [St.len]; exact inG_lt hx)]
  constructor
  · exact fun h => way_bef iG St h x y hx hy
  · intro h
    obtain ⟨j', hj, w⟩ := bef_way iG St hL h i hx
    rw [groups_one iG hj hy] at w
    exact w
/-- a tale is sound where no moment is before itself -/
theorem sound_of {S : List Sen} (hat : ∀ s, S[0]? = some s → s.1 = ("at" : Str)) (h : ∀ x ∈ S.map (·.2), ¬ Bef (linksL "" S) x x) : Sound S := by
  intro G ms iG St
  cases e : looped (closeN ms.length ms) with
  | false => rfl
  | true =>
    obtain ⟨k, hk, hb⟩ := List.any_eq_true.mp e
    rw [List.mem_range, closeN_len, St.len] at hk
    have eg : G[k]? = some G[k] := List.getElem?_eq_getElem hk
    obtain ⟨z, M, hz, _, c, p, _⟩ := iG.own G[k] (List.mem_of_getElem? eg)
    have hx : InG G k z := ⟨_, eg, p.mem_iff.mpr ((c z).mpr (.refl z))⟩
    exact absurd ((rel_bef iG St (fun l hl => links_in hat hl) hx hx).mp hb) (h z hz)
theorem not_sound {S : List Sen} (hat : ∀ s, S[0]? = some s → s.1 = ("at" : Str)) {G : List (List Str)} {ms : List Nat} (iG : IsGroups (S.map (·.2)) (sameL (linksL "" S)) G) (St : StepsOk G (linksL "" S) ms) {x : Str} (hx : x ∈ S.map (·.2)) (h : Bef (linksL "" S) x x) :
    looped (closeN ms.length ms) = true := by
  obtain ⟨i, hi⟩ := inG_of iG hx
  exact List.any_eq_true.mpr ⟨i, List.mem_range.mpr (by rw [closeN_len, St.len]; exact inG_lt hi), (rel_bef iG St (fun l hl => links_in hat hl) hi hi).mpr h⟩
end
end Lw
set_option Elab.async false
set_option linter.all false
/-! what chains reach, n steps reach, n the number of things -/
namespace L2
variable {α : Type}
theorem count_same {p q : α → Bool} : ∀ {l : List α}, (∀ x ∈ l, p x = true → q x = true) → l.countP q ≤ l.countP p → ∀ x ∈ l, q x = true → p x = true
  | [], _, _, _, h, _ => nomatch h
  | a :: l, h, e, x, hx, hq => by
    have sub : l.countP p ≤ l.countP q := List.countP_mono_left fun y hy => h y (List.mem_cons_of_mem _ hy)
    rw [List.countP_cons, List.countP_cons] at e
    have ha := h a List.mem_cons_self
    have e2 : l.countP q ≤ l.countP p := by
      cases hp : p a with
      | true => rw [hp, ha hp] at e; simpa using e
      | false =>
        rw [hp] at e
        simp only [Bool.false_eq_true, if_false, Nat.add_zero] at e
        omega
    rcases List.mem_cons.mp hx with rfl | hx
    · cases hp : p x with
      | true => rfl
      | false =>
        rw [hp, hq] at e
        simp only [Bool.false_eq_true, if_false, Nat.add_zero, if_true] at e
        omega
    · exact count_same (fun y hy => h y (List.mem_cons_of_mem _ hy)) e2 x hx hq
/-- within k steps -/
def Within (E : α → α → Prop) : Nat → α → α → Prop
  | 0, x, y => x = y
  | k + 1, x, y => Within E k x y ∨ ∃ z, Within E k x z ∧ E z y
inductive Star (E : α → α → Prop) (x : α) : α → Prop
  | refl : Star E x x
  | tail {z y : α} (h : Star E x z) (g : E z y) : Star E x y
theorem Within.more {E : α → α → Prop} {x y : α} : ∀ {k l : Nat}, k ≤ l → Within E k x y → Within E l x y := by
  intro k l le
  induction le with
  | refl => exact id
  | step _ ih => exact fun h => .inl (ih h)
open Classical in
theorem star_within {V : List α} {E : α → α → Prop} (hV : ∀ x y, E x y → y ∈ V) {x y : α} (hx : x ∈ V) (h : Star E x y) : Within E V.length x y := by
  let c : Nat → Nat := fun k => V.countP fun y => decide (Within E k x y)
  have up : ∀ k, c k ≤ c (k + 1) := fun k => List.countP_mono_left fun y _ h => decide_eq_true (.inl (of_decide_eq_true h))
  have c0 : 1 ≤ c 0 := List.countP_pos_iff.mpr ⟨x, hx, decide_eq_true rfl⟩
  have top : ∀ k, c k ≤ V.length := fun k => List.countP_le_length
  have grow : (∀ k, k < V.length → c k < c (k + 1)) → ∀ k, k ≤ V.length → k + 1 ≤ c k := fun g k => by
    induction k with
    | zero => exact fun _ => c0
    | succ k ih =>
      intro hk
      have h1 := ih (by omega)
      have h2 := g k (by omega)
      omega
  have stop : ∃ k, k < V.length ∧ c (k + 1) ≤ c k := by
    refine Classical.byContradiction fun n => ?_
    have g : ∀ k, k < V.length → c k < c (k + 1) := fun k hk => Nat.lt_of_not_le fun z => n ⟨k, hk, z⟩
    have h1 := grow g V.length (Nat.le_refl _)
    have h2 := top V.length
    omega
  obtain ⟨k, hk, e⟩ := stop
  have closed : ∀ y ∈ V, Within E (k + 1) x y → Within E k x y := fun y hy h =>
    of_decide_eq_true (count_same (fun z _ h => decide_eq_true (.inl (of_decide_eq_true h))) e y hy (decide_eq_true h))
  have all : Within E k x y := by
    induction h with
    | refl => exact Within.more (Nat.zero_le k) (show Within E 0 x x from rfl)
    | @tail z y _ g ih => exact closed y (hV _ _ g) (.inr ⟨z, ih, g⟩)
  exact all.more (Nat.le_of_lt hk)
end L2
set_option Elab.async false
set_option linter.all false
/-! the least of all that chains lead to, found by rounds over the pairs -/
namespace L2
open PySem PySem.Spec PyProof.Rows TKS
def sle (x y : Str) : Prop := slt y x = false
theorem sle_refl (x : Str) : sle x x := slt_irr x
theorem sle_trans {x y z : Str} (h : sle x y) (g : sle y z) : sle x z := by
  unfold sle at *
  cases e : slt z x with
  | false => rfl
  | true =>
    by_cases c : x = y
    · rw [c, g] at e
      cases e
    · have h2 : slt x y = true := by
        cases q : slt x y with
        | true => rfl
        | false => exact absurd (slt_tri q h) c
      rw [slt_tr e h2] at g
      cases g
theorem sle_anti {x y : Str} (h : sle x y) (g : sle y x) : x = y := slt_tri g h
/-- the lesser of two -/
def smin (x y : Str) : Str := if slt y x = true then y else x
theorem smin_l (x y : Str) : sle (smin x y) x := by
  unfold smin
  split
  · rename_i c
    exact slt_as c
  · exact sle_refl x
theorem smin_r (x y : Str) : sle (smin x y) y := by
  unfold smin
  split
  · exact sle_refl y
  · rename_i c
    show slt y x = false
    cases h : slt y x with
    | false => rfl
    | true => exact absurd h c
theorem smin_or (x y : Str) : smin x y = x ∨ smin x y = y := by
  unfold smin
  split
  · exact .inr rfl
  · exact .inl rfl
abbrev Hd := Str → Str
def setH (h : Hd) (a v : Str) : Hd := fun x => if x = a then v else h x
def headOne (h : Hd) (e : Str × Str) : Hd := setH (setH h e.1 (smin (h e.1) (h e.2))) e.2 (smin (h e.1) (h e.2))
def headRound (E : List (Str × Str)) (h : Hd) : Hd := E.foldl headOne h
def headN (E : List (Str × Str)) : Nat → Hd
  | 0 => fun x => x
  | k + 1 => headRound E (headN E k)
theorem one_at (h : Hd) (e : Str × Str) (x : Str) : headOne h e x = if x = e.1 ∨ x = e.2 then smin (h e.1) (h e.2) else h x := by
  unfold headOne setH
  by_cases c : x = e.2
  · rw [if_pos c, if_pos (.inr c)]
  · rw [if_neg c]
    by_cases d : x = e.1
    · rw [if_pos d, if_pos (.inl d)]
    · rw [if_neg d, if_neg fun z => z.elim d c]
theorem one_le (h : Hd) (e : Str × Str) (x : Str) : sle (headOne h e x) (h x) := by
  rw [one_at]
  split
  · rename_i c
    rcases c with rfl | rfl
    · exact smin_l _ _
    · exact smin_r _ _
  · exact sle_refl _
theorem round_le : ∀ (E : List (Str × Str)) (h : Hd) (x : Str), sle (headRound E h x) (h x)
  | [], h, x => sle_refl _
  | e :: r, h, x => sle_trans (round_le r (headOne h e) x) (one_le h e x)
theorem round_link : ∀ (E : List (Str × Str)) (h : Hd) (e : Str × Str), e ∈ E → sle (headRound E h e.1) (h e.2) ∧ sle (headRound E h e.2) (h e.1)
  | d :: r, h, e, he => by
    rcases List.mem_cons.mp he with rfl | he
    · have a1 : headOne h e e.1 = smin (h e.1) (h e.2) := by rw [one_at, if_pos (.inl rfl)]
      have a2 : headOne h e e.2 = smin (h e.1) (h e.2) := by rw [one_at, if_pos (.inr rfl)]
      have b1 := round_le r (headOne h e) e.1
      have b2 := round_le r (headOne h e) e.2
      rw [a1] at b1
      rw [a2] at b2
      exact ⟨sle_trans b1 (smin_r _ _), sle_trans b2 (smin_l _ _)⟩
    · obtain ⟨a1, a2⟩ := round_link r (headOne h d) e he
      exact ⟨sle_trans a1 (one_le h d e.2), sle_trans a2 (one_le h d e.1)⟩
theorem one_conn {E : List (Str × Str)} {h : Hd} {e : Str × Str} (he : e ∈ E) (g : ∀ x, Conn E x (h x)) : ∀ x, Conn E x (headOne h e x) := fun x => by
  rw [one_at]
  have ed : Conn E e.1 e.2 := .edge he
  split
  · rename_i c
    rcases smin_or (h e.1) (h e.2) with q | q <;> rw [q] <;> rcases c with rfl | rfl
    · exact g _
    · exact ed.symm.trans (g _)
    · exact ed.trans (g _)
    · exact g _
  · exact g x
theorem fold_conn {E : List (Str × Str)} : ∀ (D : List (Str × Str)) (h : Hd), (∀ e ∈ D, e ∈ E) → (∀ x, Conn E x (h x)) → ∀ x, Conn E x (D.foldl headOne h x)
  | [], h, _, g => g
  | e :: r, h, s, g => fold_conn r (headOne h e) (fun d hd => s d (List.mem_cons_of_mem _ hd)) (one_conn (s e List.mem_cons_self) g)
theorem headN_conn (E : List (Str × Str)) : ∀ (k : Nat) (x : Str), Conn E x (headN E k x)
  | 0, x => .refl x
  | k + 1, x => fold_conn E (headN E k) (fun _ h => h) (headN_conn E k) x
def Edg (E : List (Str × Str)) (x y : Str) : Prop := (x, y) ∈ E ∨ (y, x) ∈ E
theorem headN_within (E : List (Str × Str)) : ∀ (k : Nat) (x y : Str), Within (Edg E) k x y → sle (headN E k y) x
  | 0, x, _, h => by
    cases (show x = _ from h)
    exact sle_refl _
  | k + 1, x, y, h => by
    rcases h with h | ⟨z, h, g⟩
    · exact sle_trans (round_le E (headN E k) y) (headN_within E k x y h)
    · have a := headN_within E k x z h
      rcases g with g | g
      · exact sle_trans (round_link E (headN E k) _ g).2 a
      · exact sle_trans (round_link E (headN E k) _ g).1 a
theorem star_trans {α : Type} {E : α → α → Prop} {x y z : α} (h : Star E x y) (g : Star E y z) : Star E x z := by
  induction g with
  | refl => exact h
  | tail _ e ih => exact .tail ih e
theorem conn_star {E : List (Str × Str)} {x y : Str} (h : Conn E x y) : Star (Edg E) x y := by
  have both : Star (Edg E) x y ∧ Star (Edg E) y x := by
    induction h with
    | refl x => exact ⟨.refl, .refl⟩
    | edge h => exact ⟨.tail .refl (.inl h), .tail .refl (.inr h)⟩
    | symm _ ih => exact ⟨ih.2, ih.1⟩
    | trans _ _ a b => exact ⟨star_trans a.1 b.1, star_trans b.2 a.2⟩
  exact both.1
/-- behind as many rounds as there are things, the head tells the class -/
theorem head_same {V : List Str} {E : List (Str × Str)} (hE : ∀ e ∈ E, e.1 ∈ V ∧ e.2 ∈ V) {x y : Str} (hx : x ∈ V) (hy : y ∈ V) : headN E V.length x = headN E V.length y ↔ Conn E x y := by
  have hV : ∀ a b, Edg E a b → b ∈ V := fun a b h => h.elim (fun h => (hE _ h).2) fun h => (hE _ h).1
  have inV : ∀ {a b}, a ∈ V → Star (Edg E) a b → b ∈ V := fun ha h => by
    induction h with
    | refl => exact ha
    | tail _ g _ => exact hV _ _ g
  have low : ∀ {a b}, a ∈ V → Conn E a b → sle (headN E V.length b) a := fun ha h => headN_within E _ _ _ (star_within hV ha (conn_star h))
  constructor
  · intro h
    exact (headN_conn E V.length x).trans (h ▸ (headN_conn E V.length y).symm)
  · intro h
    have cx := headN_conn E V.length x
    have cy := headN_conn E V.length y
    exact sle_anti (low (inV hy (conn_star cy)) (cy.symm.trans h.symm)) (low (inV hx (conn_star cx)) (cx.symm.trans h))
theorem head_in {V : List Str} {E : List (Str × Str)} (hE : ∀ e ∈ E, e.1 ∈ V ∧ e.2 ∈ V) {x : Str} (hx : x ∈ V) (k : Nat) : headN E k x ∈ V := by
  have hV : ∀ a b, Edg E a b → b ∈ V := fun a b h => h.elim (fun h => (hE _ h).2) fun h => (hE _ h).1
  have inV : ∀ {a b}, a ∈ V → Star (Edg E) a b → b ∈ V := fun ha h => by
    induction h with
    | refl => exact ha
    | tail _ g _ => exact hV _ _ g
  exact inV hx (conn_star (headN_conn E k x))
end L2
set_option Elab.async false
set_option linter.all false
/-! the law's closing: by keys, one after the other -/
namespace Lw
open PySem PySem.Spec PyProof.Rows L2
section
variable {α : Type}
inductive Via (E : α → α → Prop) (ks : List α) : α → α → Prop
  | edge {i j : α} (h : E i j) : Via E ks i j
  | thru {i m j : α} (hm : m ∈ ks) (h : Via E ks i m) (g : Via E ks m j) : Via E ks i j
variable {E : α → α → Prop}
theorem Via.mono {ks ls : List α} (s : ∀ x ∈ ks, x ∈ ls) {i j : α} (h : Via E ks i j) : Via E ls i j := by
  induction h with
  | edge h => exact .edge h
  | thru hm _ _ a b => exact .thru (s _ hm) a b
theorem Via.snoc {ks : List α} {k i j : α} : Via E (ks ++ [k]) i j ↔ Via E ks i j ∨ (Via E ks i k ∧ Via E ks k j) := by
  have up : ∀ {i j}, Via E ks i j → Via E (ks ++ [k]) i j := fun h => h.mono fun x hx => List.mem_append_left _ hx
  constructor
  · intro h
    induction h with
    | edge h => exact .inl (.edge h)
    | @thru i m j hm _ _ a b =>
      rcases List.mem_append.mp hm with hm | hm
      · rcases a with a | ⟨a1, a2⟩
        · rcases b with b | ⟨b1, b2⟩
          · exact .inl (.thru hm a b)
          · exact .inr ⟨.thru hm a b1, b2⟩
        · rcases b with b | ⟨_, b2⟩
          · exact .inr ⟨a1, .thru hm a2 b⟩
          · exact .inr ⟨a1, b2⟩
      · cases List.mem_singleton.mp hm
        exact .inr ⟨a.elim id fun z => z.1, b.elim id fun z => z.2⟩
  · rintro (h | ⟨h, g⟩)
    · exact up h
    · exact .thru (List.mem_append_right _ (List.mem_singleton.mpr rfl)) (up h) (up g)
abbrev Rel (α : Type) := α → α → Bool
def closeBy (R : Rel α) (m : α) : Rel α := fun x y => R x y || (R x m && R m y)
theorem close_via : ∀ (ks pre : List α) (R : Rel α), (∀ x y, R x y = true ↔ Via E pre x y) → ∀ x y, ks.foldl closeBy R x y = true ↔ Via E (pre ++ ks) x y
  | [], pre, R, h, x, y => by
    rw [List.append_nil]
    exact h x y
  | k :: r, pre, R, h, x, y => by
    have step : ∀ x y, closeBy R k x y = true ↔ Via E (pre ++ [k]) x y := fun x y => by
      unfold closeBy
      rw [Bool.or_eq_true, Bool.and_eq_true, h, h, h, Via.snoc]
    have g := close_via r (pre ++ [k]) (closeBy R k) step x y
    rw [List.append_assoc] at g
    exact g
inductive Chain (E : α → α → Prop) : α → α → Prop
  | one {i j : α} (h : E i j) : Chain E i j
  | two {i m j : α} (h : Chain E i m) (g : Chain E m j) : Chain E i j
theorem chain_via {ks : List α} (hE : ∀ i j, E i j → j ∈ ks) {i j : α} : Chain E i j ↔ Via E ks i j := by
  have fin : ∀ {i j}, Chain E i j → j ∈ ks := fun h => by
    induction h with
    | one h => exact hE _ _ h
    | two _ _ _ b => exact b
  constructor
  · intro h
    induction h with
    | one h => exact .edge h
    | two h _ a b => exact .thru (fin h) a b
  · intro h
    induction h with
    | edge h => exact .one h
    | thru _ _ _ a b => exact .two a b
theorem close_chain {ks : List α} {R : Rel α} (hR : ∀ i j, R i j = true → j ∈ ks) (x y : α) : ks.foldl closeBy R x y = true ↔ Chain (fun i j => R i j = true) x y := by
  rw [chain_via hR]
  refine close_via ks [] R (fun x y => ⟨fun h => .edge h, fun h => ?_⟩) x y
  cases h with
  | edge h => exact h
  | thru hm _ _ => cases hm
end
/-- heads by strict links -/
def HeadStep (hd : Hd) (L : List Lnk) (u v : Str) : Prop := ∃ a b, (a, b, true) ∈ L ∧ hd a = u ∧ hd b = v
theorem chain_bef {V : List Str} {hd : Hd} {L : List Lnk} (hL : ∀ l ∈ L, l.1 ∈ V ∧ l.2.1 ∈ V) (same : ∀ x ∈ V, ∀ y ∈ V, hd x = hd y ↔ Conn (sameL L) x y) {x y : Str} (hx : x ∈ V) (hy : y ∈ V) :
    Chain (HeadStep hd L) (hd x) (hd y) ↔ Bef L x y := by
  constructor
  · intro h
    generalize hu : hd x = u at h
    generalize hv : hd y = v at h
    induction h generalizing x y with
    | one h =>
      obtain ⟨a, b, hl, rfl, rfl⟩ := h
      obtain ⟨ma, mb⟩ := hL _ hl
      exact .link hl ((same x hx a ma).mp hu) ((same b mb y hy).mp hv.symm)
    | @two u m v h g ih1 ih2 =>
      have last : ∀ {u m}, Chain (HeadStep hd L) u m → ∃ z ∈ V, hd z = m := fun h => by
        induction h with
        | one h =>
          obtain ⟨a, b, hl, _, e⟩ := h
          exact ⟨b, (hL _ hl).2, e⟩
        | two _ _ _ b => exact b
      obtain ⟨z, hz, e⟩ := last h
      exact .both (ih1 hx hz hu e) (ih2 hz hy e hv)
  · intro h
    have memB : ∀ {x y}, Bef L x y → ∃ b ∈ V, Conn (sameL L) b y := fun h => by
      induction h with
      | link h _ h2 => exact ⟨_, (hL _ h).2, h2⟩
      | both _ _ _ b => exact b
    have inS : ∀ {b y : Str}, Conn (sameL L) b y → (b ∈ V ↔ y ∈ V) := fun h => by
      induction h with
      | refl => exact Iff.rfl
      | edge h =>
        obtain ⟨l, hl, e⟩ := List.mem_map.mp h
        cases e
        have m := hL l (List.mem_filter.mp hl).1
        exact ⟨fun _ => m.2, fun _ => m.1⟩
      | symm _ ih => exact ih.symm
      | trans _ _ a b => exact a.trans b
    induction h with
    | link hl h1 h2 =>
      obtain ⟨ma, mb⟩ := hL _ hl
      exact .one ⟨_, _, hl, ((same _ hx _ ma).mpr h1).symm, (same _ mb _ hy).mpr h2⟩
    | both h g ih1 ih2 =>
      obtain ⟨b, hb, c⟩ := memB h
      have hz := (inS c).mp hb
      exact .two (ih1 hx hz) (ih2 hz hy)
end Lw
set_option Elab.async false
set_option linter.all false
set_option maxRecDepth 100000
/-! a dict of dicts by texts: who comes after whom -/
namespace Lw
open PySem PySem.Spec PyProof.Rows L2
structure DictsAt (H : Hp) (hs : List Str) (f : Str → Addr) (R : Rel Str) : Prop where
  row : ∀ x ∈ hs, ∃ kv, H (f x) = some (.dK kv) ∧ (kv.map (·.1)).Nodup ∧ (∀ k, k ∈ kv.map (·.1) ↔ ∃ y ∈ hs, k = Sum.inr y ∧ R x y = true) ∧ ∀ e ∈ kv, e.2 = V.bl true
structure OuterOk (kvs : List (Key × V)) (hs : List Str) (f : Str → Addr) : Prop where
  keys : kvs.map (·.1) = hs.map Sum.inr
  val : ∀ x ∈ hs, valV kvs (Sum.inr x) = some (.ref (f x))
  inj : ∀ x ∈ hs, ∀ y ∈ hs, f x = f y → x = y
theorem keys_le {hs : List Str} {R : Str → Bool} {kv : List (Key × V)} (nd : (kv.map (·.1)).Nodup) (h : ∀ k, k ∈ kv.map (·.1) ↔ ∃ y ∈ hs, k = Sum.inr y ∧ R y = true) : kv.length ≤ hs.length := by
  have e := nd.length_le_of_subset (l₂ := hs.map (Sum.inr : Str → Key)) fun k hk => by
    obtain ⟨x, hx, rfl, _⟩ := (h k).mp hk
    exact List.mem_map_of_mem hx
  rw [List.length_map, List.length_map] at e
  exact e
theorem put_vals {kv : List (Key × V)} {k : Key} {v c : V} (h : ∀ e ∈ kv, e.2 = c) (hv : v = c) : ∀ e ∈ putK kv k v, e.2 = c := fun e he => by
  unfold putK at he
  split at he
  · obtain ⟨x, hx, rfl⟩ := List.mem_map.mp he
    split
    · exact hv
    · exact h x hx
  · rcases List.mem_append.mp he with he | he
    · exact h e he
    · rw [List.mem_singleton.mp he]; exact hv
theorem merge_vals {c : V} : ∀ (ls : List (Key × V)) {ks : List (Key × V)}, (∀ e ∈ ks, e.2 = c) → (∀ e ∈ ls, e.2 = c) → ∀ e ∈ mergeK ks ls, e.2 = c
  | [], _, h, _ => h
  | x :: r, _, h, g => merge_vals r (put_vals h (g x List.mem_cons_self)) fun e he => g e (List.mem_cons_of_mem _ he)
section
variable {H : Hp} {hs : List Str} {f : Str → Addr} {R R' : Rel Str}
theorem DictsAt.congr (D : DictsAt H hs f R) (h : ∀ x ∈ hs, ∀ y ∈ hs, R x y = R' x y) : DictsAt H hs f R' := ⟨fun x hx => by
  obtain ⟨kv, a, nd, ks, vt⟩ := D.row x hx
  refine ⟨kv, a, nd, fun k => (ks k).trans ⟨?_, ?_⟩, vt⟩
  · rintro ⟨y, hy, e, r⟩
    exact ⟨y, hy, e, by rw [← h x hx y hy]; exact r⟩
  · rintro ⟨y, hy, e, r⟩
    exact ⟨y, hy, e, by rw [h x hx y hy]; exact r⟩⟩
theorem DictsAt.move {H' : Hp} (D : DictsAt H hs f R) (h : ∀ x ∈ hs, ∀ o, H (f x) = some o → H' (f x) = some o) : DictsAt H' hs f R := ⟨fun x hx => by
  obtain ⟨kv, a, nd, ks, vt⟩ := D.row x hx
  exact ⟨kv, h x hx _ a, nd, ks, vt⟩⟩
theorem DictsAt.get (D : DictsAt H hs f R) {x m : Str} (hx : x ∈ hs) (hm : m ∈ hs) : ∃ o, DGet H (f x) (.str m) o ∧ o.isSome = R x m := by
  obtain ⟨kv, a, nd, ks, vt⟩ := D.row x hx
  refine ⟨_, DGet.k (k := Sum.inr m) a, ?_⟩
  have e : (valV kv (Sum.inr m)).isSome = true ↔ R x m = true := by
    rw [Option.isSome_iff_exists, key_val, ks]
    constructor
    · rintro ⟨y, _, e, r⟩
      cases e
      exact r
    · exact fun r => ⟨m, hm, rfl, r⟩
  exact Bool.eq_iff_iff.mpr e
theorem DictsAt.put (D : DictsAt H hs f R) (inj : ∀ x ∈ hs, ∀ y ∈ hs, f x = f y → x = y) (few : hs.length ≤ 60) {x y : Str} (hx : x ∈ hs) (hy : y ∈ hs) (v : V) (hv : v = V.bl true) :
    ∃ H', DPut H (f x) (.str y) v H' ∧ DictsAt H' hs f (fun a b => R a b || (decide (a = x) && decide (b = y))) ∧ ∃ o, H' = upd H (f x) o := by
  obtain ⟨kv, a, nd, ks, vt⟩ := D.row x hx
  have sz := keys_le nd ks
  refine ⟨_, DPut.k (k := Sum.inr y) a (small1000 (by omega)), ⟨fun z hz => ?_⟩, _, rfl⟩
  by_cases e : z = x
  · subst e
    refine ⟨_, upd_same, ?_, fun k => ?_, put_vals vt hv⟩
    · rw [putK_keys]
      split
      · exact nd
      · rename_i c
        refine List.nodup_append.mpr ⟨nd, List.nodup_cons.mpr ⟨List.not_mem_nil, List.nodup_nil⟩, fun a ha b hb z => ?_⟩
        cases List.mem_singleton.mp hb
        exact c (z ▸ ha)
    · have step : k ∈ (putK kv (Sum.inr y) v).map (·.1) ↔ k ∈ kv.map (·.1) ∨ k = Sum.inr y := by
        rw [putK_keys]
        split
        · rename_i c
          exact ⟨.inl, fun h => h.elim id fun e => e ▸ c⟩
        · rw [List.mem_append, List.mem_singleton]
      rw [step, ks]
      constructor
      · rintro (⟨u, hu, e, r⟩ | e)
        · exact ⟨u, hu, e, by show (_ || _) = true; rw [r]; rfl⟩
        · exact ⟨y, hy, e, by show (R z y || (decide (z = z) && decide (y = y))) = true; rw [decide_eq_true rfl, decide_eq_true rfl, Bool.and_true, Bool.or_true]⟩
      · rintro ⟨u, hu, e, r⟩
        rcases (Bool.or_eq_true _ _).mp r with r | r
        · exact .inl ⟨u, hu, e, r⟩
        · have r2 := of_decide_eq_true ((Bool.and_eq_true _ _).mp r).2
          exact .inr (r2 ▸ e)
  · obtain ⟨kz, az, ndz, kz', vz⟩ := D.row z hz
    refine ⟨kz, by rw [upd_ne fun q => e (inj _ hz _ hx q)]; exact az, ndz, fun k => ?_, vz⟩
    have e' : decide (z = x) = false := decide_eq_false e
    simp only [e', Bool.false_and, Bool.or_false]
    exact kz' k
theorem DictsAt.merge (D : DictsAt H hs f R) (inj : ∀ x ∈ hs, ∀ y ∈ hs, f x = f y → x = y) (few : hs.length ≤ 60) {x m : Str} (hx : x ∈ hs) (hm : m ∈ hs) :
    ∃ ks ls, H (f x) = some (.dK ks) ∧ H (f m) = some (.dK ls) ∧ ks.length + ls.length ≤ sizeLine ∧ DictsAt (upd H (f x) (.dK (mergeK ks ls))) hs f (fun a b => R a b || (decide (a = x) && R m b)) := by
  obtain ⟨kx, ax, nx, sx, vx⟩ := D.row x hx
  obtain ⟨km, am, nm, sm, vm⟩ := D.row m hm
  have z1 := keys_le nx sx
  have z2 := keys_le nm sm
  have h200 : (200 : Nat) ≤ sizeLine := by decide
  refine ⟨kx, km, ax, am, by omega, ⟨fun z hz => ?_⟩⟩
  by_cases e : z = x
  · subst e
    refine ⟨_, upd_same, merge_keys_nodup _ _ nx, fun k => ?_, merge_vals _ vx vm⟩
    rw [merge_keys_mem, sx, sm]
    have e' : decide (z = z) = true := decide_eq_true rfl
    simp only [e', Bool.true_and, Bool.or_eq_true]
    constructor
    · rintro (⟨u, hu, e, r⟩ | ⟨u, hu, e, r⟩)
      · exact ⟨u, hu, e, .inl r⟩
      · exact ⟨u, hu, e, .inr r⟩
    · rintro ⟨u, hu, e, r | r⟩
      · exact .inl ⟨u, hu, e, r⟩
      · exact .inr ⟨u, hu, e, r⟩
  · obtain ⟨kz, az, ndz, kz', vz⟩ := D.row z hz
    refine ⟨kz, by rw [upd_ne fun q => e (inj _ hz _ hx q)]; exact az, ndz, fun k => ?_, vz⟩
    have e' : decide (z = x) = false := decide_eq_false e
    simp only [e', Bool.false_and, Bool.or_false]
    exact kz' k
end
theorem snd_inj {α β : Type} : ∀ {es : List (α × β)}, (es.map (·.2)).Nodup → ∀ {x y : α} {a : β}, (x, a) ∈ es → (y, a) ∈ es → x = y
  | [], _, _, _, _, h, _ => by cases h
  | e :: r, nd, x, y, a, h, g => by
    rw [List.map_cons, List.nodup_cons] at nd
    rcases List.mem_cons.mp h with h | h
    · rcases List.mem_cons.mp g with g | g
      · rw [← h] at g
        exact (congrArg Prod.fst g).symm
      · exact absurd (by rw [← h]; exact List.mem_map.mpr ⟨_, g, rfl⟩) nd.1
    · rcases List.mem_cons.mp g with g | g
      · exact absurd (by rw [← g]; exact List.mem_map.mpr ⟨_, h, rfl⟩) nd.1
      · exact snd_inj nd.2 h g
theorem inr_list {α β : Type} : ∀ {l : List (α ⊕ β)}, (∀ k ∈ l, ∃ x, k = Sum.inr x) → ∃ hs : List β, l = hs.map Sum.inr
  | [], _ => ⟨[], rfl⟩
  | k :: r, h => by
    obtain ⟨x, rfl⟩ := h k List.mem_cons_self
    obtain ⟨hs, e⟩ := inr_list fun j hj => h j (List.mem_cons_of_mem _ hj)
    exact ⟨x :: hs, by rw [e]; rfl⟩
def rowsV (es : List (Str × Addr)) : List (Key × V) := es.map fun e => ((Sum.inr e.1 : Key), V.ref e.2)
theorem outer_of {es : List (Str × Addr)} (nd : (es.map (·.2)).Nodup) : ∃ hs f, hs.Nodup ∧ (∀ x, x ∈ hs ↔ x ∈ es.map (·.1)) ∧ OuterOk (mergeK [] (rowsV es)) hs f ∧ ∀ x ∈ hs, (x, f x) ∈ es := by
  classical
  have ke : (rowsV es).map (·.1) = (es.map (·.1)).map Sum.inr := by
    unfold rowsV
    rw [List.map_map, List.map_map]
    rfl
  have mem : ∀ k, k ∈ (mergeK [] (rowsV es)).map (·.1) ↔ ∃ x, x ∈ es.map (·.1) ∧ Sum.inr x = k := fun k => by
    rw [merge_keys_mem, ke]
    constructor
    · rintro (h | h)
      · cases h
      · exact List.mem_map.mp h
    · exact fun h => .inr (List.mem_map.mpr h)
  obtain ⟨hs, eh⟩ := inr_list fun k hk => by
    obtain ⟨x, _, e⟩ := (mem k).mp hk
    exact ⟨x, e.symm⟩
  have ndh : hs.Nodup := by
    have n := merge_keys_nodup (rowsV es) [] List.nodup_nil
    rw [eh] at n
    exact (List.pairwise_map.mp n).imp fun h z => h (congrArg Sum.inr z)
  have mh : ∀ x, x ∈ hs ↔ x ∈ es.map (·.1) := fun x => by
    have e := mem (Sum.inr x)
    rw [eh] at e
    constructor
    · intro h
      obtain ⟨y, hy, q⟩ := e.mp (List.mem_map_of_mem h)
      cases q
      exact hy
    · intro h
      obtain ⟨y, hy, q⟩ := List.mem_map.mp (e.mpr ⟨x, h, rfl⟩)
      cases q
      exact hy
  have ex : ∀ x, x ∈ hs → ∃ a, (x, a) ∈ es ∧ valV (mergeK [] (rowsV es)) (Sum.inr x) = some (.ref a) := fun x hx => by
    obtain ⟨v, hv, q⟩ := merge_in (rowsV es) [] (k := Sum.inr x) (by rw [ke]; exact List.mem_map_of_mem ((mh x).mp hx))
    obtain ⟨e, he, q2⟩ := List.mem_map.mp hv
    cases q2
    exact ⟨e.2, he, q⟩
  let f : Str → Addr := fun x => if h : x ∈ hs then (ex x h).choose else 0
  have hf : ∀ x, x ∈ hs → (x, f x) ∈ es ∧ valV (mergeK [] (rowsV es)) (Sum.inr x) = some (.ref (f x)) := fun x hx => by
    have e : f x = (ex x hx).choose := dif_pos hx
    rw [e]
    exact (ex x hx).choose_spec
  exact ⟨hs, f, ndh, mh, ⟨eh, fun x hx => (hf x hx).2, fun x hx y hy q => snd_inj nd (hf x hx).1 (q ▸ (hf y hy).1)⟩, fun x hx => (hf x hx).1⟩
/-- behind j turns of the inner walk for m -/
def closeIn (R : Rel Str) (m : Str) (done : List Str) : Rel Str := fun a b => R a b || (decide (a ∈ done) && (R a m && R m b))
theorem closeIn_nil (R : Rel Str) (m a b : Str) : closeIn R m [] a b = R a b := by
  unfold closeIn
  rw [decide_eq_false List.not_mem_nil, Bool.false_and, Bool.or_false]
theorem closeIn_all (R : Rel Str) (m : Str) {hs : List Str} {a : Str} (h : a ∈ hs) (b : Str) : closeIn R m hs a b = closeBy R m a b := by
  unfold closeIn closeBy
  rw [decide_eq_true h, Bool.true_and]
theorem closeIn_col {R : Rel Str} {m : Str} {done : List Str} {x : Str} (h : x ∉ done) (b : Str) : closeIn R m done x b = R x b := by
  unfold closeIn
  rw [decide_eq_false h, Bool.false_and, Bool.or_false]
theorem closeIn_row (R : Rel Str) (m : Str) (done : List Str) (b : Str) : closeIn R m done m b = R m b := by
  unfold closeIn
  cases R m b <;> simp
theorem closeIn_yes {R : Rel Str} {m : Str} {done : List Str} {x : Str} (h : x ∉ done) (hx : R x m = true) (a b : Str) :
    (closeIn R m done a b || (decide (a = x) && closeIn R m done m b)) = closeIn R m (done ++ [x]) a b := by
  rw [closeIn_row]
  unfold closeIn
  by_cases e : a = x
  · subst e
    rw [decide_eq_true rfl, decide_eq_true (List.mem_append_right _ (List.mem_singleton.mpr rfl)), decide_eq_false h, hx]
    simp
  · have q : decide (a ∈ done ++ [x]) = decide (a ∈ done) := by
      rw [decide_eq_decide, List.mem_append, List.mem_singleton]
      exact ⟨fun z => z.resolve_right e, .inl⟩
    rw [decide_eq_false e, q]
    simp
theorem closeIn_no {R : Rel Str} {m : Str} {done : List Str} {x : Str} (hx : R x m = false) (a b : Str) :
    closeIn R m done a b = closeIn R m (done ++ [x]) a b := by
  unfold closeIn
  by_cases e : a = x
  · subst e
    rw [hx]
    simp
  · have q : decide (a ∈ done ++ [x]) = decide (a ∈ done) := by
      rw [decide_eq_decide, List.mem_append, List.mem_singleton]
      exact ⟨fun z => z.resolve_right e, .inl⟩
    rw [q]
end Lw
set_option Elab.async false
set_option linter.all false
set_option maxRecDepth 100000
set_option maxHeartbeats 4000000
/-! _law_order over heaps (its dict of dicts is walked and changed at once), told as data at the end -/
namespace Lw
open PySem PySem.Spec PyProof.Rows L2 TKS
theorem take_next0 {α : Type} {l : List α} {i : Nat} {x : α} (h : l[i]? = some x) : l.take (i + 1) = l.take i ++ [x] := by
  rw [List.take_add_one, h]
  rfl
/-- a dict of texts by texts -/
def HeadAt (H : Hp) (d : Addr) (N : List Str) (h : Hd) : Prop := ∃ kvs, H d = some (.dK kvs) ∧ (kvs.map (·.1)).Nodup ∧ (∀ k, k ∈ kvs.map (·.1) ↔ ∃ x ∈ N, k = Sum.inr x) ∧ ∀ x ∈ N, valV kvs (Sum.inr x) = some (.str (h x))
theorem dget_of {H : Hp} {d : Addr} {kvs : List (Key × V)} {k : Str} {v : V} (hd : H d = some (.dK kvs)) (e : valV kvs (Sum.inr k) = some v) : DGet H d (.str k) (some v) := by
  rw [← e]
  exact DGet.k (k := Sum.inr k) hd
theorem HeadAt.get {H : Hp} {d : Addr} {N : List Str} {h : Hd} {x : Str} (A : HeadAt H d N h) (hx : x ∈ N) : DGet H d (.str x) (some (.str (h x))) := by
  obtain ⟨kvs, hd, _, _, v⟩ := A
  exact dget_of hd (v x hx)
theorem HeadAt.same {H H' : Hp} {d : Addr} {N : List Str} {h : Hd} (s : Same H H') (A : HeadAt H d N h) : HeadAt H' d N h := by
  obtain ⟨kvs, hd, r⟩ := A
  exact ⟨kvs, s _ _ hd, r⟩
theorem HeadAt.size {N : List Str} {kvs : List (Key × V)} (nd : (kvs.map (·.1)).Nodup) (h : ∀ k, k ∈ kvs.map (·.1) ↔ ∃ x ∈ N, k = Sum.inr x) : kvs.length ≤ N.length := by
  have e := nd.length_le_of_subset (l₂ := N.map (Sum.inr : Str → Key)) fun k hk => by
    obtain ⟨x, hx, rfl⟩ := (h k).mp hk
    exact List.mem_map_of_mem hx
  rw [List.length_map, List.length_map] at e
  exact e
theorem HeadAt.put {H : Hp} {d : Addr} {N : List Str} {h : Hd} {a v : Str} (A : HeadAt H d N h) (ha : a ∈ N) (few : N.length ≤ 60) : ∃ H', DPut H d (.str a) (.str v) H' ∧ HeadAt H' d N (setH h a v) ∧ ∃ o, H' = upd H d o := by
  obtain ⟨kvs, hd, nd, ks, vs⟩ := A
  have sz := HeadAt.size nd ks
  refine ⟨_, DPut.k (k := Sum.inr a) hd (small1000 (by omega)), ⟨_, upd_same, ?_, fun k => ?_, fun x hx => ?_⟩, _, rfl⟩
  · rw [putK_keys, if_pos ((ks _).mpr ⟨a, ha, rfl⟩)]
    exact nd
  · rw [putK_keys, if_pos ((ks _).mpr ⟨a, ha, rfl⟩)]
    exact ks k
  · rw [valV_put]
    unfold setH
    by_cases e : x = a
    · rw [if_pos (congrArg Sum.inr e), if_pos e]
    · rw [if_neg (fun z => e (Sum.inr.inj z)), if_neg e]
      exact vs x hx
theorem all2_paired {α β γ : Type} {R : α → γ → Prop} {R' : α → β → Prop} {f : γ → β} (h : ∀ p x, R p x → R' p (f x)) : ∀ {ps : List α} {xs : List γ}, All2 R ps xs → Paired R' ps (xs.map f)
  | _, _, .nil => .nil
  | _, _, .cons a t => .cons (h _ _ a) (all2_paired h t)
/-- a list of pairs of one text each -/
theorem head_start {N : List Str} (H : Hp) (p : Addr) : HeadAt (upd H p (.dK (mergeK [] (N.map fun x => ((Sum.inr x : Key), V.str x))))) p N (fun x => x) := by
  have ke : (N.map fun x => ((Sum.inr x : Key), V.str x)).map (·.1) = N.map Sum.inr := by
    rw [List.map_map]
    rfl
  refine ⟨_, upd_same, merge_keys_nodup _ _ List.nodup_nil, fun k => ?_, fun x hx => ?_⟩
  · rw [merge_keys_mem, ke]
    constructor
    · rintro (h | h)
      · cases h
      · obtain ⟨x, hx, e⟩ := List.mem_map.mp h
        exact ⟨x, hx, e.symm⟩
    · rintro ⟨x, hx, rfl⟩
      exact .inr (List.mem_map_of_mem hx)
  · refine merge_fun (fun e he ek => ?_) (by rw [ke]; exact List.mem_map_of_mem hx)
    obtain ⟨y, _, rfl⟩ := List.mem_map.mp he
    exact congrArg V.str (Sum.inr.inj ek)
/-- the links told, those at the same time -/
def sameO (L : List (Option Lnk)) : List Lnk := (L.filterMap id).filter fun l => !l.2.2
def pairsO (L : List (Option Lnk)) : List (Str × Str) := (sameO L).map fun l : Lnk => (l.1, l.2.1)
def pickO : Option Lnk → List Lnk
  | none => []
  | some l => if l.2.2 = true then [] else [l]
theorem sameO_at {L : List (Option Lnk)} {i : Nat} {o : Option Lnk} (h : L[i]? = some o) : sameO (L.take (i + 1)) = sameO (L.take i) ++ pickO o := by
  unfold sameO
  rw [List.take_add_one, h, Option.toList_some, List.filterMap_append, List.filter_append]
  congr 1
  cases o with
  | none => rfl
  | some l =>
    show (List.filter _ [l]) = if l.2.2 = true then [] else [l]
    cases hb : l.2.2 <;> simp [List.filter, hb]
/-- the links told, the strict ones -/
def strictO (L : List (Option Lnk)) : List Lnk := (L.filterMap id).filter fun l => l.2.2
def pickS : Option Lnk → List Lnk
  | none => []
  | some l => if l.2.2 = true then [l] else []
theorem strictO_at {L : List (Option Lnk)} {i : Nat} {o : Option Lnk} (h : L[i]? = some o) : strictO (L.take (i + 1)) = strictO (L.take i) ++ pickS o := by
  unfold strictO
  rw [List.take_add_one, h, Option.toList_some, List.filterMap_append, List.filter_append]
  congr 1
  cases o with
  | none => rfl
  | some l =>
    show (List.filter _ [l]) = if l.2.2 = true then [l] else []
    cases hb : l.2.2 <;> simp [List.filter, hb]
def addS (hd : Hd) (R : Rel Str) (l : Lnk) : Rel Str := fun a b => R a b || (decide (a = hd l.1) && decide (b = hd l.2.1))
def relS (hd : Hd) (L : List Lnk) : Rel Str := L.foldl (addS hd) fun _ _ => false
theorem foldS {hd : Hd} {x y : Str} : ∀ (L : List Lnk) (R : Rel Str), L.foldl (addS hd) R x y = true ↔ R x y = true ∨ ∃ l ∈ L, x = hd l.1 ∧ y = hd l.2.1
  | [], R => ⟨.inl, fun h => h.elim id fun ⟨_, h, _⟩ => nomatch h⟩
  | l :: r, R => by
    rw [List.foldl_cons, foldS r]
    unfold addS
    rw [Bool.or_eq_true, Bool.and_eq_true, decide_eq_true_eq, decide_eq_true_eq, or_assoc]
    refine or_congr Iff.rfl ⟨?_, ?_⟩
    · rintro (h | ⟨k, hk, h⟩)
      · exact ⟨l, List.mem_cons_self, h⟩
      · exact ⟨k, List.mem_cons_of_mem _ hk, h⟩
    · rintro ⟨k, hk, h⟩
      rcases List.mem_cons.mp hk with rfl | hk
      · exact .inl h
      · exact .inr ⟨k, hk, h⟩
theorem relS_step {hd : Hd} {L : List (Option Lnk)} {x y : Str} : relS hd (strictO L) x y = true ↔ HeadStep hd (L.filterMap id) x y := by
  unfold relS
  rw [foldS]
  constructor
  · rintro (h | ⟨l, hl, rfl, rfl⟩)
    · cases h
    · obtain ⟨h1, h2⟩ := List.mem_filter.mp hl
      refine ⟨l.1, l.2.1, ?_, rfl, rfl⟩
      have e : l = (l.1, l.2.1, true) := by
        have h2 : l.2.2 = true := h2
        rw [← h2]
      rw [← e]
      exact h1
  · rintro ⟨a, b, h, rfl, rfl⟩
    exact .inr ⟨(a, b, true), List.mem_filter.mpr ⟨h, rfl⟩, rfl, rfl⟩
theorem HeadAt.move {H H' : Hp} {d : Addr} {N : List Str} {h : Hd} (A : HeadAt H d N h) (s : ∀ o, H d = some o → H' d = some o) : HeadAt H' d N h := by
  obtain ⟨kvs, hd, r⟩ := A
  exact ⟨kvs, s _ hd, r⟩
/-- who comes after whom, by heads -/
def AfterAt (H : Hp) (d : Addr) (hs : List Str) (R : Rel Str) : Prop := ∃ kvs f, H d = some (.dK kvs) ∧ OuterOk kvs hs f ∧ DictsAt H hs f R ∧ ∀ x ∈ hs, f x ≠ d
/-- the law's model of links over names -/
structure ModelAt (H : Hp) (p : Addr) (N : List Str) (L : List Lnk) : Prop where
  ex : ∃ (d1 d2 : Addr) (hd : Hd) (hs : List Str) (R : Rel Str), H p = some (.tup [.ref d1, .ref d2]) ∧ HeadAt H d1 N hd ∧ AfterAt H d2 hs R ∧ hs.length ≤ 60 ∧ (∀ x, x ∈ hs ↔ ∃ y ∈ N, hd y = x) ∧
    (∀ x ∈ N, ∀ y ∈ N, hd x = hd y ↔ Conn (sameL L) x y) ∧ (∀ x ∈ N, ∀ y ∈ N, R (hd x) (hd y) = true ↔ Bef L x y) ∧ (∀ x ∈ N, hd x ∈ N) ∧ d1 ≠ d2 ∧ hs.Nodup
/-- .. all of it new -/
structure ModelN (H0 H : Hp) (p : Addr) (N : List Str) (L : List Lnk) : Prop where
  ex : ∃ (d1 d2 : Addr) (hd : Hd) (hs : List Str) (R : Rel Str) (kvs : List (Key × V)) (f : Str → Addr), H p = some (.tup [.ref d1, .ref d2]) ∧ HeadAt H d1 N hd ∧ H d2 = some (.dK kvs) ∧ OuterOk kvs hs f ∧ DictsAt H hs f R ∧ hs.length ≤ 60 ∧ (∀ x, x ∈ hs ↔ ∃ y ∈ N, hd y = x) ∧
    (∀ x ∈ N, ∀ y ∈ N, hd x = hd y ↔ Conn (sameL L) x y) ∧ (∀ x ∈ N, ∀ y ∈ N, R (hd x) (hd y) = true ↔ Bef L x y) ∧ (∀ x ∈ N, hd x ∈ N) ∧ hs.Nodup ∧ H0 p = none ∧ H0 d1 = none ∧ H0 d2 = none ∧ ∀ x ∈ hs, H0 (f x) = none
/-- all but the heads' own dicts is kept -/
theorem none_up {H H' : Hp} {z : Addr} (s : Same H H') (h : H' z = none) : H z = none := by
  cases q : H z with
  | none => rfl
  | some o => rw [s _ _ q] at h; cases h
def SameF (hs : List Str) (f : Str → Addr) (H H' : Hp) : Prop := ∀ b o, (∀ x ∈ hs, b ≠ f x) → H b = some o → H' b = some o
theorem SameF.refl {hs : List Str} {f : Str → Addr} {H : Hp} : SameF hs f H H := fun _ _ _ h => h
theorem SameF.upd {hs : List Str} {f : Str → Addr} {H H' : Hp} (s : SameF hs f H H') {x : Str} (hx : x ∈ hs) {o : HO} : SameF hs f H (upd H' (f x) o) := fun b o n h => by
  rw [upd_ne (n x hx)]
  exact s b o n h
section
variable {P : Program} {w : World} {K : PySem.W.Frag} {mg : Str → Option Value} {base : Heap}
def LnkQ (K : PySem.W.Frag) (H : Hp) (x : V) (l : Lnk) : Prop := ∃ t, x = .ref t ∧ SqT K H t [.str l.1, .str l.2.1, .bl l.2.2]
def LnkOQ (K : PySem.W.Frag) (H : Hp) (x : V) : Option Lnk → Prop
  | none => x = .non
  | some l => LnkQ K H x l
def LinksQ (K : PySem.W.Frag) (H : Hp) (p : Addr) (L : List (Option Lnk)) : Prop := ∃ xs, H p = some (.lst xs) ∧ All2 (LnkOQ K H) xs L
theorem sqT_keep {K : PySem.W.Frag} {H H' : Hp} {p t : Addr} {u : HO} {ws : List V} (s : ∀ b o, H b = some o → b ≠ p → H' b = some o) (hp : H p = some u) (n1 : ∀ xs, u ≠ .tup xs) (n2 : ∀ o xs, u ≠ .frz o (.tup xs)) (h : SqT K H t ws) : SqT K H' t ws := by
  rcases h with (h | ⟨o, h⟩) | h
  · exact .inl (.inl (s _ _ h fun z => by rw [z, hp] at h; exact n1 _ (Option.some.inj h)))
  · exact .inl (.inr ⟨o, s _ _ h fun z => by rw [z, hp] at h; exact n2 _ _ (Option.some.inj h)⟩)
  · exact .inr h
theorem sqT_upd {K : PySem.W.Frag} {H : Hp} {p t : Addr} {u v : HO} {ws : List V} (hp : H p = some u) (n1 : ∀ xs, u ≠ .tup xs) (n2 : ∀ o xs, u ≠ .frz o (.tup xs)) (h : SqT K H t ws) : SqT K (upd H p v) t ws := sqT_keep (fun b o e n => by rw [upd_ne n]; exact e) hp n1 n2 h
theorem sqT_updL {K : PySem.W.Frag} {H : Hp} {p t : Addr} {zs : List V} {v : HO} {ws : List V} (hp : H p = some (.lst zs)) (h : SqT K H t ws) : SqT K (upd H p v) t ws := sqT_upd hp (fun _ h => by cases h) (fun _ _ h => by cases h) h
theorem sqT_keepD {K : PySem.W.Frag} {H H' : Hp} {p t : Addr} {kv : List (Key × V)} {ws : List V} (s : ∀ b o, H b = some o → b ≠ p → H' b = some o) (hp : H p = some (.dK kv)) (h : SqT K H t ws) : SqT K H' t ws := sqT_keep s hp (fun _ h => by cases h) (fun _ _ h => by cases h) h
theorem sqT_keepF {K : PySem.W.Frag} {H H' : Hp} {hs : List Str} {f : Str → Addr} {t : Addr} {ws : List V} (s : ∀ b o, (∀ x ∈ hs, b ≠ f x) → H b = some o → H' b = some o) (hp : ∀ x ∈ hs, ∃ kv, H (f x) = some (.dK kv)) (h : SqT K H t ws) : SqT K H' t ws := by
  rcases h with (h | ⟨o, h⟩) | h
  · exact .inl (.inl (s _ _ (fun x hx z => by obtain ⟨kv, e⟩ := hp x hx; rw [z, e] at h; cases h) h))
  · exact .inl (.inr ⟨o, s _ _ (fun x hx z => by obtain ⟨kv, e⟩ := hp x hx; rw [z, e] at h; cases h) h⟩)
  · exact .inr h
def spOrd1 (K : PySem.W.Frag) : Sp := fun vs H Q _ => ∃ (a b : Addr) (N : List Str) (Lo : List (Option Lnk)), vs = [.ref a, .ref b] ∧ H a = some (.lst (N.map V.str)) ∧ N.length ≤ 60 ∧ LinksQ K H b Lo ∧ Lo.length ≤ 60 ∧ (∀ l ∈ Lo.filterMap id, l.1 ∈ N ∧ l.2.1 ∈ N) ∧
  ∀ p H', Same H H' → ModelN H H' p N (Lo.filterMap id) → Q (.ref p) H'
theorem ok__law_order (T : Txt K mg) (F : Fn K mg "_law_order" s__law_order) : Df P w K mg base "_law_order" 1 ["names", "links"] (spOrd1 K) := by
  refine F.df (fun _ _ _ _ _ _ us hl => match us, hl with | [_, _], _ => rfl) fun f fd F => F.ok sc__law_order (fun vs H Q E h => ?_) (fun cdv AA outer s H vs Q E hr h => ?_)
  · obtain ⟨a, b, N, Lo, rfl, _⟩ := h
    rfl
  · obtain ⟨a, b, N, Lo, rfl, ha, few, hb, fewL, hin, q⟩ := h
    have hu := Nat.lt_of_le_of_lt (Nat.add_le_add_left (by decide : 1 ≤ 64) _) hr.units
    refine ⟨_, pss_cons (ps_set (i := 2) sc__law_order.nd rfl (by first | exact Or.inl rfl | exact Or.inr rfl) (pe_callTy (call_dictP rfl) (by rfl) T.m_dict (by decide +kernel) (pa_cons (pe_lc (own := [("name", 3)]) rfl sc__law_order.nd (pi_list (pv 0)) (blkOk_by (N := ["names", "links", "head", "name", "turn", "one", "other", "strict", "link", "least", "after", "middle"]) (sc := defScope s__law_order) (by decide +kernel)) (fun _ _ _ _ _ => pg_name (i := 3) sc__law_order.nd rfl (by first | exact Or.inl rfl | exact Or.inr rfl)) (fun _ _ _ _ _ => pts_nil) (fun _ _ _ _ _ => pe_tup (pa_cons (pv 3) (pa_cons (pv 3) (pa_nil))))) (pa_nil))))
    (pss_cons (ps_for PassesOwn.never rfl (pi_list (pv 0)) (pg_name (i := 4) sc__law_order.nd rfl (by first | exact Or.inl rfl | exact Or.inr rfl)) (pss_one (ps_for PassesOwn.never rfl (pi_list (pe_lc (own := [("link", 8)]) rfl sc__law_order.nd (pi_list (pv 1)) (blkOk_by (N := ["names", "links", "head", "name", "turn", "one", "other", "strict", "link", "least", "after", "middle"]) (sc := defScope s__law_order) (by decide +kernel)) (fun _ _ _ _ _ => pg_name (i := 8) sc__law_order.nd rfl (by first | exact Or.inl rfl | exact Or.inr rfl)) (fun _ _ _ _ _ => pts_one (PW.pt (pw_and (pt_cmpR op_notN (pv 8) (pe_non) (nomark _)) (pw_and1 (pt_not (pt_val (pe_ix (show IxR _ (rIxT K) from ix_tup) (pv 8) (pe_int) (fun _ _ => rfl)))))))) (fun _ _ _ _ _ => pv 8))) (pg_tup (by rfl) (pgs_cons (pg_name (i := 5) sc__law_order.nd rfl (by first | exact Or.inl rfl | exact Or.inr rfl)) (pgs_cons (pg_name (i := 6) sc__law_order.nd rfl (by first | exact Or.inl rfl | exact Or.inr rfl)) (pgs_cons (pg_name (i := 7) sc__law_order.nd rfl (by first | exact Or.inl rfl | exact Or.inr rfl)) (pgs_nil))))) (pss_cons (ps_set (i := 9) sc__law_order.nd rfl (by first | exact Or.inl rfl | exact Or.inr rfl) (pe_callB (cr_minTx rfl) (by rfl) T.m_min (by decide +kernel) (pa_cons (pe_dget hu (pv 2) (pv 5) (fun _ _ => rfl)) (pa_cons (pe_dget hu (pv 2) (pv 6) (fun _ _ => rfl)) (pa_nil)))))
    (pss_one (ps_asg (pe_tup (pa_cons (pv 9) (pa_cons (pv 9) (pa_nil)))) (pg_tup (by rfl) (pgs_cons (pg_sub (pv 2) (pv 5) (set_dict hu)) (pgs_cons (pg_sub (pv 2) (pv 6) (set_dict hu)) (pgs_nil))))))))))
    (pss_cons (ps_set (i := 10) sc__law_order.nd rfl (by first | exact Or.inl rfl | exact Or.inr rfl) (pe_callTy (call_dictP rfl) (by rfl) T.m_dict (by decide +kernel) (pa_cons (pe_lc (own := [("name", 3)]) rfl sc__law_order.nd (pi_list (pv 0)) (blkOk_by (N := ["names", "links", "head", "name", "turn", "one", "other", "strict", "link", "least", "after", "middle"]) (sc := defScope s__law_order) (by decide +kernel)) (fun _ _ _ _ _ => pg_name (i := 3) sc__law_order.nd rfl (by first | exact Or.inl rfl | exact Or.inr rfl)) (fun _ _ _ _ _ => pts_nil) (fun _ _ _ _ _ => pe_tup (pa_cons (pe_dget hu (pv 2) (pv 3) (fun _ _ => rfl)) (pa_cons (pe_dnewK) (pa_nil))))) (pa_nil))))
    (pss_cons (ps_for PassesOwn.never rfl (pi_list (pe_lc (own := [("link", 8)]) rfl sc__law_order.nd (pi_list (pv 1)) (blkOk_by (N := ["names", "links", "head", "name", "turn", "one", "other", "strict", "link", "least", "after", "middle"]) (sc := defScope s__law_order) (by decide +kernel)) (fun _ _ _ _ _ => pg_name (i := 8) sc__law_order.nd rfl (by first | exact Or.inl rfl | exact Or.inr rfl)) (fun _ _ _ _ _ => pts_one (PW.pt (pw_and (pt_cmpR op_notN (pv 8) (pe_non) (nomark _)) (pw_and1 (pt_val (pe_ix (show IxR _ (rIxT K) from ix_tup) (pv 8) (pe_int) (fun _ _ => rfl))))))) (fun _ _ _ _ _ => pv 8))) (pg_tup (by rfl) (pgs_cons (pg_name (i := 5) sc__law_order.nd rfl (by first | exact Or.inl rfl | exact Or.inr rfl)) (pgs_cons (pg_name (i := 6) sc__law_order.nd rfl (by first | exact Or.inl rfl | exact Or.inr rfl)) (pgs_cons (pg_name (i := 7) sc__law_order.nd rfl (by first | exact Or.inl rfl | exact Or.inr rfl)) (pgs_nil))))) (pss_one (ps_dput hu (pe_dget hu (pv 10) (pe_dget hu (pv 2) (pv 5) (fun _ _ => rfl)) (fun _ _ => rfl)) (pe_dget hu (pv 2) (pv 6) (fun _ _ => rfl)) (pe_bl) rfl)))
    (pss_cons (ps_lock (ps_for PassesOwn.never rfl (pi_keys (pv 10)) (pg_name (i := 11) sc__law_order.nd rfl (by first | exact Or.inl rfl | exact Or.inr rfl)) (pss_one (ps_for PassesOwn.never rfl (pi_keys (pv 10)) (pg_name (i := 5) sc__law_order.nd rfl (by first | exact Or.inl rfl | exact Or.inr rfl)) (pss_one (ps_if (pt_cmp (pc_din hu (pv 11) (pe_dget hu (pv 10) (pv 5) (fun _ _ => rfl)))) (pss_one (ps_expr (pe_bm PySem.F.plainAttrs_dict PySem.F.slot_dict_update PySem.F.type_dict_update mt_updateS (pe_dget hu (pv 10) (pv 5) (fun _ _ => rfl)) (pa_cons (pe_dget hu (pv 10) (pv 11) (fun _ _ => rfl)) (pa_nil))))) (pss_nil)))))))
    (pss_one (ps_ret (pe_tup (pa_cons (pv 2) (pa_cons (pv 10) (pa_nil)))))))))), ?_⟩
    refine ⟨.ref a, rfl, a, rfl, ⟨_, SqL.of ha⟩, fun D nD => lc_it (walk_list (K := K) (a := a) (xs := N.map V.str)) (fun i H' => Same H H' ∧ ∃ ps : List Addr, H' D = some (.lst (ps.map V.ref)) ∧ All2 (fun p x => H' p = some (.tup [.str x, .str x])) ps (N.take i)) ⟨same_upd nD, [], upd_same, .nil⟩ (fun i H' _ h => SqL.of (h.1 _ _ ha)) ?_ ?_⟩
    · rintro i x H0 H1 hi ⟨s1, ps, hD, hps⟩ ⟨rfl, ex⟩
      obtain ⟨t, ht, rfl⟩ : ∃ t, N[i]? = some t ∧ V.str t = x := by
        rw [List.getElem?_map] at ex
        cases e : N[i]? with
        | none => rw [e] at ex; cases ex
        | some t => rw [e] at ex; exact ⟨t, rfl, Option.some.inj ex⟩
      refine ⟨rfl, yes_run ?_⟩
      refine ⟨_, rfl, _, rfl, by show 2 ≤ sizeLine; decide, fun u nu => ⟨ps.map V.ref, (same_upd nu) _ _ hD, ?_, (s1.trans (same_upd nu)).fresh nD, ps ++ [u], ?_, ?_⟩⟩
      · rw [List.length_map, hps.length, List.length_take]
        exact small1000 (by omega)
      · rw [upd_same, List.map_append]
        rfl
      · rw [take_next0 ht]
        have uD : u ≠ D := fun z => by rw [z, hD] at nu; cases nu
        refine (hps.imp fun p x hp => ?_).append (.cons (by rw [upd_ne uD, upd_same]) .nil)
        have pD : p ≠ D := fun z => by rw [z, hD] at hp; cases hp
        rw [upd_ne pD]
        exact (same_upd nu) _ _ hp
    · rintro H1 ⟨s1, ps, hD, hps⟩
      rw [List.take_of_length_le (by rw [List.length_map]; exact Nat.le_refl _)] at hps
      refine ⟨D, ps, N.map (fun x => (Sum.inr x, V.str x)), rfl, SqL.of hD, all2_paired (R' := fun p (kv : Key × V) => SqT K H1 p [kV kv.1, kv.2]) (f := fun x => (Sum.inr x, V.str x)) (fun p x h => SqT.of h) hps, fun p np => ?_⟩
      have s2 := s1.trans (same_upd np (o := .dK (mergeK [] (N.map fun x => ((Sum.inr x : Key), V.str x)))))
      have hd0 := head_start (N := N) H1 p
      have np' : H p = none := by
        cases h : H p with
        | none => rfl
        | some o => rw [s1 _ _ h] at np; cases np
      generalize upd H1 p (.dK (mergeK [] (N.map fun x => ((Sum.inr x : Key), V.str x)))) = H2 at s2 hd0
      obtain ⟨ls, hls, hL⟩ := hb
      refine ⟨.ref a, rfl, a, rfl, ⟨_, SqL.of (s2 _ _ ha)⟩, for_it (walk_list (K := K) (a := a) (xs := N.map V.str))
        (fun i σ H' => ∃ y3 y4 y5 y6 y7 y8 y9, σ = [some (.ref a), some (.ref b), some (.ref p), y3, y4, y5, y6, y7, y8, y9, none, none] ∧ Same H H' ∧ HeadAt H' p N (headN (pairsO Lo) i))
        ⟨none, none, none, none, none, none, none, rfl, s2, hd0⟩ (fun i σ H' _ ⟨_, _, _, _, _, _, _, _, e, _⟩ => SqL.of (e _ _ ha)) ?_ ?_⟩
      · rintro i x σ H0 H3 hi ⟨y3, y4, y5, y6, y7, y8, y9, rfl, s3, hd⟩ ⟨rfl, ex⟩
        refine ⟨_, rfl, b, rfl, ⟨_, SqL.of (s3 _ _ hls)⟩, fun D2 nD2 => lc_it (walk_list (K := K) (a := b) (xs := ls)) (fun k H' => Same H3 H' ∧ ∃ zs, H' D2 = some (.lst zs) ∧ All2 (LnkQ K H') zs (sameO (Lo.take k)) ∧ zs.length ≤ k) ⟨same_upd nD2, [], upd_same, .nil, Nat.zero_le _⟩ (fun k H' _ h => SqL.of (h.1 _ _ (s3 _ _ hls))) ?_ ?_⟩
        · rintro k z H4 H5 hk ⟨s4, zs, hzs, hZ, lz⟩ ⟨rfl, ez⟩
          obtain ⟨o, eo, ho⟩ := hL.get ez
          have st := sameO_at eo
          have kl : k < Lo.length := (List.getElem?_eq_some_iff.mp eo).1
          refine ⟨rfl, ?_⟩
          cases o with
          | none =>
            cases (show z = .non from ho)
            refine ⟨_, rfl, rfl, false, by rw [decide_eq_true rfl]; rfl, iteF (iteF ⟨s4, zs, hzs, ?_, by omega⟩)⟩
            rw [st]
            show All2 _ zs (_ ++ [])
            rw [List.append_nil]
            exact hZ
          | some l =>
            obtain ⟨t, rfl, ht⟩ := ho
            have ht5 := (s3.trans s4).seqT ht
            refine ⟨_, rfl, rfl, true, by rw [decide_eq_false nofun]; rfl, iteT ?_⟩
            refine ⟨_, rfl, t, _, _, .bl l.2.2, rfl, rfl, ht5, rfl, l.2.2, rfl, ?_⟩
            refine ite2 (fun c => ?_) (fun c => ?_)
            · have c : l.2.2 = false := by
                cases h : l.2.2 with
                | false => rfl
                | true => rw [h] at c; exact absurd c (by decide)
              refine ⟨_, rfl, zs, hzs, small1000 (by omega), s4.fresh nD2, _, upd_same, ?_, by rw [List.length_append]; show zs.length + 1 ≤ _; omega⟩
              have up : ∀ y e, LnkQ K H5 y e → LnkQ K (upd H5 D2 (.lst (zs ++ [.ref t]))) y e := by
                rintro y e ⟨v, rfl, hv⟩
                exact ⟨v, rfl, sqT_updL hzs hv⟩
              rw [st]
              show All2 _ _ (_ ++ if l.2.2 = true then [] else [l])
              rw [c]
              exact (hZ.imp up).append (.cons (up _ _ ⟨t, rfl, ht5⟩) .nil)
            · have c : l.2.2 = true := by
                cases h : l.2.2 with
                | true => rfl
                | false => rw [h] at c; exact absurd rfl c
              refine ⟨s4, zs, hzs, ?_, by omega⟩
              rw [st]
              show All2 _ zs (_ ++ if l.2.2 = true then [] else [l])
              rw [if_pos c, List.append_nil]
              exact hZ
        · rintro H4 ⟨s4, zs, hzs, hZ, lz⟩
          rw [List.take_of_length_le (by rw [hL.length]; exact Nat.le_refl _)] at hZ
          have pD2 : D2 ≠ p := fun z => by
            obtain ⟨kvs, hk, _⟩ := hd
            rw [z, hk] at nD2
            cases nD2
          have sH4 := s3.trans s4
          have inS : ∀ l ∈ sameO Lo, l.1 ∈ N ∧ l.2.1 ∈ N := fun l hl => hin l (List.mem_filter.mp hl).1
          refine ⟨D2, rfl, ⟨_, SqL.of hzs⟩, for_it (walk_list (K := K) (a := D2) (xs := zs))
            (fun j σ H' => ∃ y3 y4 y5 y6 y7 y8 y9, σ = [some (V.ref a), some (V.ref b), some (V.ref p), y3, y4, y5, y6, y7, y8, y9, none, none] ∧ SameB p H4 H' ∧ HeadAt H' p N (((pairsO Lo).take j).foldl headOne (headN (pairsO Lo) i)))
            ⟨_, _, _, _, _, _, _, rfl, SameB.refl, hd.same s4⟩ (fun j σ H' _ ⟨_, _, _, _, _, _, _, _, e, _⟩ => SqL.of (e _ _ pD2 hzs)) ?_ ?_⟩
          · rintro j z σ H5 H6 hj ⟨y3, y4, y5, y6, y7, y8, y9, rfl, sb, A⟩ ⟨rfl, ez⟩
            obtain ⟨l, el, t, rfl, ht⟩ := hZ.get ez
            obtain ⟨m1, m2⟩ := inS l (List.mem_of_getElem? el)
            obtain ⟨kvs0, hk0, _⟩ := hd.same s4
            refine ⟨t, _, rfl, sqT_keepD (fun b o e n => sb b o n e) hk0 ht, rfl, _, _, rfl, _, _, rfl, _, _, rfl, rfl, ?_⟩
            refine ⟨_, rfl, _, rfl, p, _, rfl, A.get m1, _, rfl, _, rfl, p, _, rfl, A.get m2, _, _, rfl, ?_⟩
            refine ⟨_, rfl, _, rfl, by show 2 ≤ sizeLine; decide, fun u nu => ⟨u, _, rfl, .inl (.inl upd_same), rfl, _, _, rfl, _, rfl, _, rfl, ?_⟩⟩
            have ep : (pairsO Lo)[j]? = some (l.1, l.2.1) := by
              unfold pairsO
              rw [List.getElem?_map, el]
              rfl
            have A1 := A.same (same_upd nu (o := .tup [.str (smin (((pairsO Lo).take j).foldl headOne (headN (pairsO Lo) i) l.1) (((pairsO Lo).take j).foldl headOne (headN (pairsO Lo) i) l.2.1)), .str (smin (((pairsO Lo).take j).foldl headOne (headN (pairsO Lo) i) l.1) (((pairsO Lo).take j).foldl headOne (headN (pairsO Lo) i) l.2.1))]))
            obtain ⟨H7, put1, A2, o1, e7⟩ := A1.put (v := smin (((pairsO Lo).take j).foldl headOne (headN (pairsO Lo) i) l.1) (((pairsO Lo).take j).foldl headOne (headN (pairsO Lo) i) l.2.1)) m1 few
            obtain ⟨H8, put2, A3, o2, e8⟩ := A2.put (v := smin (((pairsO Lo).take j).foldl headOne (headN (pairsO Lo) i) l.1) (((pairsO Lo).take j).foldl headOne (headN (pairsO Lo) i) l.2.1)) m2 few
            refine ⟨p, H7, rfl, put1, _, _, rfl, _, rfl, _, rfl, p, H8, rfl, put2, rfl, ?_⟩
            refine ⟨_, _, _, _, _, _, _, rfl, ((sb.trans (same_upd nu).but).trans (e7 ▸ SameB.upd)).trans (e8 ▸ SameB.upd), ?_⟩
            rw [List.take_add_one, ep, Option.toList_some, List.foldl_append]
            exact A3
          · rintro σ H5 ⟨y3, y4, y5, y6, y7, y8, y9, rfl, sb, A⟩
            rw [List.take_of_length_le (by rw [hZ.length]; exact Nat.le_of_eq (List.length_map ..))] at A
            refine ⟨_, _, _, _, _, _, _, rfl, fun b' o e => ?_, A⟩
            exact sb b' o (ne_of_none e np') (sH4 _ _ e)
      · rintro σ H3 ⟨y3, y4, y5, y6, y7, y8, y9, rfl, s3, hd⟩
        rw [List.length_map] at hd
        have hE : ∀ e ∈ pairsO Lo, e.1 ∈ N ∧ e.2 ∈ N := fun e he => by
          obtain ⟨l, hl, rfl⟩ := List.mem_map.mp he
          exact hin l (List.mem_filter.mp hl).1
        have hsame : ∀ x ∈ N, ∀ y ∈ N, headN (pairsO Lo) N.length x = headN (pairsO Lo) N.length y ↔ Conn (sameL (Lo.filterMap id)) x y := fun x hx y hy => head_same hE hx hy
        have hinN : ∀ x ∈ N, headN (pairsO Lo) N.length x ∈ N := fun x hx => head_in hE hx _
        generalize headN (pairsO Lo) N.length = hN at hd hsame hinN
        refine ⟨.ref a, rfl, a, rfl, ⟨_, SqL.of (s3 _ _ ha)⟩, fun D3 nD3 => lc_it (walk_list (K := K) (a := a) (xs := N.map V.str)) (fun i H' => Same H3 H' ∧ ∃ (ps : List Addr) (es : List (Str × Addr)), H' D3 = some (.lst (ps.map V.ref)) ∧
          All2 (fun p e => H' p = some (.tup [.str e.1, .ref e.2])) ps es ∧ es.map (·.1) = (N.take i).map hN ∧ (es.map (·.2)).Nodup ∧ ∀ e ∈ es, H' e.2 = some (.dK []) ∧ H3 e.2 = none ∧ e.2 ≠ D3) ⟨same_upd nD3, [], [], upd_same, .nil, rfl, List.nodup_nil, nofun⟩ (fun i H' _ h => SqL.of (h.1 _ _ (s3 _ _ ha))) ?_ ?_⟩
        · rintro i x H4 H5 hi ⟨s4, ps, es, hD, hps, he, ndu, hes⟩ ⟨rfl, ex⟩
          obtain ⟨t, ht, rfl⟩ : ∃ t, N[i]? = some t ∧ V.str t = x := by
            rw [List.getElem?_map] at ex
            cases e : N[i]? with
            | none => rw [e] at ex; cases ex
            | some t => rw [e] at ex; exact ⟨t, rfl, Option.some.inj ex⟩
          have mt : t ∈ N := List.mem_of_getElem? ht
          refine ⟨rfl, yes_run ?_⟩
          refine ⟨_, rfl, _, rfl, p, _, rfl, (hd.same s4).get mt, fun u nu => ⟨by show 2 ≤ sizeLine; decide, fun v nv => ⟨ps.map V.ref, (same_upd nv) _ _ ((same_upd nu) _ _ hD), ?_, ((s4.trans (same_upd nu)).trans (same_upd nv)).fresh nD3, ps ++ [v], es ++ [(hN t, u)], ?_, ?_, ?_, ?_, ?_⟩⟩⟩
          · rw [List.length_map, hps.length, ← List.length_map (f := fun e : Str × Addr => e.1), he, List.length_map, List.length_take]
            exact small1000 (by omega)
          · rw [upd_same, List.map_append]
            rfl
          · have vD : v ≠ D3 := fun z => by rw [z, (same_upd nu) _ _ hD] at nv; cases nv
            refine (hps.imp fun p x hp => ?_).append (.cons (by rw [upd_ne vD, upd_same]) .nil)
            have pD : p ≠ D3 := fun z => by rw [z, hD] at hp; cases hp
            rw [upd_ne pD]
            exact (same_upd nv) _ _ ((same_upd nu) _ _ hp)
          · rw [take_next0 ht, List.map_append, List.map_append, he]
            rfl
          · rw [List.map_append]
            refine List.nodup_append.mpr ⟨ndu, List.nodup_cons.mpr ⟨List.not_mem_nil, List.nodup_nil⟩, fun a ha b hb z => ?_⟩
            obtain rfl : b = u := List.mem_singleton.mp hb
            subst z
            obtain ⟨e, he, rfl⟩ := List.mem_map.mp ha
            rw [(hes e he).1] at nu
            cases nu
          · intro e me
            rcases List.mem_append.mp me with me | me
            · obtain ⟨e1, e2, e3⟩ := hes e me
              refine ⟨?_, e2, e3⟩
              rw [upd_ne e3]
              exact (same_upd nv) _ _ ((same_upd nu) _ _ e1)
            · cases List.mem_singleton.mp me
              have uD : u ≠ D3 := fun z => by rw [z, hD] at nu; cases nu
              refine ⟨?_, ?_, uD⟩
              · show (upd _ D3 _) u = _
                rw [upd_ne uD]
                exact (same_upd nv) _ _ upd_same
              · show H3 u = none
                cases h : H3 u with
                | none => rfl
                | some o => rw [s4 _ _ h] at nu; cases nu
        · rintro H4 ⟨s4, ps, es, hD, hps, he, ndu, hes⟩
          rw [List.take_of_length_le (by rw [List.length_map]; exact Nat.le_refl _)] at he
          obtain ⟨hs, f, ndh, mh, ok, hf⟩ := outer_of ndu
          refine ⟨D3, ps, rowsV es, rfl, SqL.of hD, all2_paired (R' := fun p (kv : Key × V) => SqT K H4 p [kV kv.1, kv.2]) (f := fun e : Str × Addr => ((Sum.inr e.1 : Key), V.ref e.2)) (fun p e h => SqT.of h) hps, fun d nd => ?_⟩
          have s5 := s4.trans (same_upd nd (o := .dK (mergeK [] (rowsV es))))
          have hd5 : (upd H4 d (.dK (mergeK [] (rowsV es)))) d = some (.dK (mergeK [] (rowsV es))) := upd_same
          have fd : ∀ x ∈ hs, f x ≠ d := fun x hx z => by
            have e := (hes _ (hf x hx)).1
            rw [show (x, f x).2 = d from z, nd] at e
            cases e
          have f3 : ∀ x ∈ hs, H3 (f x) = none := fun x hx => (hes _ (hf x hx)).2.1
          have d3 : H3 d = none := by
            cases h : H3 d with
            | none => rfl
            | some o => rw [s4 _ _ h] at nd; cases nd
          have D0 : DictsAt (upd H4 d (.dK (mergeK [] (rowsV es)))) hs f (relS hN []) := ⟨fun x hx => ⟨[], (same_upd nd) _ _ (hes _ (hf x hx)).1, List.nodup_nil, fun k => ⟨fun h => (nomatch h), fun ⟨_, _, _, h⟩ => (nomatch h)⟩, nofun⟩⟩
          generalize upd H4 d (.dK (mergeK [] (rowsV es))) = H5 at s5 hd5 D0
          generalize mergeK [] (rowsV es) = kvs at hd5 ok
          have mN : ∀ x, x ∈ hs ↔ ∃ y ∈ N, hN y = x := fun x => by
            rw [mh, he, List.mem_map]
          have inH : ∀ x ∈ N, hN x ∈ hs := fun x hx => (mN _).mpr ⟨x, hx, rfl⟩
          have fewH : hs.length ≤ 60 := by
            have e := ndh.length_le_of_subset (l₂ := N.map hN) fun x hx => by
              obtain ⟨y, hy, e⟩ := (mN x).mp hx
              exact List.mem_map.mpr ⟨y, hy, e⟩
            rw [List.length_map] at e
            omega
          have hpd : p ≠ d := fun z => by
            obtain ⟨kv', e, _⟩ := hd
            rw [z, d3] at e
            cases e
          refine ⟨_, rfl, b, rfl, ⟨_, SqL.of (s5 _ _ (s3 _ _ hls))⟩, fun D4 nD4 => lc_it (walk_list (K := K) (a := b) (xs := ls)) (fun k H' => Same H5 H' ∧ ∃ zs, H' D4 = some (.lst zs) ∧ All2 (LnkQ K H') zs (strictO (Lo.take k)) ∧ zs.length ≤ k) ⟨same_upd nD4, [], upd_same, .nil, Nat.zero_le _⟩ (fun k H' _ h => SqL.of (h.1 _ _ (s5 _ _ (s3 _ _ hls)))) ?_ ?_⟩
          · rintro k z H6 H7 hk ⟨s6, zs, hzs, hZ, lz⟩ ⟨rfl, ez⟩
            obtain ⟨o, eo, ho⟩ := hL.get ez
            have st := strictO_at eo
            have kl : k < Lo.length := (List.getElem?_eq_some_iff.mp eo).1
            refine ⟨rfl, ?_⟩
            cases o with
            | none =>
              cases (show z = .non from ho)
              refine ⟨_, rfl, rfl, false, by rw [decide_eq_true rfl]; rfl, iteF (iteF ⟨s6, zs, hzs, ?_, by omega⟩)⟩
              rw [st]
              show All2 _ zs (_ ++ [])
              rw [List.append_nil]
              exact hZ
            | some l =>
              obtain ⟨t, rfl, ht⟩ := ho
              have ht5 := ((s3.trans s5).trans s6).seqT ht
              refine ⟨_, rfl, rfl, true, by rw [decide_eq_false nofun]; rfl, iteT ?_⟩
              refine ⟨_, rfl, t, _, _, .bl l.2.2, rfl, rfl, ht5, rfl, l.2.2, rfl, ?_⟩
              refine ite2 (fun c => ?_) (fun c => ?_)
              · have c : l.2.2 = true := c
                refine ⟨_, rfl, zs, hzs, small1000 (by omega), s6.fresh nD4, _, upd_same, ?_, by rw [List.length_append]; show zs.length + 1 ≤ _; omega⟩
                have up : ∀ y e, LnkQ K H7 y e → LnkQ K (upd H7 D4 (.lst (zs ++ [.ref t]))) y e := by
                  rintro y e ⟨v, rfl, hv⟩
                  exact ⟨v, rfl, sqT_updL hzs hv⟩
                rw [st]
                show All2 _ _ (_ ++ if l.2.2 = true then [l] else [])
                rw [if_pos c]
                exact (hZ.imp up).append (.cons (up _ _ ⟨t, rfl, ht5⟩) .nil)
              · have c : ¬ l.2.2 = true := c
                refine ⟨s6, zs, hzs, ?_, by omega⟩
                rw [st]
                show All2 _ zs (_ ++ if l.2.2 = true then [l] else [])
                rw [if_neg c, List.append_nil]
                exact hZ
          · rintro H6 ⟨s6, zs, hzs, hZ, lz⟩
            rw [List.take_of_length_le (by rw [hL.length]; exact Nat.le_refl _)] at hZ
            have s36 := s5.trans s6
            have hd6 := s6 _ _ hd5
            have D6 : DictsAt H6 hs f (relS hN []) := D0.move fun x hx o e => s6 _ _ e
            have nf : ∀ {b : Addr} {o : HO}, H3 b = some o → ∀ x ∈ hs, b ≠ f x := fun e x hx => ne_of_none e (f3 x hx)
            have nt : ∀ {b : Addr} {ws : List V}, H6 b = some (.tup ws) → ∀ x ∈ hs, b ≠ f x := fun e x hx z => by
              obtain ⟨kv, h, _⟩ := D6.row x hx
              rw [z, h] at e
              cases e
            have nl : ∀ {b : Addr} {ws : List V}, H6 b = some (.lst ws) → ∀ x ∈ hs, b ≠ f x := fun e x hx z => by
              obtain ⟨kv, h, _⟩ := D6.row x hx
              rw [z, h] at e
              cases e
            have inS : ∀ l ∈ strictO Lo, l.1 ∈ N ∧ l.2.1 ∈ N := fun l hl => hin l (List.mem_filter.mp hl).1
            refine ⟨D4, rfl, ⟨_, SqL.of hzs⟩, for_it (walk_list (K := K) (a := D4) (xs := zs))
              (fun j σ H' => ∃ y3 y4 y5 y6 y7 y8 y9, σ = [some (V.ref a), some (V.ref b), some (V.ref p), y3, y4, y5, y6, y7, y8, y9, some (V.ref d), none] ∧ SameF hs f H6 H' ∧ DictsAt H' hs f (relS hN ((strictO Lo).take j)))
              ⟨_, _, _, _, _, _, _, rfl, .refl, D6⟩ (fun j σ H' _ ⟨_, _, _, _, _, _, _, _, e, _⟩ => SqL.of (e _ _ (nl hzs) hzs)) ?_ ?_⟩
            · rintro j z σ H7 H8 hj ⟨y3, y4, y5, y6, y7, y8, y9, rfl, sf, DD⟩ ⟨rfl, ez⟩
              obtain ⟨l, el, t, rfl, ht⟩ := hZ.get ez
              obtain ⟨m1, m2⟩ := inS l (List.mem_of_getElem? el)
              have hd8 : HeadAt H8 p N hN := hd.move fun o e => sf _ _ (nf e) (s36 _ _ e)
              have ho8 : H8 d = some (.dK kvs) := sf _ _ (fun x hx z => fd x hx z.symm) hd6
              obtain ⟨H9, put, D9, o, e9⟩ := DD.put ok.inj fewH (inH _ m1) (inH _ m2) (.bl true) rfl
              refine ⟨t, _, rfl, sqT_keepF (fun b o n e => sf b o n e) (fun x hx => by obtain ⟨kv, h, _⟩ := D6.row x hx; exact ⟨kv, h⟩) ht, rfl, _, _, rfl, _, _, rfl, _, _, rfl, rfl, ?_⟩
              refine ⟨_, rfl, _, rfl, _, rfl, p, _, rfl, hd8.get m1, d, _, rfl, dget_of ho8 (ok.val _ (inH _ m1)), _, rfl, _, rfl, p, _, rfl, hd8.get m2, _, H9, rfl, put, ?_⟩
              refine ⟨_, _, _, _, _, _, _, rfl, by rw [e9]; exact sf.upd (inH _ m1), ?_⟩
              rw [show (strictO Lo).take (j + 1) = (strictO Lo).take j ++ [l] from take_next0 el]
              unfold relS
              rw [List.foldl_append]
              exact D9
            · rintro σ H7 ⟨y3, y4, y5, y6, y7, y8, y9, rfl, sf, DD⟩
              rw [List.take_of_length_le (by rw [hZ.length]; exact Nat.le_refl _)] at DD
              have hd7 : H7 d = some (.dK kvs) := sf _ _ (fun x hx z => fd x hx z.symm) hd6
              have sH7 : ∀ b o, H3 b = some o → H7 b = some o := fun b o e => sf _ _ (nf e) (s36 _ _ e)
              have D7 : ∀ od, DictsAt (upd H7 d (.frz od (.dK kvs))) hs f (relS hN (strictO Lo)) := fun od => DD.move fun x hx o e => by
                rw [upd_ne (fd x hx)]
                exact e
              have keyAt : ∀ {i : Nat} {k : Key} {v : V}, kvs[i]? = some (k, v) → ∃ m, hs[i]? = some m ∧ k = Sum.inr m := fun {i k v} e => by
                have e1 : (kvs.map (·.1))[i]? = some k := by rw [List.getElem?_map, e]; rfl
                rw [ok.keys, List.getElem?_map] at e1
                cases h : hs[i]? with
                | none => rw [h] at e1; cases e1
                | some m => rw [h] at e1; exact ⟨m, rfl, (Option.some.inj e1).symm⟩
              have lenK : kvs.length = hs.length := by
                have e := congrArg List.length ok.keys
                rw [List.length_map, List.length_map] at e
                exact e
              refine ⟨d, .dK kvs, hd7, True.intro, fun od => ⟨_, rfl, d, od, rfl, .inl ⟨kvs, upd_same, for_it (walk_keys (d := d) (o := od) (kvs := kvs))
                (fun i σ H' => ∃ y3 y4 y5 y6 y7 y8 y9 y11, σ = [some (V.ref a), some (V.ref b), some (V.ref p), y3, y4, y5, y6, y7, y8, y9, some (V.ref d), y11] ∧ SameF hs f (upd H7 d (.frz od (.dK kvs))) H' ∧ DictsAt H' hs f ((hs.take i).foldl closeBy (relS hN (strictO Lo))))
                ⟨_, _, _, _, _, _, _, _, rfl, .refl, D7 od⟩ (fun i σ H' _ ⟨_, _, _, _, _, _, _, _, _, e, _⟩ => e _ _ (fun x hx z => fd x hx z.symm) upd_same) ?_ ?_⟩⟩⟩
              · rintro i x σ H8 H9 hi ⟨y3, y4, y5, y6, y7, y8, y9, y11, rfl, s8, D8⟩ ⟨rfl, k, v, ek, rfl⟩
                obtain ⟨m, em, rfl⟩ := keyAt ek
                have mm : m ∈ hs := List.mem_of_getElem? em
                have fz9 : H9 d = some (.frz od (.dK kvs)) := s8 _ _ (fun x hx z => fd x hx z.symm) upd_same
                refine ⟨_, rfl, d, od, rfl, .inl ⟨kvs, fz9, for_it (walk_keys (d := d) (o := od) (kvs := kvs))
                  (fun j σ H' => ∃ y3 y4 y5 y6 y7 y8 y9, σ = [some (V.ref a), some (V.ref b), some (V.ref p), y3, y4, y5, y6, y7, y8, y9, some (V.ref d), some (V.str m)] ∧ SameF hs f H9 H' ∧ DictsAt H' hs f (closeIn ((hs.take i).foldl closeBy (relS hN (strictO Lo))) m (hs.take j)))
                  ⟨_, _, _, _, _, _, _, rfl, .refl, D8.congr fun x _ y _ => (closeIn_nil _ m x y).symm⟩ (fun j σ H' _ ⟨_, _, _, _, _, _, _, _, e, _⟩ => e _ _ (fun x hx z => fd x hx z.symm) fz9) ?_ ?_⟩⟩
                · rintro j x σ HA HB hj ⟨y3, y4, y5, y6, y7, y8, y9, rfl, sA, DA⟩ ⟨rfl, k, v, ek2, rfl⟩
                  obtain ⟨x, ex, rfl⟩ := keyAt ek2
                  have mx : x ∈ hs := List.mem_of_getElem? ex
                  have fzB : HB d = some (.frz od (.dK kvs)) := sA _ _ (fun x hx z => fd x hx z.symm) fz9
                  have getB : ∀ z ∈ hs, DGet HB d (.str z) (some (.ref (f z))) := fun z hz => .inl ⟨kvs, Sum.inr z, .inr ⟨od, fzB⟩, rfl, (ok.val z hz).symm⟩
                  have xn : x ∉ hs.take j := fun z => by
                    have e2 : hs = hs.take j ++ (x :: hs.drop (j + 1)) := by
                      have e3 := (List.take_append_drop j hs).symm
                      rw [List.drop_eq_getElem_cons (List.getElem?_eq_some_iff.mp ex).1, (List.getElem?_eq_some_iff.mp ex).2] at e3
                      exact e3
                    rw [e2, List.nodup_append] at ndh
                    exact ndh.2.2 x z x List.mem_cons_self rfl
                  have tk : hs.take (j + 1) = hs.take j ++ [x] := take_next0 ex
                  obtain ⟨o, g, eo⟩ := DA.get mx mm
                  rw [closeIn_col xn] at eo
                  refine ⟨_, rfl, _, rfl, _, rfl, d, _, rfl, getB x mx, f x, o, rfl, g, _, rfl, ?_⟩
                  refine ite2 (fun c => ?_) (fun c => ?_)
                  · have c : o.isSome = true := c
                    rw [c] at eo
                    obtain ⟨ks, ls', hks, hls', sz, DM⟩ := DA.merge ok.inj fewH mx mm
                    have DN := DM.congr (R' := closeIn ((hs.take i).foldl closeBy (relS hN (strictO Lo))) m (hs.take (j + 1))) fun a _ b _ => by
                      rw [tk]
                      exact closeIn_yes xn eo.symm a b
                    refine ⟨_, rfl, _, rfl, d, _, rfl, getB x mx, .inr (.inr (.inl ⟨rfl, .inl ⟨_, hks⟩⟩)), _, rfl, _, rfl, d, _, rfl, getB m mm, f x, f m, ks, ls', rfl, rfl, hks, .inl hls', sz, fun e => ?_, fun e => ?_⟩
                    · have exm : x = m := ok.inj _ mx _ mm e
                      refine ⟨_, _, _, _, _, _, _, rfl, sA, DA.congr fun a _ b _ => ?_⟩
                      rw [tk, ← closeIn_yes xn eo.symm a b, closeIn_row]
                      by_cases q : a = x
                      · subst q
                        rw [decide_eq_true rfl, Bool.true_and, exm, closeIn_row, Bool.or_self]
                      · rw [decide_eq_false q, Bool.false_and, Bool.or_false]
                    · exact ⟨_, _, _, _, _, _, _, rfl, sA.upd mx, DN⟩
                  · have c : o.isSome = false := by
                      cases h : o.isSome with
                      | false => rfl
                      | true => exact absurd h c
                    rw [c] at eo
                    refine ⟨_, _, _, _, _, _, _, rfl, sA, DA.congr fun a _ b _ => ?_⟩
                    rw [tk]
                    exact closeIn_no eo.symm a b
                · rintro σ HA ⟨y3, y4, y5, y6, y7, y8, y9, rfl, sA, DA⟩
                  rw [show hs.take kvs.length = hs from List.take_of_length_le (by rw [lenK]; exact Nat.le_refl _)] at DA
                  refine ⟨_, _, _, _, _, _, _, _, rfl, fun b o n e => sA b o n (s8 b o n e), ?_⟩
                  rw [take_next0 em, List.foldl_append]
                  exact DA.congr fun a ma b _ => closeIn_all _ m ma b
              · rintro σ H8 ⟨y3, y4, y5, y6, y7, y8, y9, y11, rfl, s8, D8⟩
                rw [show hs.take kvs.length = hs from List.take_of_length_le (by rw [lenK]; exact Nat.le_refl _)] at D8
                have fz8 : H8 d = some (.frz od (.dK kvs)) := s8 _ _ (fun x hx z => fd x hx z.symm) upd_same
                refine ⟨fz8, ?_⟩
                have k3 : ∀ b o, H3 b = some o → (upd H8 d (.dK kvs)) b = some o := fun b o e => by
                  have nb : b ≠ d := ne_of_none e d3
                  rw [upd_ne nb]
                  exact s8 b o (nf e) (by rw [upd_ne nb]; exact sH7 b o e)
                have D9 : DictsAt (upd H8 d (.dK kvs)) hs f (hs.foldl closeBy (relS hN (strictO Lo))) := D8.move fun x hx o e => by
                  rw [upd_ne (fd x hx)]
                  exact e
                have hd9 : (upd H8 d (.dK kvs)) d = some (.dK kvs) := upd_same
                generalize upd H8 d (.dK kvs) = H9 at k3 D9 hd9
                refine ⟨_, rfl, _, rfl, by show 2 ≤ sizeLine; decide, fun r nr => q r _ (fun b o e => (same_upd nr) _ _ (k3 _ _ (s3 _ _ e))) ⟨p, d, hN, hs, _, kvs, f, upd_same, hd.move fun o e => (same_upd nr) _ _ (k3 _ _ e), (same_upd nr) _ _ hd9, ok, D9.move fun x hx o e => (same_upd nr) _ _ e, fewH, mN, hsame, fun x hx y hy => ?_, hinN, ndh, ?_, np', none_up s3 d3, fun x hx => none_up s3 (f3 x hx)⟩⟩
                · have hR : ∀ i j, relS hN (strictO Lo) i j = true → j ∈ hs := fun i j h => by
                    obtain ⟨a, b, hl, _, rfl⟩ := relS_step.mp h
                    exact inH _ (hin _ hl).2
                  rw [close_chain hR, ← chain_bef hin hsame hx hy]
                  have e : (fun i j => relS hN (strictO Lo) i j = true) = HeadStep hN (Lo.filterMap id) := by
                    funext i j
                    exact propext relS_step
                  rw [e]
                · cases h : H r with
                  | none => rfl
                  | some o => rw [k3 _ _ (s3 _ _ h)] at nr; cases nr
end
end Lw
set_option Elab.async false
set_option linter.all false
set_option maxRecDepth 100000
set_option maxHeartbeats 1000000
/-! what is told by hand: _law_order as data -/
namespace Lw
open PySem PySem.Spec PyProof.Rows L2 TKS DN
def lkO : Option Lnk → D
  | none => .non
  | some l => .tup [.str l.1, .str l.2.1, .bl l.2.2]
/-- the two dicts of the law's order: heads, and who comes after whom -/
structure ModelD (N : List Str) (L : List Lnk) (d : D) : Prop where
  ex : ∃ (hd : Hd) (hs : List Str) (R : Rel Str) (kh ka : List (Key × D)), d = .tup [.dic kh, .dic ka] ∧ (kh.map (·.1)).Nodup ∧ (∀ k, k ∈ kh.map (·.1) ↔ ∃ x ∈ N, k = Sum.inr x) ∧ (∀ x ∈ N, vD kh (Sum.inr x) = some (.str (hd x))) ∧
    ka.map (·.1) = hs.map Sum.inr ∧ (∀ x ∈ hs, ∃ kx, vD ka (Sum.inr x) = some (.dic kx) ∧ (kx.map (·.1)).Nodup ∧ ∀ k, k ∈ kx.map (·.1) ↔ ∃ y ∈ hs, k = Sum.inr y ∧ R x y = true) ∧ hs.length ≤ 60 ∧ (∀ x, x ∈ hs ↔ ∃ y ∈ N, hd y = x) ∧
    (∀ x ∈ N, ∀ y ∈ N, hd x = hd y ↔ Conn (sameL L) x y) ∧ (∀ x ∈ N, ∀ y ∈ N, R (hd x) (hd y) = true ↔ Bef L x y) ∧ (∀ x ∈ N, hd x ∈ N) ∧ hs.Nodup
def f__law_order (C : Nat → Addr) : PF := fun ds P R => ∃ (N : List Str) (Lo : List (Option Lnk)), ds = [.lst (N.map .str), .lst (Lo.map lkO)] ∧ N.length ≤ 60 ∧ Lo.length ≤ 60 ∧ (∀ l ∈ Lo.filterMap id, l.1 ∈ N ∧ l.2.1 ∈ N) ∧ ∀ d, ModelD N (Lo.filterMap id) d → P d
theorem len__law_order {C : Nat → Addr} : ∀ ds P R, f__law_order C ds P R → ds.length = 2 := fun _ _ _ ⟨_, _, e, _⟩ => by rw [e]; rfl
theorem links_in_heap {K : PySem.W.Frag} {Hm H : Hp} (l : Le Hm H) : ∀ {Lo : List (Option Lnk)} {xs : List V}, DqL K Hm xs (Lo.map lkO) → All2 (LnkOQ K H) xs Lo
  | [], _, .nil => .nil
  | none :: r, _, .cons h t => .cons (by cases h; rfl) (links_in_heap l t)
  | some k :: r, _, .cons h t => by
    refine .cons ?_ (links_in_heap l t)
    cases h with
    | tup hs hx =>
      cases hx with
      | cons h1 hx =>
        cases hx with
        | cons h2 hx =>
          cases hx with
          | cons h3 hx =>
            cases hx
            cases h1
            cases h2
            cases h3
            exact ⟨_, rfl, l.seqT hs⟩
/-- the mask, with all that is new -/
def fill (Hm H H' : Hp) : Hp := fun b => match Hm b with
  | some o => some o
  | none => match H b with
    | some _ => none
    | none => H' b
theorem fill_old {Hm H H' : Hp} {b : Addr} {o : HO} (h : Hm b = some o) : fill Hm H H' b = some o := by
  unfold fill
  rw [h]
theorem fill_new {Hm H H' : Hp} {b : Addr} {o : HO} (l : Le Hm H) (n : H b = none) (h : H' b = some o) : fill Hm H H' b = some o := by
  unfold fill
  rw [none_of_le l n, n]
  exact h
theorem fill_ok {Hm H H' : Hp} (l : Le Hm H) (s : Same H H') : New Hm H (fill Hm H H') H' := by
  refine ⟨fun b o h => fill_old h, s, fun b o h => ?_, fun b o h => ?_⟩
  · unfold fill at h
    cases e : Hm b with
    | some u =>
      rw [e] at h
      cases h
      rcases l b _ e with q | ⟨q, ob, q2⟩
      · exact .inl (s _ _ q)
      · exact .inr ⟨q, ob, s _ _ q2⟩
    | none =>
      rw [e] at h
      cases e2 : H b with
      | some u => rw [e2] at h; cases h
      | none => rw [e2] at h; exact .inl h
  · unfold fill at h
    cases e : Hm b with
    | some u => exact .inl ⟨u, rfl⟩
    | none =>
      rw [e] at h
      cases e2 : H b with
      | some u => rw [e2] at h; cases h
      | none => exact .inr rfl
/-- a dict's rows as data, told by one function of the key -/
theorem dq_rows {K : PySem.W.Frag} {H : Hp} (g : Key → D) : ∀ kvs : List (Key × V), (∀ e ∈ kvs, Dq K H e.2 (g e.1)) → DqP K H kvs (kvs.map fun e => (e.1, g e.1))
  | [], _ => .nil
  | e :: r, h => .cons (h e List.mem_cons_self) (dq_rows g r fun x hx => h x (List.mem_cons_of_mem _ hx))
theorem vD_rows (g : Key → D) (k : Key) : ∀ kvs : List (Key × V), k ∈ kvs.map (·.1) → vD (kvs.map fun e => (e.1, g e.1)) k = some (g k)
  | e :: r, h => by
    unfold vD
    rw [List.map_cons, List.find?_cons]
    by_cases c : e.1 = k
    · rw [decide_eq_true c, ← c]
      rfl
    · rw [decide_eq_false c]
      exact vD_rows g k r ((List.mem_cons.mp h).elim (fun z => absurd z.symm c) id)
theorem keys_rows (g : Key → D) (kvs : List (Key × V)) : (kvs.map fun e => (e.1, g e.1)).map (·.1) = kvs.map (·.1) := by
  rw [List.map_map]
  rfl
/-- a row of a dict whose keys are each once: what valV says of it -/
theorem val_row {kvs : List (Key × V)} (nd : (kvs.map (·.1)).Nodup) {e : Key × V} (h : e ∈ kvs) : valV kvs e.1 = some e.2 := by
  induction kvs with
  | nil => cases h
  | cons x r ih =>
    obtain ⟨n1, n2⟩ := List.nodup_cons.mp (show (x.1 :: r.map (·.1)).Nodup from nd)
    unfold valV
    rw [List.find?_cons]
    rcases List.mem_cons.mp h with rfl | h
    · rw [decide_eq_true rfl]
      rfl
    · rw [decide_eq_false fun z => n1 (by rw [z]; exact List.mem_map_of_mem (f := (·.1)) h)]
      exact ih n2 h
def rowOf (H : Hp) (a : Addr) : List (Key × V) := match H a with
  | some (.dK kv) => kv
  | _ => []
def gHead (hd : Hd) : Key → D
  | .inr x => .str (hd x)
  | .inl i => .int i
def gAft (H : Hp) (f : Str → Addr) : Key → D
  | .inr x => .dic ((rowOf H (f x)).map fun e => (e.1, .bl true))
  | .inl i => .int i
section
variable {P : Program} {w : World} {K : PySem.W.Frag} {mg : Str → Option Value} {base : Heap} {C : Nat → Addr}
theorem df__law_order (T : Txt K mg) (F : Fn K mg "_law_order" s__law_order) : Df P w K mg base "_law_order" 1 ["names", "links"] (spP K 2 (f__law_order C)) := (ok__law_order T F).imp fun vs H Q E h => by
  obtain ⟨hl, Hm, ds, Pr, l, hd, ⟨N, Lo, rfl, few, fewL, hin, hf⟩, hq⟩ := h
  obtain ⟨v1, v2, rfl, h1, h2⟩ := hd.two
  cases h1 with
  | lst ha hx =>
  cases h2 with
  | lst hb hy =>
  rename_i a xs b ys
  rw [hx.of_strs] at ha
  refine ⟨a, b, N, Lo, rfl, l.lst ha, few, ⟨_, l.lst hb, links_in_heap l hy⟩, fewL, hin, fun p H' s M => ?_⟩
  obtain ⟨d1, d2, hdm, hs, R, kvs, f, hp, ⟨kh, hd1, ndh, ksh, vsh⟩, hd2, ok, D, fewH, mN, same, bef, inN, nds, n0, n1, n2, nf⟩ := M.ex
  have nw := fill_ok l s
  have ndk : (kvs.map (·.1)).Nodup := by
    rw [ok.keys]
    exact List.pairwise_map.mpr (nds.imp fun {x y} n e => n (Sum.inr.inj e))
  have row : ∀ x ∈ hs, H' (f x) = some (.dK (rowOf H' (f x))) ∧ ((rowOf H' (f x)).map (·.1)).Nodup ∧ (∀ k, k ∈ (rowOf H' (f x)).map (·.1) ↔ ∃ y ∈ hs, k = Sum.inr y ∧ R x y = true) ∧ ∀ e ∈ rowOf H' (f x), e.2 = V.bl true := fun x hx => by
    obtain ⟨kv, e, r⟩ := D.row x hx
    have z : rowOf H' (f x) = kv := by unfold rowOf; rw [e]
    rw [z]
    exact ⟨e, r⟩
  refine hq _ (hf (.tup [.dic (kh.map fun e => (e.1, gHead hdm e.1)), .dic (kvs.map fun e => (e.1, gAft H' f e.1))]) ⟨hdm, hs, R, _, _, rfl, by rw [keys_rows]; exact ndh, fun k => by rw [keys_rows]; exact ksh k, fun x hx => vD_rows (gHead hdm) (Sum.inr x) kh ((ksh _).mpr ⟨x, hx, rfl⟩), by rw [keys_rows]; exact ok.keys, fun x hx => ?_, fewH, mN, same, bef, inN, nds⟩) _ (fill Hm H H') H' nw ?_
  · obtain ⟨r1, r2, r3, r4⟩ := row x hx
    refine ⟨_, vD_rows (gAft H' f) (Sum.inr x) kvs (by rw [ok.keys]; exact List.mem_map_of_mem hx), ?_, fun k => ?_⟩
    · rw [keys_rows (fun _ => .bl true)]
      exact r2
    · rw [keys_rows (fun _ => .bl true)]
      exact r3 k
  · refine .tup (.of (fill_new l n0 hp)) (.cons (.dic (.inl (fill_new l n1 hd1)) (dq_rows _ _ fun e he => ?_)) (.cons (.dic (.inl (fill_new l n2 hd2)) (dq_rows _ _ fun e he => ?_)) .nil))
    · obtain ⟨x, hx, ek⟩ := (ksh e.1).mp (List.mem_map_of_mem he)
      have z := val_row ndh he
      rw [ek, vsh x hx] at z
      rw [← Option.some.inj z, ek]
      exact .str _
    · have mk : e.1 ∈ kvs.map (·.1) := List.mem_map_of_mem he
      rw [ok.keys] at mk
      obtain ⟨x, hx, ek⟩ := List.mem_map.mp mk
      have z := val_row ndk he
      rw [← ek, ok.val x hx] at z
      rw [← Option.some.inj z, ← ek]
      obtain ⟨r1, r2, r3, r4⟩ := row x hx
      refine .dic (.inl (fill_new l (nf x hx) r1)) (dq_rows (fun _ => .bl true) _ fun u hu => ?_)
      rw [r4 u hu]
      exact .bl true
end
end Lw
set_option Elab.async false
set_option linter.all false
set_option maxRecDepth 100000
set_option maxHeartbeats 4000000
namespace Lw
open PySem PySem.Spec PyProof.Rows L2 TKS DN
section
variable {P : Program} {w : World} {K : PySem.W.Frag} {mg : Str → Option Value} {base : Heap} {C : Nat → Addr}
def d_Order_precedes (C : Nat → Addr) : S :=
  retS (ap2 (gEqA false) (ap2 gAnd (ap2 gShr (ap2 gIxA (ap1 (fldG (C 0) "after") (vr 0)) (vr 1)) (vr 2)) (ret (.int 1))) (ret (.int 1)))
def f_Order_precedes (C : Nat → Addr) : PF := fnP 3 3 (d_Order_precedes C)
theorem fn_Order_precedes (T : Txt K mg) (A : Wds K mg) (B : Kls K mg C)  {f : Addr} {fd : FuncData} (F : Fun K "precedes" "Order.precedes" s_Order_precedes f fd) : FnOk P w K mg base CX0 1 f fd ["self", "one", "other"] (spP K 3 (f_Order_precedes C)) :=
  f_ok F sc_Order_precedes (fun cdv AA outer s H E hr => have hu := Nat.lt_of_le_of_lt (Nat.add_le_add_left (by decide : 1 ≤ 64) _) hr.units
    s_one (s_ret (ps_ret (m_op (pe_cmpR (o_eq hr.units) (m_op (pe_op op_andN (m_op (pe_op op_shrNN (m_op (pe_ix o_ix (m_fld (pe_fld (m_vr (pv 0)) rfl) (B.c 0 (by decide)) (B.n_0_after)) (m_vr (pv 1)) (fun _ _ => rfl)) p_ixA) (m_vr (pv 2))) p_shr) (m_c pe_int (fun _ => .int _))) p_and) (m_c pe_int (fun _ => .int _)) (nomark _)) p_eqA))))
def d__law_is_name (C : Nat → Addr) : S :=
  seqS (ifS (orT (notT (truT (isiW "str" (vr 0)))) (notT (tst (chW gLe gLe (ret (.int 1)) (apN gLenA (consW (vr 0) (nilW))) (ret (.int 8)))))) (retS (ret (.bl false))) (skipS)) <|
  retS (ap2 (gEqA false) (lcW (itS (vr 0)) (nameT 1) (tst (ap2 (gInA true) (vr 1) (ret (.str "abcdefghijklmnopqrstuvwxyz")))) (vr 1) [1]) (apN mkL (nilW)))
def f__law_is_name (C : Nat → Addr) : PF := fnP 1 2 (d__law_is_name C)
theorem fn__law_is_name (T : Txt K mg) (A : Wds K mg) (B : Kls K mg C)  {f : Addr} {fd : FuncData} (F : Fun K "_law_is_name" "_law_is_name" s__law_is_name f fd) : FnOk P w K mg base CX0 1 f fd ["value"] (spP K 1 (f__law_is_name C)) :=
  f_ok F sc__law_is_name (fun cdv AA outer s H E hr => have hu := Nat.lt_of_le_of_lt (Nat.add_le_add_left (by decide : 1 ≤ 64) _) hr.units
    s_seq (pss_cons (s_if (ps_if (PW.pt (m_or (pw_or (m_not (pt_not (m_truth (pt_truth (m_isi (pe_callB call_isi (by rfl) T.m_isinstance (by decide +kernel) (pa_cons (m_vr (pv 0)) (pa_cons (pe_bltn (v := .ty "str") (by rfl) T.m_str boot_str rfl) pa_nil))) ok_str) (by intro _; rfl))))) (pw_or1 (m_not (pt_not (m_chnT (pt_chain op_le op_le (m_c pe_int (fun _ => .int _)) (m_cb (pe_callB o_len (by rfl) T.m_len (by decide +kernel) (m_cons (pa_cons (m_vr (pv 0)) (m_nil pa_nil)))) p_lenA) (m_c pe_int (fun _ => .int _))) p_le p_le))))))) (s_one (s_ret (ps_ret (m_c pe_bl (fun _ => .bl _))))) (s_nil pss_nil)))
    (s_one (s_ret (ps_ret (m_op (pe_cmpR (o_eq hr.units) (m_lc (pe_lc (own := [("sign", 1)]) rfl sc__law_is_name.nd (i_str (pi_str (m_vr (pv 0)))) (blkOk_by (N := ["value", "sign"]) (sc := defScope s__law_is_name) (by decide +kernel)) (fun _ _ _ _ _ => g_name (pg_name (i := 1) sc__law_is_name.nd rfl (by first | exact Or.inl rfl | exact Or.inr rfl)) (by decide)) (fun _ _ _ _ _ => pts_one (m_tst (pt_cmpR (o_nin (unit65 hr)) (m_vr (pv 1)) (m_c pe_str (fun _ => .str _)) (by rfl)) p_ninA)) (fun _ _ _ _ _ => m_vr (pv 1))) (by decide)) (m_lst (pe_lst (m_nil pa_nil))) (nomark _)) p_eqA))))))
def d__law_links (C : Nat → Addr) : S :=
  seqS (setO (okL (nilW)) 1) <|
  seqS (setS 2 (ret (.str ""))) <|
  seqS (forS (itA (vr 0)) (tupT 2 (consT (nameT 3) (consT (nameT 4) (nilT)))) (seqS (ifS (tst (ap2 (gInA false) (vr 3) (apN mkT (consW (ret (.str "then")) (consW (ret (.str "later")) (nilW)))))) (appS 1 (apN mkT (consW (vr 2) (consW (vr 4) (consW (ret (.bl true)) (nilW)))))) (ifS (tst (ap2 (gInA false) (vr 3) (apN mkT (consW (ret (.str "back")) (consW (ret (.str "earlier")) (nilW)))))) (appS 1 (apN mkT (consW (vr 4) (consW (vr 2) (consW (ret (.bl true)) (nilW)))))) (ifS (tst (ap2 (gEqA false) (vr 3) (ret (.str "with")))) (appS 1 (apN mkT (consW (vr 2) (consW (vr 4) (consW (ret (.bl false)) (nilW)))))) (appS 1 (ret (.non)))))) <|
  ifS (tst (ap2 (gInA false) (vr 3) (apN mkT (consW (ret (.str "at")) (consW (ret (.str "then")) (consW (ret (.str "back")) (nilW))))))) (setS 2 (vr 4)) (skipS)) [3, 4]) <|
  retS (vr 1)
def f__law_links (C : Nat → Addr) : PF := fnP 1 5 (d__law_links C)
theorem fn__law_links (T : Txt K mg) (A : Wds K mg) (B : Kls K mg C)  {f : Addr} {fd : FuncData} (F : Fun K "_law_links" "_law_links" s__law_links f fd) : FnOk P w K mg base CX0 1 f fd ["sentences"] (spP K 1 (f__law_links C)) :=
  f_ok F sc__law_links (fun cdv AA outer s H E hr => have hu := Nat.lt_of_le_of_lt (Nat.add_le_add_left (by decide : 1 ≤ 64) _) hr.units
    s_seq (pss_cons (s_setO (ps_set (i := 1) sc__law_links.nd rfl (by first | exact Or.inl rfl | exact Or.inr rfl) (m_owL (pe_lst (m_nil pa_nil)))) not_false)
    (s_seq (pss_cons (s_set (ps_set (i := 2) sc__law_links.nd rfl (by first | exact Or.inl rfl | exact Or.inr rfl) (m_c pe_str (fun _ => .str _))) not_false)
    (s_seq (pss_cons (s_for (ps_for PassesOwn.never rfl (i_any (i_list (pi_list (m_vr (pv 0)))) (i_tup (pi_tup (m_vr (pv 0)))) (i_str (pi_str (m_vr (pv 0))))) (g_tup (show PG _ _ (gTup _ 2 _) from pg_tup (by rfl) (g_cons (pgs_cons (g_name (pg_name (i := 3) sc__law_links.nd rfl (by first | exact Or.inl rfl | exact Or.inr rfl)) not_false) (g_cons (pgs_cons (g_name (pg_name (i := 4) sc__law_links.nd rfl (by first | exact Or.inl rfl | exact Or.inr rfl)) not_false) (g_nil pgs_nil))))) (by rfl))) (s_seq (pss_cons (s_if (ps_if (m_tst (pt_cmpR (o_in (unit65 hr)) (m_vr (pv 3)) (m_tup (pe_tup (m_cons (pa_cons (m_c pe_str (fun _ => .str _)) (m_cons (pa_cons (m_c pe_str (fun _ => .str _)) (m_nil pa_nil))))))) (by rfl)) p_inA) (s_one (s_app (ps_expr (pe_bm PySem.F.plainAttrs_list PySem.F.slot_list_append PySem.F.type_list_append mt_append (pv 1) (pa_cons (m_tup (pe_tup (m_cons (pa_cons (m_vr (pv 2)) (m_cons (pa_cons (m_vr (pv 4)) (m_cons (pa_cons (m_c pe_bl (fun _ => .bl _)) (m_nil pa_nil))))))))) pa_nil))))) (s_one (s_if (ps_if (m_tst (pt_cmpR (o_in (unit65 hr)) (m_vr (pv 3)) (m_tup (pe_tup (m_cons (pa_cons (m_c pe_str (fun _ => .str _)) (m_cons (pa_cons (m_c pe_str (fun _ => .str _)) (m_nil pa_nil))))))) (by rfl)) p_inA) (s_one (s_app (ps_expr (pe_bm PySem.F.plainAttrs_list PySem.F.slot_list_append PySem.F.type_list_append mt_append (pv 1) (pa_cons (m_tup (pe_tup (m_cons (pa_cons (m_vr (pv 4)) (m_cons (pa_cons (m_vr (pv 2)) (m_cons (pa_cons (m_c pe_bl (fun _ => .bl _)) (m_nil pa_nil))))))))) pa_nil))))) (s_one (s_if (ps_if (m_tst (pt_cmpR (o_eq hr.units) (m_vr (pv 3)) (m_c pe_str (fun _ => .str _)) (nomark _)) p_eqA) (s_one (s_app (ps_expr (pe_bm PySem.F.plainAttrs_list PySem.F.slot_list_append PySem.F.type_list_append mt_append (pv 1) (pa_cons (m_tup (pe_tup (m_cons (pa_cons (m_vr (pv 2)) (m_cons (pa_cons (m_vr (pv 4)) (m_cons (pa_cons (m_c pe_bl (fun _ => .bl _)) (m_nil pa_nil))))))))) pa_nil))))) (s_one (s_app (ps_expr (pe_bm PySem.F.plainAttrs_list PySem.F.slot_list_append PySem.F.type_list_append mt_append (pv 1) (pa_cons (m_c pe_non (fun _ => .non)) pa_nil)))))))))))))
    (s_one (s_if (ps_if (m_tst (pt_cmpR (o_in (unit65 hr)) (m_vr (pv 3)) (m_tup (pe_tup (m_cons (pa_cons (m_c pe_str (fun _ => .str _)) (m_cons (pa_cons (m_c pe_str (fun _ => .str _)) (m_cons (pa_cons (m_c pe_str (fun _ => .str _)) (m_nil pa_nil))))))))) (by rfl)) p_inA) (s_one (s_set (ps_set (i := 2) sc__law_links.nd rfl (by first | exact Or.inl rfl | exact Or.inr rfl) (m_vr (pv 4))) not_false)) (s_nil pss_nil))))))))
    (s_one (s_ret (ps_ret (m_vr (pv 1)))))))))))
def d__law_names (C : Nat → Addr) : S :=
  retS (setSW (lcW (itA (vr 0)) (tupT 2 (consT (nameT 1) (consT (nameT 2) (nilT)))) (ret true) (vr 2) [1, 2]))
def f__law_names (C : Nat → Addr) : PF := fnP 1 3 (d__law_names C)
theorem fn__law_names (T : Txt K mg) (A : Wds K mg) (B : Kls K mg C)  {f : Addr} {fd : FuncData} (F : Fun K "_law_names" "_law_names" s__law_names f fd) : FnOk P w K mg base CX0 1 f fd ["sentences"] (spP K 1 (f__law_names C)) :=
  f_ok F sc__law_names (fun cdv AA outer s H E hr => have hu := Nat.lt_of_le_of_lt (Nat.add_le_add_left (by decide : 1 ≤ 64) _) hr.units
    s_one (s_ret (ps_ret (m_setS (pe_callB (cr_sortTx rfl) (by rfl) T.m_sorted (by decide +kernel) (pa_cons (pe_callTy (cr_setTx rfl) (by rfl) T.m_set (by decide +kernel) (pa_cons (m_lc (pe_lc (own := [("word", 1), ("moment", 2)]) rfl sc__law_names.nd (i_any (i_list (pi_list (m_vr (pv 0)))) (i_tup (pi_tup (m_vr (pv 0)))) (i_str (pi_str (m_vr (pv 0))))) (blkOk_by (N := ["sentences", "word", "moment"]) (sc := defScope s__law_names) (by decide +kernel)) (fun _ _ _ _ _ => g_tup (show PG _ _ (gTup _ 2 _) from pg_tup (by rfl) (g_cons (pgs_cons (g_name (pg_name (i := 1) sc__law_names.nd rfl (by first | exact Or.inl rfl | exact Or.inr rfl)) (by decide)) (g_cons (pgs_cons (g_name (pg_name (i := 2) sc__law_names.nd rfl (by first | exact Or.inl rfl | exact Or.inr rfl)) (by decide)) (g_nil pgs_nil))))) (by rfl))) (fun _ _ _ _ _ => m_yes pts_nil) (fun _ _ _ _ _ => m_vr (pv 2))) (by decide)) pa_nil)) pa_nil))))))
def d_closed (C : Nat → Addr) : S :=
  seqS (forS (itR1 (consW (apN gLenA (consW (vr 0) (nilW))) (nilW))) (nameT 1) (setS 0 (lcW (itL (vr 0)) (nameT 2) (ret true) (ifW (truT (ap2 gAnd (ap2 gShr (vr 2) (vr 1)) (ret (.int 1)))) (ap2 gOr (vr 2) (ap2 gIxA (vr 0) (vr 1))) (vr 2)) [2])) [1]) <|
  retS (vr 0)
def f_closed (C : Nat → Addr) : PF := fnP 1 3 (d_closed C)
theorem fn_closed (T : Txt K mg) (A : Wds K mg) (B : Kls K mg C)  {f : Addr} {fd : FuncData} (F : Fun K "closed" "closed" s_closed f fd) : FnOk P w K mg base CX0 1 f fd ["masks"] (spP K 1 (f_closed C)) :=
  f_ok F sc_closed (fun cdv AA outer s H E hr => have hu := Nat.lt_of_le_of_lt (Nat.add_le_add_left (by decide : 1 ≤ 64) _) hr.units
    s_seq (pss_cons (s_for (ps_for PassesOwn.never rfl (i_rng1 (pi_range1 (by rfl) T.m_range (m_cons (pa_cons (m_cb (pe_callB o_len (by rfl) T.m_len (by decide +kernel) (m_cons (pa_cons (m_vr (pv 0)) (m_nil pa_nil)))) p_lenA) (m_nil pa_nil))))) (g_name (pg_name (i := 1) sc_closed.nd rfl (by first | exact Or.inl rfl | exact Or.inr rfl)) not_false) (s_one (s_set (ps_set (i := 0) sc_closed.nd rfl (by first | exact Or.inl rfl | exact Or.inr rfl) (m_lc (pe_lc (own := [("mask", 2)]) rfl sc_closed.nd (i_list (pi_list (m_vr (pv 0)))) (blkOk_by (N := ["masks", "middle", "mask"]) (sc := defScope s_closed) (by decide +kernel)) (fun _ _ _ _ _ => g_name (pg_name (i := 2) sc_closed.nd rfl (by first | exact Or.inl rfl | exact Or.inr rfl)) (by decide)) (fun _ _ _ _ _ => m_yes pts_nil) (fun _ _ _ _ _ => m_if (pe_ifExp (m_truth (pt_truth (m_op (pe_op op_andN (m_op (pe_op op_shrNN (m_vr (pv 2)) (m_vr (pv 1))) p_shr) (m_c pe_int (fun _ => .int _))) p_and) (by intro _; rfl))) (m_op (pe_op op_orN (m_vr (pv 2)) (m_op (pe_ix o_ix (m_vr (pv 0)) (m_vr (pv 1)) (fun _ _ => rfl)) p_ixA)) p_or) (m_vr (pv 2))))) (by decide))) not_false))))
    (s_one (s_ret (ps_ret (m_vr (pv 0)))))))
def d_is_name (C : Nat → Addr) : S :=
  seqS (ifS (orT (notT (truT (isiW "str" (vr 0)))) (notT (tst (chW gLe gLe (ret (.int 1)) (apN gLenA (consW (vr 0) (nilW))) (ret k_LONGEST_NAME))))) (retS (ret (.bl false))) (skipS)) <|
  retS (apN gAll (consW (lcW (itS (vr 0)) (nameT 1) (ret true) (ap2 (gInA false) (vr 1) (ret k_LETTERS)) [1]) (nilW)))
def f_is_name (C : Nat → Addr) : PF := fnP 1 2 (d_is_name C)
theorem fn_is_name (T : Txt K mg) (A : Wds K mg) (B : Kls K mg C)  {f : Addr} {fd : FuncData} (F : Fun K "is_name" "is_name" s_is_name f fd) : FnOk P w K mg base CX0 1 f fd ["thing"] (spP K 1 (f_is_name C)) :=
  f_ok F sc_is_name (fun cdv AA outer s H E hr => have hu := Nat.lt_of_le_of_lt (Nat.add_le_add_left (by decide : 1 ≤ 64) _) hr.units
    s_seq (pss_cons (s_if (ps_if (PW.pt (m_or (pw_or (m_not (pt_not (m_truth (pt_truth (m_isi (pe_callB call_isi (by rfl) T.m_isinstance (by decide +kernel) (pa_cons (m_vr (pv 0)) (pa_cons (pe_bltn (v := .ty "str") (by rfl) T.m_str boot_str rfl) pa_nil))) ok_str) (by intro _; rfl))))) (pw_or1 (m_not (pt_not (m_chnT (pt_chain op_le op_le (m_c pe_int (fun _ => .int _)) (m_cb (pe_callB o_len (by rfl) T.m_len (by decide +kernel) (m_cons (pa_cons (m_vr (pv 0)) (m_nil pa_nil)))) p_lenA) (m_glob A.g_LONGEST_NAME (by rfl))) p_le p_le))))))) (s_one (s_ret (ps_ret (m_c pe_bl (fun _ => .bl _))))) (s_nil pss_nil)))
    (s_one (s_ret (ps_ret (m_cb (pe_callB (show CallR _ _ (rAll K) from cr_all rfl) (by rfl) T.m_all (by decide +kernel) (m_cons (pa_cons (m_lc (pe_lc (own := [("letter", 1)]) rfl sc_is_name.nd (i_str (pi_str (m_vr (pv 0)))) (blkOk_by (N := ["thing", "letter"]) (sc := defScope s_is_name) (by decide +kernel)) (fun _ _ _ _ _ => g_name (pg_name (i := 1) sc_is_name.nd rfl (by first | exact Or.inl rfl | exact Or.inr rfl)) (by decide)) (fun _ _ _ _ _ => m_yes pts_nil) (fun _ _ _ _ _ => m_op (pe_cmpR (o_in (unit65 hr)) (m_vr (pv 1)) (m_glob A.g_LETTERS (by rfl)) (by rfl)) p_inA)) (by decide)) (m_nil pa_nil)))) p_all))))))
def d_is_pair (C : Nat → Addr) : S :=
  retS (andV (isiW "tuple" (vr 0)) (ap2 (gEqA false) (apN gLenA (consW (vr 0) (nilW))) (ret (.int 2))))
def f_is_pair (C : Nat → Addr) : PF := fnP 1 1 (d_is_pair C)
theorem fn_is_pair (T : Txt K mg) (A : Wds K mg) (B : Kls K mg C)  {f : Addr} {fd : FuncData} (F : Fun K "is_pair" "is_pair" s_is_pair f fd) : FnOk P w K mg base CX0 1 f fd ["thing"] (spP K 1 (f_is_pair C)) :=
  f_ok F sc_is_pair (fun cdv AA outer s H E hr => have hu := Nat.lt_of_le_of_lt (Nat.add_le_add_left (by decide : 1 ≤ 64) _) hr.units
    s_one (s_ret (ps_ret (m_andV (pe_and (m_isi (pe_callB call_isi (by rfl) T.m_isinstance (by decide +kernel) (pa_cons (m_vr (pv 0)) (pa_cons (pe_bltn (v := .ty "tuple") (by rfl) T.m_tuple boot_tuple rfl) pa_nil))) ok_tup) (pe_one (m_op (pe_cmpR (o_eq hr.units) (m_cb (pe_callB o_len (by rfl) T.m_len (by decide +kernel) (m_cons (pa_cons (m_vr (pv 0)) (m_nil pa_nil)))) p_lenA) (m_c pe_int (fun _ => .int _)) (nomark _)) p_eqA)))))))
def d_joined (C : Nat → Addr) : S :=
  seqS (setOX .dic (cWo (itL (vr 0)) (nameT 3) (ret true) (sD (vr 3) (apN mkL (consW (vr 3) (nilW)))) [] [3]) 2) <|
  seqS (forS (itL (vr 1)) (tupT 2 (consT (nameT 4) (consT (nameT 5) (nilT)))) (ifS (tst (ap2 (gInA true) (vr 5) (getO 2 (vr 4)))) (seqS (setS 6 (ap2 gPlus (getO 2 (vr 4)) (getO 2 (vr 5)))) <|
  forS (itL (vr 6)) (nameT 3) (putS 2 (vr 3) (vr 6)) [3]) (skipS)) [3, 4, 5, 6]) <|
  retS (sortCW (itD .vals (vr 2)) (nameT 6) (ret true) (apN qTup (consW (apN gSortS (consW (vr 6) (nilW))) (nilW))) [6])
def f_joined (C : Nat → Addr) : PF := fnP 2 7 (d_joined C)
theorem fn_joined (T : Txt K mg) (A : Wds K mg) (B : Kls K mg C)  {f : Addr} {fd : FuncData} (F : Fun K "joined" "joined" s_joined f fd) : FnOk P w K mg base CX0 1 f fd ["things", "pairs"] (spP K 2 (f_joined C)) :=
  f_ok F sc_joined (fun cdv AA outer s H E hr => have hu := Nat.lt_of_le_of_lt (Nat.add_le_add_left (by decide : 1 ≤ 64) _) hr.units
    s_seq (pss_cons (s_setOX (s_dcO (ps_setDc (i := 2) (own := [("thing", 3)]) rfl sc_joined.nd rfl rfl (sw_dict rfl rfl rfl (by decide +kernel)) (i_list (pi_list (m_vr (pv 0)))) (blkOk_by (N := ["things", "pairs", "parts", "thing", "one", "other", "part"]) (sc := defScope s_joined) (by decide +kernel)) (fun _ _ _ _ _ => g_name (pg_name (i := 3) sc_joined.nd rfl (by first | exact Or.inl rfl | exact Or.inr rfl)) (by decide)) (fun _ _ _ _ _ => m_yes pts_nil) (fun _ _ _ _ _ => m_vr (pv 3)) (fun _ _ _ _ _ => m_lst (pe_lst (m_cons (pa_cons (m_vr (pv 3)) (m_nil pa_nil)))))) (by decide)) not_false ok_dic)
    (s_seq (pss_cons (s_for (ps_for PassesOwn.never rfl (i_list (pi_list (m_vr (pv 1)))) (g_tup (show PG _ _ (gTup _ 2 _) from pg_tup (by rfl) (g_cons (pgs_cons (g_name (pg_name (i := 4) sc_joined.nd rfl (by first | exact Or.inl rfl | exact Or.inr rfl)) not_false) (g_cons (pgs_cons (g_name (pg_name (i := 5) sc_joined.nd rfl (by first | exact Or.inl rfl | exact Or.inr rfl)) not_false) (g_nil pgs_nil))))) (by rfl))) (s_one (s_if (ps_if (m_tst (pt_cmpR (o_nin (unit65 hr)) (m_vr (pv 5)) (m_getO (pe_dget hu (pv 2) (m_vr (pv 4)) (fun _ _ => rfl))) (by rfl)) p_ninA) (s_seq (pss_cons (s_set (ps_set (i := 6) sc_joined.nd rfl (by first | exact Or.inl rfl | exact Or.inr rfl) (m_op (pe_op o_plus (m_getO (pe_dget hu (pv 2) (m_vr (pv 4)) (fun _ _ => rfl))) (m_getO (pe_dget hu (pv 2) (m_vr (pv 5)) (fun _ _ => rfl)))) p_plus)) not_false)
    (s_one (s_for (ps_for PassesOwn.never rfl (i_list (pi_list (m_vr (pv 6)))) (g_name (pg_name (i := 3) sc_joined.nd rfl (by first | exact Or.inl rfl | exact Or.inr rfl)) not_false) (s_one (s_put (ps_dput hu (pv 2) (m_vr (pv 3)) (m_vr (pv 6)) rfl)))))))) (s_nil pss_nil))))))
    (s_one (s_ret (ps_ret (m_sortCD (pe_callB (show CallR _ _ (rSortTS K P w) from cr_sortTS rfl) (by rfl) T.m_sorted (by decide +kernel) (pa_cons (pe_scG (O := fun D => TupSet P w D []) (Ad := adT K P w) (own := [("part", 6)]) (fun H h => tset_new _ H h) (fun _ _ _ _ => adT_ok hu) rfl sc_joined.nd ((show PI _ _ _ (wkI .vals (tVar 2)) from pi_values (pv 2))) (blkOk_by (N := ["things", "pairs", "parts", "thing", "one", "other", "part"]) (sc := defScope s_joined) (by decide +kernel)) (fun _ _ _ _ _ => g_name (pg_name (i := 6) sc_joined.nd rfl (by first | exact Or.inl rfl | exact Or.inr rfl)) (by decide)) (fun _ _ _ _ _ => m_yes pts_nil) (fun _ _ _ _ _ => m_cb (pe_callTy (show CallR _ _ (rTupL K) from cl_tupL) (by rfl) T.m_tuple (by decide +kernel) (m_cons (pa_cons (m_cb (pe_callB (show CallR _ _ (rSortedS K) from cr_sortedS) (by rfl) T.m_sorted (by decide +kernel) (m_cons (pa_cons (m_vr (pv 6)) (m_nil pa_nil)))) p_sortS) (m_nil pa_nil)))) p_tup)) pa_nil)) (pe_callB (show CallR _ _ (rSortTS K P w) from cr_sortTS rfl) (by rfl) T.m_sorted (by decide +kernel) (pa_cons (pe_lock (pe_scG (O := fun D => TupSet P w D []) (Ad := adT K P w) (own := [("part", 6)]) (fun H h => tset_new _ H h) (fun _ _ _ _ => adT_ok hu) rfl sc_joined.nd ((show PI _ _ _ (wkI .vals (tVar 2)) from pi_values (pv 2))) (blkOk_by (N := ["things", "pairs", "parts", "thing", "one", "other", "part"]) (sc := defScope s_joined) (by decide +kernel)) (fun _ _ _ _ _ => g_name (pg_name (i := 6) sc_joined.nd rfl (by first | exact Or.inl rfl | exact Or.inr rfl)) (by decide)) (fun _ _ _ _ _ => m_yes pts_nil) (fun _ _ _ _ _ => m_cb (pe_callTy (show CallR _ _ (rTupL K) from cl_tupL) (by rfl) T.m_tuple (by decide +kernel) (m_cons (pa_cons (m_cb (pe_callB (show CallR _ _ (rSortedS K) from cr_sortedS) (by rfl) T.m_sorted (by decide +kernel) (m_cons (pa_cons (m_vr (pv 6)) (m_nil pa_nil)))) p_sortS) (m_nil pa_nil)))) p_tup))) pa_nil)) (by decide)))))))))
def d_sentence_link (C : Nat → Addr) : S :=
  seqS (ifS (tst (ap2 (gEqA false) (vr 1) (ret (.str "with")))) (retS (apN mkT (consW (vr 0) (consW (vr 2) (consW (ret (.bl false)) (nilW)))))) (skipS)) <|
  seqS (ifS (tst (ap2 (gInA false) (vr 1) (ret k_FORWARD_WORDS))) (retS (apN mkT (consW (vr 0) (consW (vr 2) (consW (ret (.bl true)) (nilW)))))) (skipS)) <|
  seqS (ifS (tst (ap2 (gInA false) (vr 1) (ret k_BACKWARD_WORDS))) (retS (apN mkT (consW (vr 2) (consW (vr 0) (consW (ret (.bl true)) (nilW)))))) (skipS)) <|
  retS (ret (.non))
def f_sentence_link (C : Nat → Addr) : PF := fnP 3 3 (d_sentence_link C)
theorem fn_sentence_link (T : Txt K mg) (A : Wds K mg) (B : Kls K mg C)  {f : Addr} {fd : FuncData} (F : Fun K "sentence_link" "sentence_link" s_sentence_link f fd) : FnOk P w K mg base CX0 1 f fd ["stand", "word", "moment"] (spP K 3 (f_sentence_link C)) :=
  f_ok F sc_sentence_link (fun cdv AA outer s H E hr => have hu := Nat.lt_of_le_of_lt (Nat.add_le_add_left (by decide : 1 ≤ 64) _) hr.units
    s_seq (pss_cons (s_if (ps_if (m_tst (pt_cmpR (o_eq hr.units) (m_vr (pv 1)) (m_c pe_str (fun _ => .str _)) (nomark _)) p_eqA) (s_one (s_ret (ps_ret (m_tup (pe_tup (m_cons (pa_cons (m_vr (pv 0)) (m_cons (pa_cons (m_vr (pv 2)) (m_cons (pa_cons (m_c pe_bl (fun _ => .bl _)) (m_nil pa_nil)))))))))))) (s_nil pss_nil)))
    (s_seq (pss_cons (s_if (ps_if (m_tst (pt_cmpR (o_in (unit65 hr)) (m_vr (pv 1)) (m_glob A.g_FORWARD_WORDS (by rfl)) (by rfl)) p_inA) (s_one (s_ret (ps_ret (m_tup (pe_tup (m_cons (pa_cons (m_vr (pv 0)) (m_cons (pa_cons (m_vr (pv 2)) (m_cons (pa_cons (m_c pe_bl (fun _ => .bl _)) (m_nil pa_nil)))))))))))) (s_nil pss_nil)))
    (s_seq (pss_cons (s_if (ps_if (m_tst (pt_cmpR (o_in (unit65 hr)) (m_vr (pv 1)) (m_glob A.g_BACKWARD_WORDS (by rfl)) (by rfl)) p_inA) (s_one (s_ret (ps_ret (m_tup (pe_tup (m_cons (pa_cons (m_vr (pv 2)) (m_cons (pa_cons (m_vr (pv 0)) (m_cons (pa_cons (m_c pe_bl (fun _ => .bl _)) (m_nil pa_nil)))))))))))) (s_nil pss_nil)))
    (s_one (s_ret (ps_ret (m_c pe_non (fun _ => .non)))))))))))
def d_tale_stands (C : Nat → Addr) : S :=
  seqS (setO (okL (nilW)) 1) <|
  seqS (forS (itT (vr 0)) (tupT 2 (consT (nameT 2) (consT (nameT 3) (nilT)))) (appS 1 (ifW (tst (ap2 (gInA false) (vr 2) (ret k_MOVING_WORDS))) (vr 3) (ixO 1 (ap1 gNeg (ret (.int 1)))))) [2, 3]) <|
  retS (vr 1)
def f_tale_stands (C : Nat → Addr) : PF := fnP 1 4 (d_tale_stands C)
theorem fn_tale_stands (T : Txt K mg) (A : Wds K mg) (B : Kls K mg C)  {f : Addr} {fd : FuncData} (F : Fun K "tale_stands" "tale_stands" s_tale_stands f fd) : FnOk P w K mg base CX0 1 f fd ["tale"] (spP K 1 (f_tale_stands C)) :=
  f_ok F sc_tale_stands (fun cdv AA outer s H E hr => have hu := Nat.lt_of_le_of_lt (Nat.add_le_add_left (by decide : 1 ≤ 64) _) hr.units
    s_seq (pss_cons (s_setO (ps_set (i := 1) sc_tale_stands.nd rfl (by first | exact Or.inl rfl | exact Or.inr rfl) (m_owL (pe_lst (m_nil pa_nil)))) not_false)
    (s_seq (pss_cons (s_for (ps_for PassesOwn.never rfl (i_tup (pi_tup (m_vr (pv 0)))) (g_tup (show PG _ _ (gTup _ 2 _) from pg_tup (by rfl) (g_cons (pgs_cons (g_name (pg_name (i := 2) sc_tale_stands.nd rfl (by first | exact Or.inl rfl | exact Or.inr rfl)) not_false) (g_cons (pgs_cons (g_name (pg_name (i := 3) sc_tale_stands.nd rfl (by first | exact Or.inl rfl | exact Or.inr rfl)) not_false) (g_nil pgs_nil))))) (by rfl))) (s_one (s_app (ps_expr (pe_bm PySem.F.plainAttrs_list PySem.F.slot_list_append PySem.F.type_list_append mt_append (pv 1) (pa_cons (m_if (pe_ifExp (m_tst (pt_cmpR (o_in (unit65 hr)) (m_vr (pv 2)) (m_glob A.g_MOVING_WORDS (by rfl)) (by rfl)) p_inA) (m_vr (pv 3)) (m_ixO (pe_ix (show IxR _ (rIxL K) from ix_list) (pv 1) (m_un (pe_un un_neg (m_c pe_int (fun _ => .int _))) p_neg) (fun _ _ => rfl))))) pa_nil)))))))
    (s_one (s_ret (ps_ret (m_vr (pv 1)))))))))
def d_Order_is_consistent (C : Nat → Addr) : S :=
  retS (ap1 notV (apN gAny (consW (lcW (itR1 (consW (apN gLenA (consW (ap1 (fldG (C 0) "groups") (vr 0)) (nilW))) (nilW))) (nameT 1) (ret true) (methW (C 0) "precedes" (f_Order_precedes C) (vr 0) (consW (vr 1) (consW (vr 1) (nilW)))) [1]) (nilW))))
def f_Order_is_consistent (C : Nat → Addr) : PF := fnP 1 2 (d_Order_is_consistent C)
theorem fn_Order_is_consistent (T : Txt K mg) (A : Wds K mg) (B : Kls K mg C) (M_Order_precedes : Mt P w K mg base (C 0) "precedes" 1 ["self", "one", "other"] (spP K 3 (f_Order_precedes C))) {f : Addr} {fd : FuncData} (F : Fun K "is_consistent" "Order.is_consistent" s_Order_is_consistent f fd) : FnOk P w K mg base CX0 2 f fd ["self"] (spP K 1 (f_Order_is_consistent C)) :=
  f_ok F sc_Order_is_consistent (fun cdv AA outer s H E hr => have hu := Nat.lt_of_le_of_lt (Nat.add_le_add_left (by decide : 1 ≤ 64) _) hr.units
    s_one (s_ret (ps_ret (m_notV (pe_not (m_cb (pe_callB (show CallR _ _ (rAny K) from cr_any rfl) (by rfl) T.m_any (by decide +kernel) (m_cons (pa_cons (m_lc (pe_lc (own := [("k", 1)]) rfl sc_Order_is_consistent.nd (i_rng1 (pi_range1 (by rfl) T.m_range (m_cons (pa_cons (m_cb (pe_callB o_len (by rfl) T.m_len (by decide +kernel) (m_cons (pa_cons (m_fld (pe_fld (m_vr (pv 0)) rfl) (B.c 0 (by decide)) (B.n_0_groups)) (m_nil pa_nil)))) p_lenA) (m_nil pa_nil))))) (blkOk_by (N := ["self", "k"]) (sc := defScope s_Order_is_consistent) (by decide +kernel)) (fun _ _ _ _ _ => g_name (pg_name (i := 1) sc_Order_is_consistent.nd rfl (by first | exact Or.inl rfl | exact Or.inr rfl)) (by decide)) (fun _ _ _ _ _ => m_yes pts_nil) (fun _ _ _ _ _ => m_meth (pe_mt (B.c 0 (by decide)) M_Order_precedes (hr.mono (by decide)) (m_vr (pv 0)) (m_cons (pa_cons (m_vr (pv 1)) (m_cons (pa_cons (m_vr (pv 1)) (m_nil pa_nil)))))) fnP_len)) (by decide)) (m_nil pa_nil)))) p_any))))))
def d__law_is_sentence (C : Nat → Addr) : S :=
  seqS (ifS (orT (notT (truT (isiW "tuple" (vr 0)))) (orT (tst (ap2 (gEqA true) (apN gLenA (consW (vr 0) (nilW))) (ret (.int 2)))) (notT (truT (isiW "str" (ap2 gIxA (vr 0) (ret (.int 0)))))))) (retS (ret (.bl false))) (skipS)) <|
  retS (andV (ap2 (gInA false) (ap2 gIxA (vr 0) (ret (.int 0))) (apN mkT (consW (ret (.str "at")) (consW (ret (.str "then")) (consW (ret (.str "back")) (consW (ret (.str "later")) (consW (ret (.str "earlier")) (consW (ret (.str "with")) (nilW))))))))) (callW (f__law_is_name C) (consW (ap2 gIxA (vr 0) (ret (.int 1))) (nilW))))
def f__law_is_sentence (C : Nat → Addr) : PF := fnP 1 1 (d__law_is_sentence C)
theorem fn__law_is_sentence (T : Txt K mg) (A : Wds K mg) (B : Kls K mg C) (G__law_is_name : Df P w K mg base "_law_is_name" 1 ["value"] (spP K 1 (f__law_is_name C))) {f : Addr} {fd : FuncData} (F : Fun K "_law_is_sentence" "_law_is_sentence" s__law_is_sentence f fd) : FnOk P w K mg base CX0 2 f fd ["value"] (spP K 1 (f__law_is_sentence C)) :=
  f_ok F sc__law_is_sentence (fun cdv AA outer s H E hr => have hu := Nat.lt_of_le_of_lt (Nat.add_le_add_left (by decide : 1 ≤ 64) _) hr.units
    s_seq (pss_cons (s_if (ps_if (PW.pt (m_or (pw_or (m_not (pt_not (m_truth (pt_truth (m_isi (pe_callB call_isi (by rfl) T.m_isinstance (by decide +kernel) (pa_cons (m_vr (pv 0)) (pa_cons (pe_bltn (v := .ty "tuple") (by rfl) T.m_tuple boot_tuple rfl) pa_nil))) ok_tup) (by intro _; rfl))))) (m_or (pw_or (m_tst (pt_cmpR (o_ne hr.units) (m_cb (pe_callB o_len (by rfl) T.m_len (by decide +kernel) (m_cons (pa_cons (m_vr (pv 0)) (m_nil pa_nil)))) p_lenA) (m_c pe_int (fun _ => .int _)) (nomark _)) p_neA) (pw_or1 (m_not (pt_not (m_truth (pt_truth (m_isi (pe_callB call_isi (by rfl) T.m_isinstance (by decide +kernel) (pa_cons (m_op (pe_ix o_ix (m_vr (pv 0)) (m_c pe_int (fun _ => .int _)) (fun _ _ => rfl)) p_ixA) (pa_cons (pe_bltn (v := .ty "str") (by rfl) T.m_str boot_str rfl) pa_nil))) ok_str) (by intro _; rfl))))))))))) (s_one (s_ret (ps_ret (m_c pe_bl (fun _ => .bl _))))) (s_nil pss_nil)))
    (s_one (s_ret (ps_ret (m_andV (pe_and (m_op (pe_cmpR (o_in (unit65 hr)) (m_op (pe_ix o_ix (m_vr (pv 0)) (m_c pe_int (fun _ => .int _)) (fun _ _ => rfl)) p_ixA) (m_tup (pe_tup (m_cons (pa_cons (m_c pe_str (fun _ => .str _)) (m_cons (pa_cons (m_c pe_str (fun _ => .str _)) (m_cons (pa_cons (m_c pe_str (fun _ => .str _)) (m_cons (pa_cons (m_c pe_str (fun _ => .str _)) (m_cons (pa_cons (m_c pe_str (fun _ => .str _)) (m_cons (pa_cons (m_c pe_str (fun _ => .str _)) (m_nil pa_nil))))))))))))))) (by rfl)) p_inA) (pe_one (m_call (pe_df G__law_is_name (hr.mono (by decide)) (by rfl) (m_cons (pa_cons (m_op (pe_ix o_ix (m_vr (pv 0)) (m_c pe_int (fun _ => .int _)) (fun _ _ => rfl)) p_ixA) (m_nil pa_nil)))) fnP_len)))))))))
def d__law_model (C : Nat → Addr) : S :=
  retS (callW (f__law_order C) (consW (callW (f__law_names C) (consW (vr 0) (nilW))) (consW (callW (f__law_links C) (consW (vr 0) (nilW))) (nilW))))
def f__law_model (C : Nat → Addr) : PF := fnP 1 1 (d__law_model C)
theorem fn__law_model (T : Txt K mg) (A : Wds K mg) (B : Kls K mg C) (G__law_order : Df P w K mg base "_law_order" 1 ["names", "links"] (spP K 2 (f__law_order C))) (G__law_names : Df P w K mg base "_law_names" 1 ["sentences"] (spP K 1 (f__law_names C))) (G__law_links : Df P w K mg base "_law_links" 1 ["sentences"] (spP K 1 (f__law_links C))) {f : Addr} {fd : FuncData} (F : Fun K "_law_model" "_law_model" s__law_model f fd) : FnOk P w K mg base CX0 2 f fd ["sentences"] (spP K 1 (f__law_model C)) :=
  f_ok F sc__law_model (fun cdv AA outer s H E hr => have hu := Nat.lt_of_le_of_lt (Nat.add_le_add_left (by decide : 1 ≤ 64) _) hr.units
    s_one (s_ret (ps_ret (m_call (pe_df G__law_order (hr.mono (by decide)) (by rfl) (m_cons (pa_cons (m_call (pe_df G__law_names (hr.mono (by decide)) (by rfl) (m_cons (pa_cons (m_vr (pv 0)) (m_nil pa_nil)))) fnP_len) (m_cons (pa_cons (m_call (pe_df G__law_links (hr.mono (by decide)) (by rfl) (m_cons (pa_cons (m_vr (pv 0)) (m_nil pa_nil)))) fnP_len) (m_nil pa_nil)))))) len__law_order))))
def d_is_sentence (C : Nat → Addr) : S :=
  retS (andV (callW (f_is_pair C) (consW (vr 0) (nilW))) (andV (ap2 (gInA false) (ap2 gIxA (vr 0) (ret (.int 0))) (ret k_WORDS)) (callW (f_is_name C) (consW (ap2 gIxA (vr 0) (ret (.int 1))) (nilW)))))
def f_is_sentence (C : Nat → Addr) : PF := fnP 1 1 (d_is_sentence C)
theorem fn_is_sentence (T : Txt K mg) (A : Wds K mg) (B : Kls K mg C) (G_is_pair : Df P w K mg base "is_pair" 1 ["thing"] (spP K 1 (f_is_pair C))) (G_is_name : Df P w K mg base "is_name" 1 ["thing"] (spP K 1 (f_is_name C))) {f : Addr} {fd : FuncData} (F : Fun K "is_sentence" "is_sentence" s_is_sentence f fd) : FnOk P w K mg base CX0 2 f fd ["thing"] (spP K 1 (f_is_sentence C)) :=
  f_ok F sc_is_sentence (fun cdv AA outer s H E hr => have hu := Nat.lt_of_le_of_lt (Nat.add_le_add_left (by decide : 1 ≤ 64) _) hr.units
    s_one (s_ret (ps_ret (m_andV (pe_and (m_call (pe_df G_is_pair (hr.mono (by decide)) (by rfl) (m_cons (pa_cons (m_vr (pv 0)) (m_nil pa_nil)))) fnP_len) (m_andV (pe_and (m_op (pe_cmpR (o_in (unit65 hr)) (m_op (pe_ix o_ix (m_vr (pv 0)) (m_c pe_int (fun _ => .int _)) (fun _ _ => rfl)) p_ixA) (m_glob A.g_WORDS (by rfl)) (by rfl)) p_inA) (pe_one (m_call (pe_df G_is_name (hr.mono (by decide)) (by rfl) (m_cons (pa_cons (m_op (pe_ix o_ix (m_vr (pv 0)) (m_c pe_int (fun _ => .int _)) (fun _ _ => rfl)) p_ixA) (m_nil pa_nil)))) fnP_len)))))))))
def d_tale_links (C : Nat → Addr) : S :=
  retS (lcW (itZ isL isT (consW (ap2 gPlus (apN mkL (consW (ret (.non)) (nilW))) (callW (f_tale_stands C) (consW (vr 0) (nilW)))) (consW (vr 0) (nilW)))) (tupT 2 (consT (nameT 1) (consT (nameT 2) (nilT)))) (ret true) (callW (f_sentence_link C) (starW (vr 1) (vr 2))) [1, 2])
def f_tale_links (C : Nat → Addr) : PF := fnP 1 3 (d_tale_links C)
theorem fn_tale_links (T : Txt K mg) (A : Wds K mg) (B : Kls K mg C) (G_sentence_link : Df P w K mg base "sentence_link" 1 ["stand", "word", "moment"] (spP K 3 (f_sentence_link C))) (G_tale_stands : Df P w K mg base "tale_stands" 1 ["tale"] (spP K 1 (f_tale_stands C))) {f : Addr} {fd : FuncData} (F : Fun K "tale_links" "tale_links" s_tale_links f fd) : FnOk P w K mg base CX0 2 f fd ["tale"] (spP K 1 (f_tale_links C)) :=
  f_ok F sc_tale_links (fun cdv AA outer s H E hr => have hu := Nat.lt_of_le_of_lt (Nat.add_le_add_left (by decide : 1 ≤ 64) _) hr.units
    s_one (s_ret (ps_ret (m_lc (pe_lc (own := [("stand", 1), ("sentence", 2)]) rfl sc_tale_links.nd (i_zipLT (ZLT.pi_zipLT (by rfl) T.m_zip (m_cons (pa_cons (m_op (pe_op o_plus (m_lst (pe_lst (m_cons (pa_cons (m_c pe_non (fun _ => .non)) (m_nil pa_nil))))) (m_call (pe_df G_tale_stands (hr.mono (by decide)) (by rfl) (m_cons (pa_cons (m_vr (pv 0)) (m_nil pa_nil)))) fnP_len)) p_plus) (m_cons (pa_cons (m_vr (pv 0)) (m_nil pa_nil))))))) (blkOk_by (N := ["tale", "stand", "sentence"]) (sc := defScope s_tale_links) (by decide +kernel)) (fun _ _ _ _ _ => g_tup (show PG _ _ (gTup _ 2 _) from pg_tup (by rfl) (g_cons (pgs_cons (g_name (pg_name (i := 1) sc_tale_links.nd rfl (by first | exact Or.inl rfl | exact Or.inr rfl)) (by decide)) (g_cons (pgs_cons (g_name (pg_name (i := 2) sc_tale_links.nd rfl (by first | exact Or.inl rfl | exact Or.inr rfl)) (by decide)) (g_nil pgs_nil))))) (by rfl))) (fun _ _ _ _ _ => m_yes pts_nil) (fun _ _ _ _ _ => m_call (pe_dfS G_sentence_link (hr.mono (by decide)) (by rfl) (m_star (pa_cons (m_vr (pv 1)) (StX.pa_star (m_vr (pv 2)) pa_nil)))) fnP_len)) (by decide)))))
def d_Order_init (C : Nat → Addr) : S :=
  seqS (setS 2 (lcW (itL (callW (f_tale_links C) (consW (vr 1) (nilW)))) (nameT 3) (tst (ap2 gNotN (vr 3) (ret (.non)))) (vr 3) [3])) <|
  seqS (setS 4 (lcW (itL (vr 2)) (tupT 3 (consT (nameT 5) (consT (nameT 6) (consT (nameT 7) (nilT))))) (notT (truT (vr 7))) (apN mkT (consW (vr 5) (consW (vr 6) (nilW)))) [5, 6, 7])) <|
  seqS (fldS (C 0) 0 "groups" (callW (f_joined C) (consW (lcW (itT (vr 1)) (tupT 2 (consT (nameT 8) (consT (nameT 9) (nilT)))) (ret true) (vr 9) [8, 9]) (consW (vr 4) (nilW))))) <|
  seqS (fldS (C 0) 0 "number" (dc2W (itE isL (consW (fldO (C 0) 0 "groups") (nilW))) (tupT 2 (consT (nameT 10) (consT (nameT 11) (nilT)))) (ret true) (itT (vr 11)) (nameT 9) (ret true) (vr 9) (vr 10) [10, 11, 9] [9])) <|
  seqS (setO (owRep (apN mkL (consW (ret (.int 0)) (nilW))) (apN gLenA (consW (fldO (C 0) 0 "groups") (nilW)))) 12) <|
  seqS (forS (itL (vr 2)) (tupT 3 (consT (nameT 5) (consT (nameT 6) (consT (nameT 7) (nilT))))) (ifS (truT (vr 7)) (augAtS 12 (ap2 gGet (fldO (C 0) 0 "number") (vr 5)) (ap2 gBit (ret (.int 1)) (ap2 gGet (fldO (C 0) 0 "number") (vr 6))) (· ||| ·)) (skipS)) [5, 6, 7]) <|
  fldS (C 0) 0 "after" (callW (f_closed C) (consW (vr 12) (nilW)))
def f_Order_init (C : Nat → Addr) : PI_ := fnI (C 0) 1 13 (d_Order_init C)
theorem fn_Order_init (T : Txt K mg) (A : Wds K mg) (B : Kls K mg C) (G_joined : Df P w K mg base "joined" 1 ["things", "pairs"] (spP K 2 (f_joined C))) (G_closed : Df P w K mg base "closed" 1 ["masks"] (spP K 1 (f_closed C))) (G_tale_links : Df P w K mg base "tale_links" 2 ["tale"] (spP K 1 (f_tale_links C))) {f : Addr} {fd : FuncData} (F : Fun K "__init__" "Order.__init__" s_Order_init f fd) : FnOk P w K mg base CX0 3 f fd ["self", "tale"] (spI K (C 0) 1 (f_Order_init C)) :=
  i_ok F sc_Order_init (fun cdv AA outer s H E hr => have hu := Nat.lt_of_le_of_lt (Nat.add_le_add_left (by decide : 1 ≤ 64) _) hr.units
    s_seq (pss_cons (s_set (s_lcS (ps_setLc (i := 2) (own := [("link", 3)]) rfl sc_Order_init.nd rfl rfl (sw_true rfl rfl rfl (by decide +kernel)) (i_list (pi_list (m_call (pe_df G_tale_links (hr.mono (by decide)) (by rfl) (m_cons (pa_cons (m_vr (pv 1)) (m_nil pa_nil)))) fnP_len))) (blkOk_by (N := ["self", "tale", "links", "link", "same", "first", "second", "strict", "_", "moment", "k", "group", "steps"]) (sc := defScope s_Order_init) (by decide +kernel)) (fun _ _ _ _ _ => g_name (pg_name (i := 3) sc_Order_init.nd rfl (by first | exact Or.inl rfl | exact Or.inr rfl)) (by decide)) (fun _ _ _ _ _ => pts_one (m_tst (pt_cmpR op_notN (m_vr (pv 3)) (m_c pe_non (fun _ => .non)) (nomark _)) p_notN)) (fun _ _ _ _ _ => m_vr (pv 3))) (by decide)) (Nat.succ_ne_zero 1))
    (s_seq (pss_cons (s_set (s_lcS (ps_setLc (i := 4) (own := [("first", 5), ("second", 6), ("strict", 7)]) rfl sc_Order_init.nd rfl rfl (sw_true rfl rfl rfl (by decide +kernel)) (i_list (pi_list (m_vr (pv 2)))) (blkOk_by (N := ["self", "tale", "links", "link", "same", "first", "second", "strict", "_", "moment", "k", "group", "steps"]) (sc := defScope s_Order_init) (by decide +kernel)) (fun _ _ _ _ _ => g_tup (show PG _ _ (gTup _ 3 _) from pg_tup (by rfl) (g_cons (pgs_cons (g_name (pg_name (i := 5) sc_Order_init.nd rfl (by first | exact Or.inl rfl | exact Or.inr rfl)) (by decide)) (g_cons (pgs_cons (g_name (pg_name (i := 6) sc_Order_init.nd rfl (by first | exact Or.inl rfl | exact Or.inr rfl)) (by decide)) (g_cons (pgs_cons (g_name (pg_name (i := 7) sc_Order_init.nd rfl (by first | exact Or.inl rfl | exact Or.inr rfl)) (by decide)) (g_nil pgs_nil))))))) (by rfl))) (fun _ _ _ _ _ => pts_one (m_not (pt_not (m_truth (pt_truth (m_vr (pv 7)) (by intro _; rfl)))))) (fun _ _ _ _ _ => m_tup (pe_tup (m_cons (pa_cons (m_vr (pv 5)) (m_cons (pa_cons (m_vr (pv 6)) (m_nil pa_nil)))))))) (by decide)) (Nat.succ_ne_zero 3))
    (s_seq (pss_cons (s_fld (ps_fld (pv 0) (m_call (pe_df G_joined (hr.mono (by decide)) (by rfl) (m_cons (pa_cons (m_lc (pe_lc (own := [("_", 8), ("moment", 9)]) rfl sc_Order_init.nd (i_tup (pi_tup (m_vr (pv 1)))) (blkOk_by (N := ["self", "tale", "links", "link", "same", "first", "second", "strict", "_", "moment", "k", "group", "steps"]) (sc := defScope s_Order_init) (by decide +kernel)) (fun _ _ _ _ _ => g_tup (show PG _ _ (gTup _ 2 _) from pg_tup (by rfl) (g_cons (pgs_cons (g_name (pg_name (i := 8) sc_Order_init.nd rfl (by first | exact Or.inl rfl | exact Or.inr rfl)) (by decide)) (g_cons (pgs_cons (g_name (pg_name (i := 9) sc_Order_init.nd rfl (by first | exact Or.inl rfl | exact Or.inr rfl)) (by decide)) (g_nil pgs_nil))))) (by rfl))) (fun _ _ _ _ _ => m_yes pts_nil) (fun _ _ _ _ _ => m_vr (pv 9))) (by decide)) (m_cons (pa_cons (m_vr (pv 4)) (m_nil pa_nil)))))) fnP_len) (by rfl)) (B.c 0 (by decide)) (B.n_0_groups))
    (s_seq (pss_cons (s_fld (ps_fld (pv 0) (m_dc2 (pe_dc2 (own := [("k", 10), ("group", 11), ("moment", 9)]) (vs1 := [9]) rfl sc_Order_init.nd (i_enum (pi_enum (by rfl) T.m_enumerate (m_cons (pa_cons (m_fldO (pe_fld (pv 0) rfl) (B.c 0 (by decide)) (B.n_0_groups)) (m_nil pa_nil))))) (blkOk_by (N := ["self", "tale", "links", "link", "same", "first", "second", "strict", "_", "moment", "k", "group", "steps"]) (sc := defScope s_Order_init) (by decide +kernel)) (by decide) (fun _ _ _ _ _ => g_tup (show PG _ _ (gTup _ 2 _) from pg_tup (by rfl) (g_cons (pgs_cons (g_name (pg_name (i := 10) sc_Order_init.nd rfl (by first | exact Or.inl rfl | exact Or.inr rfl)) (by decide)) (g_cons (pgs_cons (g_name (pg_name (i := 11) sc_Order_init.nd rfl (by first | exact Or.inl rfl | exact Or.inr rfl)) (by decide)) (g_nil pgs_nil))))) (by rfl))) (fun _ _ _ _ _ => m_yes pts_nil) (fun _ _ _ _ _ => i_tup (pi_tup (m_vr (pv 11)))) (fun _ _ _ _ _ => g_name (pg_name (i := 9) sc_Order_init.nd rfl (by first | exact Or.inl rfl | exact Or.inr rfl)) (by decide)) (fun _ _ _ _ _ => m_yes pts_nil) (fun _ _ _ _ _ => m_vr (pv 9)) (fun _ _ _ _ _ => m_vr (pv 10))) (by decide) (by decide)) (by rfl)) (B.c 0 (by decide)) (B.n_0_number))
    (s_seq (pss_cons (s_setO (ps_set (i := 12) sc_Order_init.nd rfl (by first | exact Or.inl rfl | exact Or.inr rfl) (m_owR (pe_op op_rep (m_lst (pe_lst (m_cons (pa_cons (m_c pe_int (fun _ => .int _)) (m_nil pa_nil))))) (m_cb (pe_callB o_len (by rfl) T.m_len (by decide +kernel) (m_cons (pa_cons (m_fldO (pe_fld (pv 0) rfl) (B.c 0 (by decide)) (B.n_0_groups)) (m_nil pa_nil)))) p_lenA)))) (Nat.succ_ne_zero 11))
    (s_seq (pss_cons (s_for (ps_for PassesOwn.never rfl (i_list (pi_list (m_vr (pv 2)))) (g_tup (show PG _ _ (gTup _ 3 _) from pg_tup (by rfl) (g_cons (pgs_cons (g_name (pg_name (i := 5) sc_Order_init.nd rfl (by first | exact Or.inl rfl | exact Or.inr rfl)) (Nat.succ_ne_zero 4)) (g_cons (pgs_cons (g_name (pg_name (i := 6) sc_Order_init.nd rfl (by first | exact Or.inl rfl | exact Or.inr rfl)) (Nat.succ_ne_zero 5)) (g_cons (pgs_cons (g_name (pg_name (i := 7) sc_Order_init.nd rfl (by first | exact Or.inl rfl | exact Or.inr rfl)) (Nat.succ_ne_zero 6)) (g_nil pgs_nil))))))) (by rfl))) (s_one (s_if (ps_if (m_truth (pt_truth (m_vr (pv 7)) (by intro _; rfl))) (s_one (s_augAt (ps_augS (pv 12) (m_get (pe_dget hu (m_fldO (pe_fld (pv 0) rfl) (B.c 0 (by decide)) (B.n_0_number)) (m_vr (pv 5)) (fun _ _ => rfl))) get_lstN (m_op (pe_op op_bitN (m_c pe_int (fun _ => .int _)) (m_get (pe_dget hu (m_fldO (pe_fld (pv 0) rfl) (B.c 0 (by decide)) (B.n_0_number)) (m_vr (pv 6)) (fun _ _ => rfl)))) p_bit) ip_orN set_list))) (s_nil pss_nil))))))
    (s_one (s_fld (ps_fld (pv 0) (m_call (pe_df G_closed (hr.mono (by decide)) (by rfl) (m_cons (pa_cons (m_vr (pv 12)) (m_nil pa_nil)))) fnP_len) (by rfl)) (B.c 0 (by decide)) (B.n_0_after)))))))))))))))
def d__law_drawn (C : Nat → Addr) : S :=
  seqS (setS 1 (slW gCutA (apN mkL (consW (ret (.str "m")) (consW (ret (.str "b")) (consW (ret (.str "ab")) (consW (ret (.str "c")) (consW (ret (.str "z")) (consW (ret (.str "d")) (consW (ret (.str "momentum")) (nilW))))))))) (ret none) (partW (ap2 gPlus (ret (.int 1)) (drawW 0 (ret (.int 7))))))) <|
  seqS (setS 2 (apN mkL (consW (ret (.str "then")) (consW (ret (.str "then")) (consW (ret (.str "back")) (consW (ret (.str "later")) (consW (ret (.str "earlier")) (consW (ret (.str "with")) (consW (ret (.str "at")) (nilW)))))))))) <|
  seqS (setO (okL (consW (apN mkT (consW (ret (.str "at")) (consW (ap2 gIxA (vr 1) (ret (.int 0))) (nilW)))) (nilW))) 3) <|
  seqS (forS (itR1 (consW (drawW 0 (ret (.int 14))) (nilW))) (nameT 4) (appS 3 (apN mkT (consW (ap2 gIxA (vr 2) (drawW 0 (ret (.int 7)))) (consW (ap2 gIxA (vr 1) (drawW 0 (apN gLenA (consW (vr 1) (nilW))))) (nilW))))) [4]) <|
  retS (apN qTup (consW (vr 3) (nilW)))
def f__law_drawn (C : Nat → Addr) : UF := fnU 0 5 (d__law_drawn C)
theorem fn__law_drawn (T : Txt K mg) (A : Wds K mg) (B : Kls K mg C) (G__law_draw : Df P w K mg base "_law_draw" 2 ["purse", "out_of"] spDraw) {f : Addr} {fd : FuncData} (F : Fun K "_law_drawn" "_law_drawn" s__law_drawn f fd) : FnOk P w K mg base CX0 3 f fd ["purse"] (spU K 0 (f__law_drawn C)) :=
  u_ok F sc__law_drawn (fun cdv AA outer s H E hr => have hu := Nat.lt_of_le_of_lt (Nat.add_le_add_left (by decide : 1 ≤ 64) _) hr.units
    s_seq (pss_cons (s_set (ps_set (i := 1) sc__law_drawn.nd rfl (by first | exact Or.inl rfl | exact Or.inr rfl) (m_sl (pe_slice o_sl (m_lst (pe_lst (m_cons (pa_cons (m_c pe_str (fun _ => .str _)) (m_cons (pa_cons (m_c pe_str (fun _ => .str _)) (m_cons (pa_cons (m_c pe_str (fun _ => .str _)) (m_cons (pa_cons (m_c pe_str (fun _ => .str _)) (m_cons (pa_cons (m_c pe_str (fun _ => .str _)) (m_cons (pa_cons (m_c pe_str (fun _ => .str _)) (m_cons (pa_cons (m_c pe_str (fun _ => .str _)) (m_nil pa_nil))))))))))))))))) (m_poN po_none) (m_po (po_some (m_op (pe_op o_plus (m_c pe_int (fun _ => .int _)) (m_draw (pe_df G__law_draw (hr.mono (by decide)) (by rfl) (pa_cons (pv 0) (pa_cons (m_c pe_int (fun _ => .int _)) pa_nil))))) p_plus)))) p_cutA)) (Nat.succ_ne_zero 0))
    (s_seq (pss_cons (s_set (ps_set (i := 2) sc__law_drawn.nd rfl (by first | exact Or.inl rfl | exact Or.inr rfl) (m_lst (pe_lst (m_cons (pa_cons (m_c pe_str (fun _ => .str _)) (m_cons (pa_cons (m_c pe_str (fun _ => .str _)) (m_cons (pa_cons (m_c pe_str (fun _ => .str _)) (m_cons (pa_cons (m_c pe_str (fun _ => .str _)) (m_cons (pa_cons (m_c pe_str (fun _ => .str _)) (m_cons (pa_cons (m_c pe_str (fun _ => .str _)) (m_cons (pa_cons (m_c pe_str (fun _ => .str _)) (m_nil pa_nil)))))))))))))))))) (Nat.succ_ne_zero 1))
    (s_seq (pss_cons (s_setO (ps_set (i := 3) sc__law_drawn.nd rfl (by first | exact Or.inl rfl | exact Or.inr rfl) (m_owL (pe_lst (m_cons (pa_cons (m_tup (pe_tup (m_cons (pa_cons (m_c pe_str (fun _ => .str _)) (m_cons (pa_cons (m_op (pe_ix o_ix (m_vr (pv 1)) (m_c pe_int (fun _ => .int _)) (fun _ _ => rfl)) p_ixA) (m_nil pa_nil))))))) (m_nil pa_nil)))))) (Nat.succ_ne_zero 2))
    (s_seq (pss_cons (s_for (ps_for PassesOwn.never rfl (i_rng1 (pi_range1 (by rfl) T.m_range (m_cons (pa_cons (m_draw (pe_df G__law_draw (hr.mono (by decide)) (by rfl) (pa_cons (pv 0) (pa_cons (m_c pe_int (fun _ => .int _)) pa_nil)))) (m_nil pa_nil))))) (g_name (pg_name (i := 4) sc__law_drawn.nd rfl (by first | exact Or.inl rfl | exact Or.inr rfl)) (Nat.succ_ne_zero 3)) (s_one (s_app (ps_expr (pe_bm PySem.F.plainAttrs_list PySem.F.slot_list_append PySem.F.type_list_append mt_append (pv 3) (pa_cons (m_tup (pe_tup (m_cons (pa_cons (m_op (pe_ix o_ix (m_vr (pv 2)) (m_draw (pe_df G__law_draw (hr.mono (by decide)) (by rfl) (pa_cons (pv 0) (pa_cons (m_c pe_int (fun _ => .int _)) pa_nil)))) (fun _ _ => rfl)) p_ixA) (m_cons (pa_cons (m_op (pe_ix o_ix (m_vr (pv 1)) (m_draw (pe_df G__law_draw (hr.mono (by decide)) (by rfl) (pa_cons (pv 0) (pa_cons (m_cb (pe_callB o_len (by rfl) T.m_len (by decide +kernel) (m_cons (pa_cons (m_vr (pv 1)) (m_nil pa_nil)))) p_lenA) pa_nil)))) (fun _ _ => rfl)) p_ixA) (m_nil pa_nil))))))) pa_nil)))))))
    (s_one (s_ret (ps_ret (m_cb (pe_callTy (show CallR _ _ (rTupL K) from cl_tupL) (by rfl) T.m_tuple (by decide +kernel) (m_cons (pa_cons (m_vr (pv 3)) (m_nil pa_nil)))) p_tup))))))))))))
def d__law_fits (C : Nat → Addr) : S :=
  seqS (asgS (callW (f__law_model C) (consW (vr 0) (nilW))) (tupT 2 (consT (nameT 1) (consT (nameT 2) (nilT))))) <|
  retS (ap2 (gEqA false) (lcW (itD .keys (vr 2)) (nameT 3) (tst (ap2 (gHas false) (vr 3) (ap2 gGet (vr 2) (vr 3)))) (vr 3) [3]) (apN mkL (nilW)))
def f__law_fits (C : Nat → Addr) : PF := fnP 1 4 (d__law_fits C)
theorem fn__law_fits (T : Txt K mg) (A : Wds K mg) (B : Kls K mg C) (G__law_model : Df P w K mg base "_law_model" 2 ["sentences"] (spP K 1 (f__law_model C))) {f : Addr} {fd : FuncData} (F : Fun K "_law_fits" "_law_fits" s__law_fits f fd) : FnOk P w K mg base CX0 3 f fd ["sentences"] (spP K 1 (f__law_fits C)) :=
  f_ok F sc__law_fits (fun cdv AA outer s H E hr => have hu := Nat.lt_of_le_of_lt (Nat.add_le_add_left (by decide : 1 ≤ 64) _) hr.units
    s_seq (pss_cons (s_asg (ps_asg (m_call (pe_df G__law_model (hr.mono (by decide)) (by rfl) (m_cons (pa_cons (m_vr (pv 0)) (m_nil pa_nil)))) fnP_len) (g_tup (show PG _ _ (gTup _ 2 _) from pg_tup (by rfl) (g_cons (pgs_cons (g_name (pg_name (i := 1) sc__law_fits.nd rfl (by first | exact Or.inl rfl | exact Or.inr rfl)) not_false) (g_cons (pgs_cons (g_name (pg_name (i := 2) sc__law_fits.nd rfl (by first | exact Or.inl rfl | exact Or.inr rfl)) not_false) (g_nil pgs_nil))))) (by rfl)))))
    (s_one (s_ret (ps_ret (m_op (pe_cmpR (o_eq hr.units) (m_lcD (pe_lc (own := [("one", 3)]) rfl sc__law_fits.nd ((show PI _ _ _ (wkI .keys (tVar 2)) from pi_keys (pv 2))) (blkOk_by (N := ["sentences", "head", "after", "one"]) (sc := defScope s__law_fits) (by decide +kernel)) (fun _ _ _ _ _ => g_name (pg_name (i := 3) sc__law_fits.nd rfl (by first | exact Or.inl rfl | exact Or.inr rfl)) (by decide)) (fun _ _ _ _ _ => pts_one (m_dinT (pt_cmp (pc_din hu (m_vr (pv 3)) (m_get (pe_dget hu (m_vr (pv 2)) (m_vr (pv 3)) (fun _ _ => rfl))))))) (fun _ _ _ _ _ => m_vr (pv 3))) (pe_lock (pe_lc (own := [("one", 3)]) rfl sc__law_fits.nd ((show PI _ _ _ (wkI .keys (tVar 2)) from pi_keys (pv 2))) (blkOk_by (N := ["sentences", "head", "after", "one"]) (sc := defScope s__law_fits) (by decide +kernel)) (fun _ _ _ _ _ => g_name (pg_name (i := 3) sc__law_fits.nd rfl (by first | exact Or.inl rfl | exact Or.inr rfl)) (by decide)) (fun _ _ _ _ _ => pts_one (m_dinT (pt_cmp (pc_din hu (m_vr (pv 3)) (m_get (pe_dget hu (m_vr (pv 2)) (m_vr (pv 3)) (fun _ _ => rfl))))))) (fun _ _ _ _ _ => m_vr (pv 3)))) (by decide)) (m_lst (pe_lst (m_nil pa_nil))) (nomark _)) p_eqA))))))
def d__law_odd (C : Nat → Addr) : S :=
  seqS (setS 1 (apN mkL (consW (ret (.non)) (consW (ret (.bl true)) (consW (ret (.int 0)) (consW (ret (.int 7)) (consW (ret (.str "")) (consW (ret (.str "a")) (consW (ret (.str "at")) (consW (ret (.str "then")) (consW (ret (.str "with")) (consW (ret (.str "At")) (consW (ret (.str "until")) (consW (ret (.str "nineletrs")) (consW (ret (.str "x1")) (consW (ret (.str "a b")) (consW (apN mkL (nilW)) (consW (apN mkT (nilW)) (nilW))))))))))))))))))) <|
  seqS (setS 1 (ap2 gPlus (vr 1) (apN mkL (consW (ret (.str " a")) (consW (ret (.str "a ")) (consW (ret (.str " ")) (consW (ret (.str "a{")) (consW (ret (.str "a~b")) (consW (ret (.str "then ")) (consW (ret (.str " with")) (nilW))))))))))) <|
  seqS (setS 1 (ap2 gPlus (vr 1) (apN mkL (consW (apN mkT (consW (ret (.str "at")) (nilW))) (consW (apN mkT (consW (ret (.str "at")) (consW (ret (.str "a")) (nilW)))) (consW (apN mkL (consW (ret (.str "at")) (consW (ret (.str "a")) (nilW)))) (consW (apN mkT (consW (ret (.str "then")) (consW (ret (.str "b")) (consW (ret (.str "c")) (nilW))))) (nilW)))))))) <|
  seqS (setS 1 (ap2 gPlus (vr 1) (apN mkL (consW (apN mkT (consW (ret (.str "a")) (consW (ret (.str "at")) (nilW)))) (consW (apN mkT (consW (ret (.str "back")) (consW (ret (.str "m")) (nilW)))) (consW (apN mkT (consW (ret (.str "with")) (consW (ret (.non)) (nilW)))) (nilW))))))) <|
  retS (ap2 gIxA (vr 1) (drawW 0 (apN gLenA (consW (vr 1) (nilW)))))
def f__law_odd (C : Nat → Addr) : UF := fnU 0 2 (d__law_odd C)
theorem fn__law_odd (T : Txt K mg) (A : Wds K mg) (B : Kls K mg C) (G__law_draw : Df P w K mg base "_law_draw" 2 ["purse", "out_of"] spDraw) {f : Addr} {fd : FuncData} (F : Fun K "_law_odd" "_law_odd" s__law_odd f fd) : FnOk P w K mg base CX0 3 f fd ["purse"] (spU K 0 (f__law_odd C)) :=
  u_ok F sc__law_odd (fun cdv AA outer s H E hr => have hu := Nat.lt_of_le_of_lt (Nat.add_le_add_left (by decide : 1 ≤ 64) _) hr.units
    s_seq (pss_cons (s_set (ps_set (i := 1) sc__law_odd.nd rfl (by first | exact Or.inl rfl | exact Or.inr rfl) (m_lst (pe_lst (m_cons (pa_cons (m_c pe_non (fun _ => .non)) (m_cons (pa_cons (m_c pe_bl (fun _ => .bl _)) (m_cons (pa_cons (m_c pe_int (fun _ => .int _)) (m_cons (pa_cons (m_c pe_int (fun _ => .int _)) (m_cons (pa_cons (m_c pe_str (fun _ => .str _)) (m_cons (pa_cons (m_c pe_str (fun _ => .str _)) (m_cons (pa_cons (m_c pe_str (fun _ => .str _)) (m_cons (pa_cons (m_c pe_str (fun _ => .str _)) (m_cons (pa_cons (m_c pe_str (fun _ => .str _)) (m_cons (pa_cons (m_c pe_str (fun _ => .str _)) (m_cons (pa_cons (m_c pe_str (fun _ => .str _)) (m_cons (pa_cons (m_c pe_str (fun _ => .str _)) (m_cons (pa_cons (m_c pe_str (fun _ => .str _)) (m_cons (pa_cons (m_c pe_str (fun _ => .str _)) (m_cons (pa_cons (m_lst (pe_lst (m_nil pa_nil))) (m_cons (pa_cons (m_tup (pe_tup (m_nil pa_nil))) (m_nil pa_nil)))))))))))))))))))))))))))))))))))) (Nat.succ_ne_zero 0))
    (s_seq (pss_cons (s_set (ps_set (i := 1) sc__law_odd.nd rfl (by first | exact Or.inl rfl | exact Or.inr rfl) (m_op (pe_op o_plus (m_vr (pv 1)) (m_lst (pe_lst (m_cons (pa_cons (m_c pe_str (fun _ => .str _)) (m_cons (pa_cons (m_c pe_str (fun _ => .str _)) (m_cons (pa_cons (m_c pe_str (fun _ => .str _)) (m_cons (pa_cons (m_c pe_str (fun _ => .str _)) (m_cons (pa_cons (m_c pe_str (fun _ => .str _)) (m_cons (pa_cons (m_c pe_str (fun _ => .str _)) (m_cons (pa_cons (m_c pe_str (fun _ => .str _)) (m_nil pa_nil)))))))))))))))))) p_plus)) (Nat.succ_ne_zero 0))
    (s_seq (pss_cons (s_set (ps_set (i := 1) sc__law_odd.nd rfl (by first | exact Or.inl rfl | exact Or.inr rfl) (m_op (pe_op o_plus (m_vr (pv 1)) (m_lst (pe_lst (m_cons (pa_cons (m_tup (pe_tup (m_cons (pa_cons (m_c pe_str (fun _ => .str _)) (m_nil pa_nil))))) (m_cons (pa_cons (m_tup (pe_tup (m_cons (pa_cons (m_c pe_str (fun _ => .str _)) (m_cons (pa_cons (m_c pe_str (fun _ => .str _)) (m_nil pa_nil))))))) (m_cons (pa_cons (m_lst (pe_lst (m_cons (pa_cons (m_c pe_str (fun _ => .str _)) (m_cons (pa_cons (m_c pe_str (fun _ => .str _)) (m_nil pa_nil))))))) (m_cons (pa_cons (m_tup (pe_tup (m_cons (pa_cons (m_c pe_str (fun _ => .str _)) (m_cons (pa_cons (m_c pe_str (fun _ => .str _)) (m_cons (pa_cons (m_c pe_str (fun _ => .str _)) (m_nil pa_nil))))))))) (m_nil pa_nil)))))))))))) p_plus)) (Nat.succ_ne_zero 0))
    (s_seq (pss_cons (s_set (ps_set (i := 1) sc__law_odd.nd rfl (by first | exact Or.inl rfl | exact Or.inr rfl) (m_op (pe_op o_plus (m_vr (pv 1)) (m_lst (pe_lst (m_cons (pa_cons (m_tup (pe_tup (m_cons (pa_cons (m_c pe_str (fun _ => .str _)) (m_cons (pa_cons (m_c pe_str (fun _ => .str _)) (m_nil pa_nil))))))) (m_cons (pa_cons (m_tup (pe_tup (m_cons (pa_cons (m_c pe_str (fun _ => .str _)) (m_cons (pa_cons (m_c pe_str (fun _ => .str _)) (m_nil pa_nil))))))) (m_cons (pa_cons (m_tup (pe_tup (m_cons (pa_cons (m_c pe_str (fun _ => .str _)) (m_cons (pa_cons (m_c pe_non (fun _ => .non)) (m_nil pa_nil))))))) (m_nil pa_nil)))))))))) p_plus)) (Nat.succ_ne_zero 0))
    (s_one (s_ret (ps_ret (m_op (pe_ix o_ix (m_vr (pv 1)) (m_draw (pe_df G__law_draw (hr.mono (by decide)) (by rfl) (pa_cons (pv 0) (pa_cons (m_cb (pe_callB o_len (by rfl) T.m_len (by decide +kernel) (m_cons (pa_cons (m_vr (pv 1)) (m_nil pa_nil)))) p_lenA) pa_nil)))) (fun _ _ => rfl)) p_ixA))))))))))))
def d__law_due (C : Nat → Addr) : S :=
  seqS (ifS (notT (truT (isiW "tuple" (vr 0)))) (retS (apN mkT (consW (ret (.str "form")) (nilW)))) (skipS)) <|
  seqS (forS (itE isT (consW (vr 0) (nilW))) (tupT 2 (consT (nameT 1) (consT (nameT 2) (nilT)))) (ifS (orT (notT (truT (callW (f__law_is_sentence C) (consW (vr 2) (nilW))))) (andT (tst (ap2 (gEqA false) (vr 1) (ret (.int 0)))) (tst (ap2 (gEqA true) (ap2 gIxA (vr 2) (ret (.int 0))) (ret (.str "at")))))) (retS (apN mkT (consW (ret (.str "sentence")) (consW (vr 1) (nilW))))) (skipS)) [1, 2]) <|
  seqS (forS (itR1 (consW (apN gLenA (consW (vr 0) (nilW))) (nilW))) (nameT 1) (ifS (notT (truT (callW (f__law_fits C) (consW (slW gCutA (vr 0) (ret none) (partW (ap2 gPlus (vr 1) (ret (.int 1))))) (nilW))))) (retS (apN mkT (consW (ret (.str "cycle")) (consW (vr 1) (nilW))))) (skipS)) [1]) <|
  retS (ret (.non))
def f__law_due (C : Nat → Addr) : PF := fnP 1 3 (d__law_due C)
theorem fn__law_due (T : Txt K mg) (A : Wds K mg) (B : Kls K mg C) (G__law_fits : Df P w K mg base "_law_fits" 3 ["sentences"] (spP K 1 (f__law_fits C))) (G__law_is_sentence : Df P w K mg base "_law_is_sentence" 2 ["value"] (spP K 1 (f__law_is_sentence C))) {f : Addr} {fd : FuncData} (F : Fun K "_law_due" "_law_due" s__law_due f fd) : FnOk P w K mg base CX0 4 f fd ["value"] (spP K 1 (f__law_due C)) :=
  f_ok F sc__law_due (fun cdv AA outer s H E hr => have hu := Nat.lt_of_le_of_lt (Nat.add_le_add_left (by decide : 1 ≤ 64) _) hr.units
    s_seq (pss_cons (s_if (ps_if (m_not (pt_not (m_truth (pt_truth (m_isi (pe_callB call_isi (by rfl) T.m_isinstance (by decide +kernel) (pa_cons (m_vr (pv 0)) (pa_cons (pe_bltn (v := .ty "tuple") (by rfl) T.m_tuple boot_tuple rfl) pa_nil))) ok_tup) (by intro _; rfl))))) (s_one (s_ret (ps_ret (m_tup (pe_tup (m_cons (pa_cons (m_c pe_str (fun _ => .str _)) (m_nil pa_nil)))))))) (s_nil pss_nil)))
    (s_seq (pss_cons (s_for (ps_for PassesOwn.never rfl (i_enumT (ZLT.pi_enumT (by rfl) T.m_enumerate (m_cons (pa_cons (m_vr (pv 0)) (m_nil pa_nil))))) (g_tup (show PG _ _ (gTup _ 2 _) from pg_tup (by rfl) (g_cons (pgs_cons (g_name (pg_name (i := 1) sc__law_due.nd rfl (by first | exact Or.inl rfl | exact Or.inr rfl)) not_false) (g_cons (pgs_cons (g_name (pg_name (i := 2) sc__law_due.nd rfl (by first | exact Or.inl rfl | exact Or.inr rfl)) not_false) (g_nil pgs_nil))))) (by rfl))) (s_one (s_if (ps_if (PW.pt (m_or (pw_or (m_not (pt_not (m_truth (pt_truth (m_call (pe_df G__law_is_sentence (hr.mono (by decide)) (by rfl) (m_cons (pa_cons (m_vr (pv 2)) (m_nil pa_nil)))) fnP_len) (by intro _; rfl))))) (pw_or1 (PW.pt (m_and (pw_and (m_tst (pt_cmpR (o_eq hr.units) (m_vr (pv 1)) (m_c pe_int (fun _ => .int _)) (nomark _)) p_eqA) (pw_and1 (m_tst (pt_cmpR (o_ne hr.units) (m_op (pe_ix o_ix (m_vr (pv 2)) (m_c pe_int (fun _ => .int _)) (fun _ _ => rfl)) p_ixA) (m_c pe_str (fun _ => .str _)) (nomark _)) p_neA))))))))) (s_one (s_ret (ps_ret (m_tup (pe_tup (m_cons (pa_cons (m_c pe_str (fun _ => .str _)) (m_cons (pa_cons (m_vr (pv 1)) (m_nil pa_nil)))))))))) (s_nil pss_nil))))))
    (s_seq (pss_cons (s_for (ps_for PassesOwn.never rfl (i_rng1 (pi_range1 (by rfl) T.m_range (m_cons (pa_cons (m_cb (pe_callB o_len (by rfl) T.m_len (by decide +kernel) (m_cons (pa_cons (m_vr (pv 0)) (m_nil pa_nil)))) p_lenA) (m_nil pa_nil))))) (g_name (pg_name (i := 1) sc__law_due.nd rfl (by first | exact Or.inl rfl | exact Or.inr rfl)) not_false) (s_one (s_if (ps_if (m_not (pt_not (m_truth (pt_truth (m_call (pe_df G__law_fits (hr.mono (by decide)) (by rfl) (m_cons (pa_cons (m_sl (pe_slice o_sl (m_vr (pv 0)) (m_poN po_none) (m_po (po_some (m_op (pe_op o_plus (m_vr (pv 1)) (m_c pe_int (fun _ => .int _))) p_plus)))) p_cutA) (m_nil pa_nil)))) fnP_len) (by intro _; rfl))))) (s_one (s_ret (ps_ret (m_tup (pe_tup (m_cons (pa_cons (m_c pe_str (fun _ => .str _)) (m_cons (pa_cons (m_vr (pv 1)) (m_nil pa_nil)))))))))) (s_nil pss_nil))))))
    (s_one (s_ret (ps_ret (m_c pe_non (fun _ => .non)))))))))))
def d_closing_index (C : Nat → Addr) : S :=
  seqS (parS 1 2 (consW (ret (.int 0)) (consW (ap2 qSub (apN gLenA (consW (vr 0) (nilW))) (ret (.int 1))) (nilW)))) <|
  seqS (whileS (tst (ap2 gLt (vr 1) (vr 2))) (seqS (setS 3 (ap2 gDivW (ap2 gPlus (vr 1) (vr 2)) (ret (.int 2)))) <|
  ifS (truT (methW (C 0) "is_consistent" (f_Order_is_consistent C) (makeW (C 0) (f_Order_init C) (consW (slW gCutA (vr 0) (ret none) (partW (ap2 gPlus (vr 3) (ret (.int 1))))) (nilW))) nilW)) (setS 1 (ap2 gPlus (vr 3) (ret (.int 1)))) (setS 2 (vr 3))) [3]) <|
  retS (vr 1)
def f_closing_index (C : Nat → Addr) : PF := fnP 1 4 (d_closing_index C)
theorem fn_closing_index (T : Txt K mg) (A : Wds K mg) (B : Kls K mg C) (M_Order_is_consistent : Mt P w K mg base (C 0) "is_consistent" 2 ["self"] (spP K 1 (f_Order_is_consistent C))) (I_Order : Mke P w K mg base (C 0) 3 ["self", "tale"] (spI K (C 0) 1 (f_Order_init C))) {f : Addr} {fd : FuncData} (F : Fun K "closing_index" "closing_index" s_closing_index f fd) : FnOk P w K mg base CX0 5 f fd ["tale"] (spP K 1 (f_closing_index C)) :=
  f_ok F sc_closing_index (fun cdv AA outer s H E hr => have hu := Nat.lt_of_le_of_lt (Nat.add_le_add_left (by decide : 1 ≤ 64) _) hr.units
    s_seq (pss_cons (s_par (ps_par (i := 1) (j := 2) (by rfl) sc_closing_index.nd rfl rfl (by decide) rfl rfl (m_cons (pa_cons (m_c pe_int (fun _ => .int _)) (m_cons (pa_cons (m_op (pe_op op_sub (m_cb (pe_callB o_len (by rfl) T.m_len (by decide +kernel) (m_cons (pa_cons (m_vr (pv 0)) (m_nil pa_nil)))) p_lenA) (m_c pe_int (fun _ => .int _))) p_sub) (m_nil pa_nil))))) (by rfl)) not_false not_false)
    (s_seq (pss_cons (s_while (ps_while PassesOwn.never (m_tst (pt_cmpR op_lt (m_vr (pv 1)) (m_vr (pv 2)) (nomark _)) p_lt) (s_seq (pss_cons (s_set (ps_set (i := 3) sc_closing_index.nd rfl (by first | exact Or.inl rfl | exact Or.inr rfl) (m_op (pe_op op_fdivW (m_op (pe_op o_plus (m_vr (pv 1)) (m_vr (pv 2))) p_plus) (m_c pe_int (fun _ => .int _))) p_divW)) not_false)
    (s_one (s_if (ps_if (m_truth (pt_truth (m_meth0 (pe_mt0 (B.c 0 (by decide)) M_Order_is_consistent (hr.mono (by decide)) (m_make (pe_mke I_Order (hr.mono (by decide)) (by rfl) (B.g_0) (m_cons (pa_cons (m_sl (pe_slice o_sl (m_vr (pv 0)) (m_poN po_none) (m_po (po_some (m_op (pe_op o_plus (m_vr (pv 3)) (m_c pe_int (fun _ => .int _))) p_plus)))) p_cutA) (m_nil pa_nil)))) fnI_len)) fnP_len) (by intro _; rfl))) (s_one (s_set (ps_set (i := 1) sc_closing_index.nd rfl (by first | exact Or.inl rfl | exact Or.inr rfl) (m_op (pe_op o_plus (m_vr (pv 3)) (m_c pe_int (fun _ => .int _))) p_plus)) not_false)) (s_one (s_set (ps_set (i := 2) sc_closing_index.nd rfl (by first | exact Or.inl rfl | exact Or.inr rfl) (m_vr (pv 3))) not_false)))))))))
    (s_one (s_ret (ps_ret (m_vr (pv 1)))))))))
def d_check_tale (C : Nat → Addr) : S :=
  seqS (ifS (notT (truT (isiW "tuple" (vr 0)))) (retS (apN mkT (consW (ret (.str "form")) (nilW)))) (skipS)) <|
  seqS (forS (itE isT (consW (vr 0) (nilW))) (tupT 2 (consT (nameT 1) (consT (nameT 2) (nilT)))) (ifS (orT (notT (truT (callW (f_is_sentence C) (consW (vr 2) (nilW))))) (andT (tst (ap2 (gEqA false) (vr 1) (ret (.int 0)))) (tst (ap2 (gEqA true) (ap2 gIxA (vr 2) (ret (.int 0))) (ret (.str "at")))))) (retS (apN mkT (consW (ret (.str "sentence")) (consW (vr 1) (nilW))))) (skipS)) [1, 2]) <|
  seqS (ifS (notT (truT (methW (C 0) "is_consistent" (f_Order_is_consistent C) (makeW (C 0) (f_Order_init C) (consW (vr 0) (nilW))) nilW))) (retS (apN mkT (consW (ret (.str "cycle")) (consW (callW (f_closing_index C) (consW (vr 0) (nilW))) (nilW))))) (skipS)) <|
  retS (ret (.non))
def f_check_tale (C : Nat → Addr) : PF := fnP 1 3 (d_check_tale C)
theorem fn_check_tale (T : Txt K mg) (A : Wds K mg) (B : Kls K mg C) (M_Order_is_consistent : Mt P w K mg base (C 0) "is_consistent" 2 ["self"] (spP K 1 (f_Order_is_consistent C))) (G_closing_index : Df P w K mg base "closing_index" 5 ["tale"] (spP K 1 (f_closing_index C))) (G_is_sentence : Df P w K mg base "is_sentence" 2 ["thing"] (spP K 1 (f_is_sentence C))) (I_Order : Mke P w K mg base (C 0) 3 ["self", "tale"] (spI K (C 0) 1 (f_Order_init C))) {f : Addr} {fd : FuncData} (F : Fun K "check_tale" "check_tale" s_check_tale f fd) : FnOk P w K mg base CX0 6 f fd ["thing"] (spP K 1 (f_check_tale C)) :=
  f_ok F sc_check_tale (fun cdv AA outer s H E hr => have hu := Nat.lt_of_le_of_lt (Nat.add_le_add_left (by decide : 1 ≤ 64) _) hr.units
    s_seq (pss_cons (s_if (ps_if (m_not (pt_not (m_truth (pt_truth (m_isi (pe_callB call_isi (by rfl) T.m_isinstance (by decide +kernel) (pa_cons (m_vr (pv 0)) (pa_cons (pe_bltn (v := .ty "tuple") (by rfl) T.m_tuple boot_tuple rfl) pa_nil))) ok_tup) (by intro _; rfl))))) (s_one (s_ret (ps_ret (m_tup (pe_tup (m_cons (pa_cons (m_c pe_str (fun _ => .str _)) (m_nil pa_nil)))))))) (s_nil pss_nil)))
    (s_seq (pss_cons (s_for (ps_for PassesOwn.never rfl (i_enumT (ZLT.pi_enumT (by rfl) T.m_enumerate (m_cons (pa_cons (m_vr (pv 0)) (m_nil pa_nil))))) (g_tup (show PG _ _ (gTup _ 2 _) from pg_tup (by rfl) (g_cons (pgs_cons (g_name (pg_name (i := 1) sc_check_tale.nd rfl (by first | exact Or.inl rfl | exact Or.inr rfl)) not_false) (g_cons (pgs_cons (g_name (pg_name (i := 2) sc_check_tale.nd rfl (by first | exact Or.inl rfl | exact Or.inr rfl)) not_false) (g_nil pgs_nil))))) (by rfl))) (s_one (s_if (ps_if (PW.pt (m_or (pw_or (m_not (pt_not (m_truth (pt_truth (m_call (pe_df G_is_sentence (hr.mono (by decide)) (by rfl) (m_cons (pa_cons (m_vr (pv 2)) (m_nil pa_nil)))) fnP_len) (by intro _; rfl))))) (pw_or1 (PW.pt (m_and (pw_and (m_tst (pt_cmpR (o_eq hr.units) (m_vr (pv 1)) (m_c pe_int (fun _ => .int _)) (nomark _)) p_eqA) (pw_and1 (m_tst (pt_cmpR (o_ne hr.units) (m_op (pe_ix o_ix (m_vr (pv 2)) (m_c pe_int (fun _ => .int _)) (fun _ _ => rfl)) p_ixA) (m_c pe_str (fun _ => .str _)) (nomark _)) p_neA))))))))) (s_one (s_ret (ps_ret (m_tup (pe_tup (m_cons (pa_cons (m_c pe_str (fun _ => .str _)) (m_cons (pa_cons (m_vr (pv 1)) (m_nil pa_nil)))))))))) (s_nil pss_nil))))))
    (s_seq (pss_cons (s_if (ps_if (m_not (pt_not (m_truth (pt_truth (m_meth0 (pe_mt0 (B.c 0 (by decide)) M_Order_is_consistent (hr.mono (by decide)) (m_make (pe_mke I_Order (hr.mono (by decide)) (by rfl) (B.g_0) (m_cons (pa_cons (m_vr (pv 0)) (m_nil pa_nil)))) fnI_len)) fnP_len) (by intro _; rfl))))) (s_one (s_ret (ps_ret (m_tup (pe_tup (m_cons (pa_cons (m_c pe_str (fun _ => .str _)) (m_cons (pa_cons (m_call (pe_df G_closing_index (hr.mono (by decide)) (by rfl) (m_cons (pa_cons (m_vr (pv 0)) (m_nil pa_nil)))) fnP_len) (m_nil pa_nil)))))))))) (s_nil pss_nil)))
    (s_one (s_ret (ps_ret (m_c pe_non (fun _ => .non)))))))))))
end
end Lw
set_option Elab.async false
set_option linter.all false
set_option maxRecDepth 100000
set_option maxHeartbeats 4000000
/-! how conditions are shown: comprehensions and loops whose state stands still -/
namespace DN
open PySem PySem.Spec PyProof.Rows L2 TKS
section
variable {α : Type} {t : T} {tt : W Bool} {sd : α → Env → (α → Env → Prop) → Prop} {vs : List Nat} {P : α → Env → Prop} {δ : Env}
theorem cL_fold (f : α → D → α) (hδ : clr vs δ = δ) : ∀ (ds : List D) (a0 : α),
    (∀ pre d r, ds = pre ++ d :: r → ∀ N : α → Env → Prop, N (f (pre.foldl f a0) d) δ → t d δ fun δ1 => tt δ1 (fun b δ2 => if b = true then sd (pre.foldl f a0) δ2 fun a' δ3 => N a' (clr vs δ3) else N (pre.foldl f a0) (clr vs δ2)) noR) →
    P (ds.foldl f a0) δ → cL t tt sd vs P ds a0 δ
  | [], a0, _, h => by
    show P a0 (clr vs δ)
    rw [hδ]
    exact h
  | d :: r, a0, one, h => one [] d r rfl (cL t tt sd vs P r) (cL_fold f hδ r (f a0 d) (fun pre e s z N hN => one (d :: pre) e s (by rw [z]; rfl) N hN) h)
end
section
variable {t : T} {tt : W Bool} {F : W D} {vs : List Nat} {P : List D → Env → Prop} {δ : Env}
theorem foldl_app (g : D → List D) : ∀ (ds : List D) (acc : List D), ds.foldl (fun a d => a ++ g d) acc = acc ++ ds.flatMap g
  | [], acc => by simp
  | d :: r, acc => by
    rw [List.foldl_cons, foldl_app g r, List.flatMap_cons, List.append_assoc]
/-- [y for d in ds if ..]: g d is [y] or nothing -/
theorem lc_flat (g : D → List D) {ds : List D} (hδ : clr vs δ = δ) (len : ∀ pre d r, ds = pre ++ d :: r → (pre.flatMap g).length < sizeLine)
    (one : ∀ d ∈ ds, ∀ (acc : List D) (N : List D → Env → Prop), acc.length < sizeLine → N (acc ++ g d) δ → t d δ fun δ1 => tt δ1 (fun b δ2 => if b = true then sL F acc δ2 fun a' δ3 => N a' (clr vs δ3) else N acc (clr vs δ2)) noR)
    (h : P (ds.flatMap g) δ) : cL t tt (sL F) vs P ds [] δ := by
  refine cL_fold (fun a d => a ++ g d) hδ ds [] (fun pre d r e N hN => ?_) (by rw [foldl_app]; exact h)
  rw [foldl_app] at hN ⊢
  exact one d (by rw [e]; exact List.mem_append_right _ List.mem_cons_self) _ N (len pre d r e) hN
theorem flatMap_one (g : D → D) : ∀ ds : List D, ds.flatMap (fun d => [g d]) = ds.map g
  | [] => rfl
  | d :: r => by rw [List.flatMap_cons, flatMap_one g r]; rfl
theorem lc_map (g : D → D) {ds : List D} (hδ : clr vs δ = δ) (len : ds.length ≤ sizeLine)
    (one : ∀ d ∈ ds, ∀ (acc : List D) (N : List D → Env → Prop), acc.length < sizeLine → N (acc ++ [g d]) δ → t d δ fun δ1 => tt δ1 (fun b δ2 => if b = true then sL F acc δ2 fun a' δ3 => N a' (clr vs δ3) else N acc (clr vs δ2)) noR)
    (h : P (ds.map g) δ) : cL t tt (sL F) vs P ds [] δ := by
  refine lc_flat (fun d => [g d]) hδ (fun pre d r e => ?_) one (by rw [flatMap_one]; exact h)
  rw [flatMap_one, List.length_map]
  rw [e, List.length_append, List.length_cons] at len
  omega
theorem flatMap_pick (p : D → Bool) (g : D → D) : ∀ ds : List D, ds.flatMap (fun d => if p d = true then [g d] else []) = (ds.filter p).map g
  | [] => rfl
  | d :: r => by
    rw [List.flatMap_cons, flatMap_pick p g r]
    cases h : p d with
    | true => rw [List.filter_cons_of_pos h]; rfl
    | false => rw [List.filter_cons_of_neg (by rw [h]; nofun)]; rfl
theorem lc_pick (p : D → Bool) (g : D → D) {ds : List D} (hδ : clr vs δ = δ) (len : ds.length ≤ sizeLine)
    (one : ∀ d ∈ ds, ∀ (acc : List D) (N : List D → Env → Prop), acc.length < sizeLine → N (acc ++ if p d = true then [g d] else []) δ → t d δ fun δ1 => tt δ1 (fun b δ2 => if b = true then sL F acc δ2 fun a' δ3 => N a' (clr vs δ3) else N acc (clr vs δ2)) noR)
    (h : P ((ds.filter p).map g) δ) : cL t tt (sL F) vs P ds [] δ := by
  refine lc_flat (fun d => if p d = true then [g d] else []) hδ (fun pre d r e => ?_) one (by rw [flatMap_pick]; exact h)
  rw [flatMap_pick, List.length_map]
  have := List.length_filter_le p pre
  rw [e, List.length_append, List.length_cons] at len
  omega
end
/-- a for whose state (behind cl) is δ a at each turn -/
theorem forL_inv {α : Type} {t : T} {B : S} {cl : List Nat} {P : Outs} (st : α → Env) (f : α → D → α) (hst : ∀ a, clr cl (st a) = st a) : ∀ (ds : List D) (a0 : α),
    (∀ pre d r, ds = pre ++ d :: r → ∀ N : Env → Prop, (∀ δ, clr cl δ = st (f (pre.foldl f a0) d) → N δ) → t d (st (pre.foldl f a0)) fun δ1 => B δ1 { P with nx := N, ct := N, bk := fun δ2 => P.nx (clr cl δ2) }) →
    P.nx (st (ds.foldl f a0)) → ∀ δ, clr cl δ = st a0 → forL t B cl P ds δ
  | [], a0, _, h, δ, e => by
    show P.nx (clr cl δ)
    rw [e]
    exact h
  | d :: r, a0, one, h, δ, e => by
    show t d (clr cl δ) _
    rw [e]
    exact one [] d r rfl _ (fun δ2 e2 => forL_inv st f hst r (f a0 d) (fun pre x s z N hN => one (d :: pre) x s (by rw [z]; rfl) N hN) h δ2 e2)
end DN
set_option Elab.async false
set_option linter.all false
set_option maxRecDepth 100000
set_option maxHeartbeats 4000000
namespace Lw
open PySem PySem.Spec PyProof.Rows L2 TKS DN
def sD (s : Sen) : D := .tup [.str s.1, .str s.2]
def taleD (S : List Sen) : D := .tup (S.map sD)
variable {C : Nat → Addr}
theorem szl {n : Nat} (h : n ≤ 1000) : n ≤ sizeLine := by rw [sizeLine_eq]; omega
theorem szlt {n : Nat} (h : n < 1000) : n < sizeLine := by rw [sizeLine_eq]; omega
theorem eqD_str (a b : Str) : eqD (.str a) (.str b) = decide (a = b) := by
  unfold eqD pyD PyData.eqv
  by_cases h : a = b
  · rw [h, decide_eq_true rfl]; exact beq_self_eq_true b
  · rw [decide_eq_false h]; exact beq_false_of_ne h
theorem memD_str (x : Str) : ∀ ys : List Str, memD (.str x) (ys.map D.str) = decide (x ∈ ys)
  | [] => by simp [memD]
  | y :: r => by
    have ih := memD_str x r
    unfold memD at ih ⊢
    rw [List.map_cons, List.any_cons, ih, eqD_str]
    by_cases h : y = x
    · simp [h]
    · have h2 : ¬ x = y := fun e => h e.symm
      simp [h, h2]
theorem pl_str {z : Str} (h : PySem.PyData.strOk z = true) : Pl (.str z) := by
  unfold Pl pyD SeqAt.shaped PyData.canLay0 PyData.depth
  simpa using h
theorem moving_mem (w : Str) : moving w = decide (w ∈ (["at", "then", "back"] : List Str)) := by
  unfold moving inV mvW
  simp only [List.any_cons, List.any_nil, List.mem_cons, List.not_mem_nil, or_false, Bool.or_false]
  have e : ∀ a b : Str, eqV (.str a) (.str b) = decide (b = a) := fun a b => by
    unfold eqV
    by_cases h : a = b
    · subst h; simp
    · have h2 : ¬ b = a := fun z => h z.symm
      simp [h, h2]
  simp [e, Bool.decide_or]
theorem pl_mv : Pl k_MOVING_WORDS := by unfold Pl; decide +kernel
theorem in_moving (w : Str) : memD (.str w) [.str "at", .str "then", .str "back"] = moving w := by
  rw [moving_mem]
  exact memD_str w ["at", "then", "back"]
/-- what stands last, or nothing -/
def LastIs (acc : List Str) (p : Str) : Prop := acc = [] ∨ ∃ pre, acc = pre ++ [p]
theorem stands_loop (x : D) (P : Outs) : ∀ (S : List Sen) (acc : List Str) (p : Str), (∀ s ∈ S, PySem.PyData.strOk s.1 = true) → (acc = [] → Begins S) → LastIs acc p → acc.length + S.length ≤ 1000 → P.nx [.sh x, .ow (.lst ((acc ++ standsL p S).map D.str)), .no, .no] →
    forL (tupT 2 (consT (nameT 2) (consT (nameT 3) (nilT)))) (appS 1 (ifW (tst (ap2 (gInA false) (vr 2) (ret k_MOVING_WORDS))) (vr 3) (ixO 1 (ap1 gNeg (ret (.int 1)))))) [2, 3] P (S.map sD) [.sh x, .ow (.lst (acc.map D.str)), .no, .no]
  | [], acc, p, _, _, _, _, h => by
    rw [show acc ++ standsL p [] = acc from List.append_nil _] at h
    exact h
  | s :: r, acc, p, ok, bg, la, len, h => by
    have len' : acc.length < 1000 := by rw [List.length_cons] at len; omega
    refine ⟨rfl, ?_⟩
    refine ⟨rfl, pl_str (ok s List.mem_cons_self), pl_mv, ?_⟩
    show if memD (.str s.1) [.str "at", .str "then", .str "back"] = true then _ else _
    rw [in_moving]
    have go : ∀ q : Str, q = (if moving s.1 = true then s.2 else p) → forL (tupT 2 (consT (nameT 2) (consT (nameT 3) (nilT)))) (appS 1 (ifW (tst (ap2 (gInA false) (vr 2) (ret k_MOVING_WORDS))) (vr 3) (ixO 1 (ap1 gNeg (ret (.int 1)))))) [2, 3] P (r.map sD) [.sh x, .ow (.lst (acc.map D.str ++ [.str q])), .sh (.str s.1), .sh (.str s.2)] := fun q hq => by
      have e : acc.map D.str ++ [.str q] = (acc ++ [q]).map D.str := by rw [List.map_append]; rfl
      rw [e]
      have ih := stands_loop x P r (acc ++ [q]) q (fun s hs => ok s (List.mem_cons_of_mem _ hs)) (fun z => by cases acc <;> cases z) (.inr ⟨acc, rfl⟩) (by rw [List.length_append, List.length_singleton]; rw [List.length_cons] at len; omega) (by
        have z : acc ++ [q] ++ standsL q r = acc ++ standsL p (s :: r) := by
          rw [List.append_assoc]
          show acc ++ (q :: standsL q r) = acc ++ (_ :: standsL _ r)
          rw [← hq]
        rw [z]
        exact h)
      cases r with
      | nil => exact ih
      | cons _ _ => exact ih
    by_cases m : moving s.1 = true
    · rw [if_pos m]
      exact ⟨szlt (by rw [List.length_map]; exact len'), go s.2 (by rw [if_pos m])⟩
    · rw [if_neg m]
      rcases la with la | ⟨pre, rfl⟩
      · exact absurd (bg la s rfl) m
      · show optD (atI ((pre ++ [p]).map D.str) (-1)) _
        rw [List.map_append]
        show optD (atI (pre.map D.str ++ [.str p]) (-1)) _
        rw [atI_last]
        have gp := go p (by rw [if_neg m])
        rw [List.map_append] at gp
        exact ⟨szlt (by rw [← List.map_append, List.length_map]; exact len'), gp⟩
theorem spec_tale_stands {S : List Sen} {P : D → Prop} {R : Er → Prop} (ok : ∀ s ∈ S, PySem.PyData.strOk s.1 = true) (bg : Begins S) (len : S.length ≤ 1000) (h : P (.lst ((standsL "" S).map D.str))) : f_tale_stands C [taleD S] P R := by
  refine ⟨rfl, ?_⟩
  show (setO (okL nilW) 1) _ _
  refine ⟨szl (Nat.zero_le _), (show 1 < 4 by decide), ?_⟩
  exact stands_loop (taleD S) _ S [] "" ok (fun _ => bg) (.inl rfl) (by rw [List.length_nil]; omega) h
end Lw
set_option Elab.async false
set_option linter.all false
set_option maxRecDepth 100000
set_option maxHeartbeats 4000000
namespace Lw
open PySem PySem.Spec PyProof.Rows L2 TKS DN
variable {C : Nat → Addr}
theorem inV_mem (w : Str) : ∀ ys : List Str, inV (.str w) (ys.map V.str) = decide (w ∈ ys)
  | [] => by simp [inV]
  | y :: r => by
    have ih := inV_mem w r
    unfold inV at ih ⊢
    rw [List.map_cons, List.any_cons, ih]
    by_cases h : y = w
    · subst h; simp [eqV]
    · have h2 : ¬ w = y := fun e => h e.symm
      simp [eqV, h, h2]
theorem in_fw (w : Str) : memD (.str w) [.str "then", .str "later"] = inV (.str w) fwW := (memD_str w ["then", "later"]).trans (inV_mem w ["then", "later"]).symm
theorem in_bk (w : Str) : memD (.str w) [.str "back", .str "earlier"] = inV (.str w) bkW := (memD_str w ["back", "earlier"]).trans (inV_mem w ["back", "earlier"]).symm
theorem pl_fw : Pl k_FORWARD_WORDS := by unfold Pl; decide +kernel
theorem pl_bk : Pl k_BACKWARD_WORDS := by unfold Pl; decide +kernel
def lnkD (l : Lnk) : D := .tup [.str l.1, .str l.2.1, .bl l.2.2]
def lkD : List Lnk → D
  | [] => .non
  | l :: _ => lnkD l
theorem spec_sentence_link {st : D} {q w m : Str} {P : D → Prop} {R : Er → Prop} (ow : PySem.PyData.strOk w = true) (hs : st = .str q ∨ linkOf q (w, m) = []) (h : P (lkD (linkOf q (w, m)))) : f_sentence_link C [st, .str w, .str m] P R := by
  refine ⟨rfl, ?_⟩
  show if decide (w = "with") = true then _ else _
  by_cases c1 : w = "with"
  · rw [if_pos (decide_eq_true c1)]
    have e : linkOf q (w, m) = [(q, m, false)] := if_pos c1
    rw [e] at h hs
    rcases hs with rfl | hs
    · exact ⟨szl (by show 3 ≤ 1000; decide), h⟩
    · cases hs
  rw [if_neg (by rw [decide_eq_true_eq]; exact c1)]
  refine ⟨pl_str ow, pl_fw, ?_⟩
  show if memD (.str w) [.str "then", .str "later"] = true then _ else _
  rw [in_fw]
  by_cases c2 : inV (.str w) fwW = true
  · rw [if_pos c2]
    have e : linkOf q (w, m) = [(q, m, true)] := (if_neg c1).trans (if_pos c2)
    rw [e] at h hs
    rcases hs with rfl | hs
    · exact ⟨szl (by show 3 ≤ 1000; decide), h⟩
    · cases hs
  rw [if_neg c2]
  refine ⟨pl_str ow, pl_bk, ?_⟩
  show if memD (.str w) [.str "back", .str "earlier"] = true then _ else _
  rw [in_bk]
  by_cases c3 : inV (.str w) bkW = true
  · rw [if_pos c3]
    have e : linkOf q (w, m) = [(m, q, true)] := (if_neg c1).trans ((if_neg c2).trans (if_pos c3))
    rw [e] at h hs
    rcases hs with rfl | hs
    · exact ⟨szl (by show 3 ≤ 1000; decide), h⟩
    · cases hs
  rw [if_neg c3]
  have e : linkOf q (w, m) = [] := (if_neg c1).trans ((if_neg c2).trans (if_neg c3))
  rw [e] at h
  exact h
/-- a tale begins with "at" -/
def FirstAt (S : List Sen) : Prop := ∀ s, S[0]? = some s → s.1 = ("at" : Str)
theorem FirstAt.begins {S : List Sen} (h : FirstAt S) : Begins S := fun s e => by rw [h s e]; decide +kernel
/-- what each sentence links, told from p on -/
def lkL : Str → List Sen → List (List Lnk)
  | _, [] => []
  | p, s :: r => linkOf p s :: lkL (if moving s.1 = true then s.2 else p) r
theorem lkL_len : ∀ (S : List Sen) (p : Str), (lkL p S).length = S.length
  | [], _ => rfl
  | _ :: r, _ => congrArg Nat.succ (lkL_len r _)
theorem lkL_flat : ∀ (S : List Sen) (p : Str), (lkL p S).flatten = linksL p S
  | [], _ => rfl
  | s :: r, p => by
    show linkOf p s ++ (lkL _ r).flatten = _
    rw [lkL_flat r]
    rfl
/-- the list told: a link, or None, for each sentence -/
def linksD (S : List Sen) : D := .lst ((lkL "" S).map lkD)
theorem zip_links : ∀ (S : List Sen) (p : Str), zipD ((p :: standsL p S).map D.str) (S.map sD) = (S.zip (p :: standsL p S)).map fun e => D.tup [.str e.2, sD e.1]
  | [], _ => rfl
  | s :: r, p => by
    show D.tup [.str p, sD s] :: zipD ((_ :: standsL _ r).map D.str) (r.map sD) = _
    rw [zip_links r]
    rfl
theorem lk_zip : ∀ (S : List Sen) (p : Str), (S.zip (p :: standsL p S)).map (fun e => lkD (linkOf e.2 e.1)) = (lkL p S).map lkD
  | [], _ => rfl
  | s :: r, p => by
    show lkD (linkOf p s) :: ((r.zip (_ :: standsL _ r)).map _) = _
    rw [lk_zip r]
    rfl
theorem spec_tale_links {S : List Sen} {P : D → Prop} {R : Er → Prop} (ok : ∀ s ∈ S, PySem.PyData.strOk s.1 = true) (at_ : FirstAt S) (len : S.length ≤ 999) (h : P (linksD S)) : f_tale_links C [taleD S] P R := by
  refine ⟨rfl, ?_⟩
  refine ⟨szl (by show 1 ≤ 1000; decide), ?_⟩
  refine spec_tale_stands ok at_.begins (by omega) ?_
  refine ⟨szl (by show 1 + ((standsL "" S).map D.str).length ≤ 1000; rw [List.length_map, standsL_length]; omega), ?_⟩
  show cL _ _ (sL _) _ _ (zipD (.non :: (standsL "" S).map D.str) (S.map sD)) [] [.sh (taleD S), .no, .no]
  cases S with
  | nil => exact h
  | cons s r =>
    have e1 := at_ s rfl
    have lk0 : linkOf "" s = [] := by
      unfold linkOf
      rw [e1]
      rfl
    have mv : moving s.1 = true := at_.begins s rfl
    have st : standsL "" (s :: r) = s.2 :: standsL s.2 r := by
      show (if moving s.1 = true then s.2 else "") :: standsL (if moving s.1 = true then s.2 else "") r = _
      rw [if_pos mv]
    rw [st]
    show cL _ _ (sL _) _ _ (.tup [.non, sD s] :: zipD ((s.2 :: standsL s.2 r).map D.str) (r.map sD)) [] [.sh (taleD (s :: r)), .no, .no]
    rw [zip_links]
    refine lc_map (fun d => match d with
      | .tup [.str q, .tup [.str w, .str m]] => lkD (linkOf q (w, m))
      | _ => .non) rfl ?_ ?_ ?_
    · rw [List.length_cons, List.length_map, List.length_zip, List.length_cons, standsL_length]
      rw [List.length_cons] at len
      exact szl (by omega)
    · intro d hd acc N hl hN
      rcases List.mem_cons.mp hd with rfl | hd
      · refine ⟨rfl, rfl, ?_⟩
        refine spec_sentence_link (q := "") (ok s List.mem_cons_self) (.inr lk0) ?_
        refine ⟨hl, ?_⟩
        rw [lk0]
        exact hN
      · obtain ⟨e, he, rfl⟩ := List.mem_map.mp hd
        have hs : e.1 ∈ r := (List.of_mem_zip he).1
        refine ⟨rfl, rfl, ?_⟩
        exact spec_sentence_link (q := e.2) (ok e.1 (List.mem_cons_of_mem _ hs)) (.inl rfl) ⟨hl, hN⟩
    · have z : linksD (s :: r) = .lst (.non :: (r.zip (s.2 :: standsL s.2 r)).map fun e => lkD (linkOf e.2 e.1)) := by
        unfold linksD
        show D.lst (lkD (linkOf "" s) :: (lkL (if moving s.1 = true then s.2 else "") r).map lkD) = _
        rw [lk0, if_pos mv, lk_zip]
        rfl
      rw [z] at h
      rw [List.map_cons, List.map_map]
      exact h
end Lw
set_option Elab.async false
set_option linter.all false
set_option maxRecDepth 100000
set_option maxHeartbeats 4000000
namespace Lw
open PySem PySem.Spec PyProof.Rows L2 TKS DN
variable {C : Nat → Addr}
def nD (n : Nat) : D := .int (n : Nat)
def natD : D → Nat
  | .int (.ofNat j) => j
  | _ => 0
theorem rng0 (n : Nat) : rngD 0 n = (List.range n).map nD := by
  unfold rngD nD
  exact List.map_congr_left fun i _ => by rw [Int.zero_add]
def masksD (ms : List Nat) : D := .lst (ms.map nD)
theorem fold_close (ms : List Nat) : ∀ n, (List.range n).foldl (fun a j => closeRound j a) ms = closeN n ms
  | 0 => rfl
  | n + 1 => by
    rw [List.range_succ, List.foldl_append, fold_close ms n]
    rfl
theorem at_nD {ms : List Nat} {j : Nat} (h : j < ms.length) : atI (ms.map nD) ((j : Nat) : Int) = some (nD (ms.getD j 0)) := by
  refine atI_nat ?_
  rw [List.getElem?_map, List.getElem?_eq_getElem h, List.getD_eq_getElem?_getD, List.getElem?_eq_getElem h]
  rfl
theorem bit_tru (m j : Nat) : (((m >>> j &&& 1 : Nat) : Int) != 0) = m.testBit j := by
  rw [bit_and]
  cases m.testBit j <;> rfl
theorem spec_closed {ms : List Nat} {P : D → Prop} {R : Er → Prop} (len : ms.length ≤ 1000) (h : P (masksD (closeN ms.length ms))) : f_closed C [masksD ms] P R := by
  refine ⟨rfl, ?_⟩
  have hl : (ms.map nD).length = ms.length := List.length_map ..
  refine ⟨by rw [hl]; omega, ?_⟩
  show forL _ _ _ _ (rngD 0 ((ms.map nD).length : Int).toNat) _
  rw [hl, Int.toNat_natCast, rng0]
  refine forL_inv (fun a : List Nat => [.sh (masksD a), .no, .no]) (fun a d => closeRound (natD d) a) (fun _ => rfl) _ ms ?_ ?_ _ rfl
  · intro pre d r e N hN
    have hd : d ∈ (List.range ms.length).map nD := by rw [e]; exact List.mem_append_right _ List.mem_cons_self
    obtain ⟨j, hj, rfl⟩ := List.mem_map.mp hd
    have hj := List.mem_range.mp hj
    have la : ∀ (l : List D) (a : List Nat), (l.foldl (fun (a : List Nat) d => closeRound (natD d) a) a).length = a.length := fun l => by
      induction l with
      | nil => exact fun _ => rfl
      | cons x l ih =>
        intro a
        rw [List.foldl_cons, ih]
        exact List.length_map ..
    have la := la pre ms
    generalize (pre.foldl _ ms) = a at hN la ⊢
    show cL _ _ (sL _) _ _ (a.map nD) [] [.sh (masksD a), .sh (nD j), .no]
    have hN : N [.sh (masksD (closeRound j a)), .sh (nD j), .no] := hN _ rfl
    refine lc_map (fun d => nD (if (natD d).testBit j = true then natD d ||| a.getD j 0 else natD d)) rfl (szl (by rw [List.length_map]; omega)) ?_ ?_
    · intro d hd acc N hl hN
      obtain ⟨m, hm, rfl⟩ := List.mem_map.mp hd
      show if (((m >>> j &&& 1 : Nat) : Int) != 0) = true then _ else _
      rw [bit_tru]
      cases b : m.testBit j with
      | true =>
        rw [if_pos rfl]
        show optD (atI (a.map nD) ((j : Nat) : Int)) _
        rw [at_nD (by omega)]
        refine ⟨hl, ?_⟩
        have hN : N (acc ++ [nD (if m.testBit j = true then m ||| a.getD j 0 else m)]) _ := hN
        rw [if_pos b] at hN
        exact hN
      | false =>
        rw [if_neg nofun]
        refine ⟨hl, ?_⟩
        have hN : N (acc ++ [nD (if m.testBit j = true then m ||| a.getD j 0 else m)]) _ := hN
        rw [if_neg (by rw [b]; nofun)] at hN
        exact hN
    · have z : (a.map nD).map (fun d => nD (if (natD d).testBit j = true then natD d ||| a.getD j 0 else natD d)) = (closeRound j a).map nD := by
        unfold closeRound
        rw [List.map_map, List.map_map]
        rfl
      rw [z]
      exact hN
  · have z : ((List.range ms.length).map nD).foldl (fun (a : List Nat) d => closeRound (natD d) a) ms = closeN ms.length ms := by
      rw [List.foldl_map, ← fold_close]
      rfl
    rw [z]
    exact h
end Lw
set_option Elab.async false
set_option linter.all false
set_option maxRecDepth 100000
set_option maxHeartbeats 4000000
namespace Lw
open PySem PySem.Spec PyProof.Rows L2 TKS DN
variable {C : Nat → Addr}
theorem bit_one (m j : Nat) : decide ((((m >>> j &&& 1 : Nat) : Int)) = 1) = m.testBit j := by
  rw [bit_and]
  cases m.testBit j <;> rfl
theorem spec_precedes {fs : List (Str × D)} {A : List Nat} {i j : Nat} {P : D → Prop} {R : Er → Prop} (hA : fs.lookup ("after" : Str) = some (masksD A)) (hi : i < A.length) (h : P (.bl ((A.getD i 0).testBit j))) : f_Order_precedes C [.obj (C 0) fs, nD i, nD j] P R := by
  refine ⟨rfl, ?_⟩
  refine ⟨rfl, ?_⟩
  show optD (fs.lookup ("after" : Str)) _
  rw [hA]
  show optD (atI (A.map nD) ((i : Nat) : Int)) _
  rw [at_nD hi]
  show P (.bl (decide ((((A.getD i 0) >>> j &&& 1 : Nat) : Int) = 1)))
  rw [bit_one]
  exact h
theorem any_map {α β : Type} (f : α → β) (p : β → Bool) (l : List α) : (l.map f).any p = l.any fun x => p (f x) := by
  rw [List.any_map]
  rfl
theorem spec_is_consistent {fs : List (Str × D)} {A : List Nat} {G : List D} {P : D → Prop} {R : Er → Prop} (hG : fs.lookup ("groups" : Str) = some (.lst G)) (hA : fs.lookup ("after" : Str) = some (masksD A)) (np : fs.lookup ("precedes" : Str) = none) (hl : A.length = G.length) (few : G.length ≤ 1000) (h : P (.bl (!looped A))) : f_Order_is_consistent C [.obj (C 0) fs] P R := by
  refine ⟨rfl, ?_⟩
  refine ⟨rfl, ?_⟩
  show optD (fs.lookup ("groups" : Str)) _
  rw [hG]
  refine ⟨by omega, ?_⟩
  show cL _ _ (sL _) _ _ (rngD 0 ((G.length : Nat) : Int).toNat) [] [.sh (.obj (C 0) fs), .no]
  rw [Int.toNat_natCast, rng0]
  refine lc_map (fun d => .bl ((A.getD (natD d) 0).testBit (natD d))) rfl (szl (by rw [List.length_map, List.length_range]; exact few)) ?_ ?_
  · intro d hd acc N hacc hN
    obtain ⟨k, hk, rfl⟩ := List.mem_map.mp hd
    have hk := List.mem_range.mp hk
    refine ⟨rfl, np, ?_⟩
    exact spec_precedes hA (by omega) ⟨hacc, hN⟩
  · have z : ((List.range G.length).map nD).map (fun d => D.bl ((A.getD (natD d) 0).testBit (natD d))) = ((List.range G.length).map fun k => (A.getD k 0).testBit k).map D.bl := by
      rw [List.map_map, List.map_map]
      rfl
    rw [z]
    refine to_Bs _ _ ?_
    show P (.bl (!(List.any ((List.range G.length).map fun k => (A.getD k 0).testBit k) id)))
    rw [any_map, ← hl]
    exact h
end Lw
set_option Elab.async false
set_option linter.all false
set_option maxRecDepth 100000
set_option maxHeartbeats 4000000
namespace Lw
open PySem PySem.Spec PyProof.Rows L2 TKS DN
variable {C : Nat → Addr}
/-! the dict of parts, as data -/
def strsD (L : List Str) : D := .lst (L.map .str)
def pmD (P : PM) : List (Key × D) := P.map fun e => (Sum.inr e.1, strsD e.2)
theorem dec_inr (a b : Str) : decide ((Sum.inr a : Key) = Sum.inr b) = decide (a = b) := decide_eq_decide.mpr ⟨Sum.inr.inj, fun e => by rw [e]⟩
theorem pD_pm (P : PM) (k : Str) (L : List Str) : pD (pmD P) (Sum.inr k) (strsD L) = pmD (putP P k L) := by
  unfold pD putP pmD
  have e : ((P.map fun e => ((Sum.inr e.1 : Key), strsD e.2)).any fun kv => decide (kv.1 = Sum.inr k)) = P.any fun e => decide (e.1 = k) := by
    rw [List.any_map]
    exact congrArg (List.any P) (funext fun e => dec_inr e.1 k)
  rw [e]
  cases h : P.any fun e => decide (e.1 = k) with
  | true =>
    rw [if_pos rfl, if_pos rfl, List.map_map, List.map_map]
    refine List.map_congr_left fun e _ => ?_
    show (if (Sum.inr e.1 : Key) = Sum.inr k then ((Sum.inr e.1 : Key), strsD L) else (Sum.inr e.1, strsD e.2)) = _
    by_cases z : e.1 = k
    · rw [if_pos (congrArg Sum.inr z)]
      show _ = ((Sum.inr (if e.1 = k then (e.1, L) else e).1 : Key), strsD (if e.1 = k then (e.1, L) else e).2)
      rw [if_pos z]
    · rw [if_neg fun y => z (Sum.inr.inj y)]
      show _ = ((Sum.inr (if e.1 = k then (e.1, L) else e).1 : Key), strsD (if e.1 = k then (e.1, L) else e).2)
      rw [if_neg z]
  | false =>
    rw [if_neg nofun, if_neg nofun, List.map_append]
    rfl
theorem vD_pm (P : PM) (k : Str) : vD (pmD P) (Sum.inr k) = (getP P k).map strsD := by
  unfold vD getP pmD
  rw [List.find?_map]
  have e : ((fun kv : Key × D => decide (kv.1 = Sum.inr k)) ∘ fun e : Str × List Str => ((Sum.inr e.1 : Key), strsD e.2)) = fun e => decide (e.1 = k) := funext fun e => dec_inr e.1 k
  rw [e]
  cases P.find? fun e => decide (e.1 = k) <;> rfl
theorem vals_pm (P : PM) : valsD (pmD P) = P.map fun e => strsD e.2 := by
  unfold valsD pmD
  rw [List.map_map]
  rfl
/-- keys each once, all of N -/
structure Kn (P : PM) (N : List Str) : Prop where
  nd : (P.map (·.1)).Nodup
  sub : ∀ k ∈ P.map (·.1), k ∈ N
theorem put_keys (P : PM) (k : Str) (L : List Str) : (putP P k L).map (·.1) = if k ∈ P.map (·.1) then P.map (·.1) else P.map (·.1) ++ [k] := by
  unfold putP
  have e : (P.any fun e => decide (e.1 = k)) = decide (k ∈ P.map (·.1)) := by
    rw [Bool.eq_iff_iff, List.any_eq_true, decide_eq_true_eq, List.mem_map]
    exact ⟨fun ⟨x, hx, h⟩ => ⟨x, hx, of_decide_eq_true h⟩, fun ⟨x, hx, h⟩ => ⟨x, hx, decide_eq_true h⟩⟩
  rw [e]
  by_cases h : k ∈ P.map (·.1)
  · rw [if_pos (decide_eq_true h), if_pos h, List.map_map]
    refine List.map_congr_left fun e _ => ?_
    show (if e.1 = k then (e.1, L) else e).1 = e.1
    split <;> rfl
  · rw [if_neg (by rw [decide_eq_true_eq]; exact h), if_neg h, List.map_append]
    rfl
theorem Kn.put {P : PM} {N : List Str} (h : Kn P N) {k : Str} (hk : k ∈ N) (L : List Str) : Kn (putP P k L) N := by
  refine ⟨?_, fun x hx => ?_⟩
  · rw [put_keys]
    split
    · exact h.nd
    · rename_i z
      refine List.nodup_append.mpr ⟨h.nd, List.nodup_cons.mpr ⟨List.not_mem_nil, List.nodup_nil⟩, fun a ha b hb => ?_⟩
      rw [List.mem_singleton.mp hb]
      exact fun e => z (e ▸ ha)
  · rw [put_keys] at hx
    split at hx
    · exact h.sub x hx
    · rcases List.mem_append.mp hx with hx | hx
      · exact h.sub x hx
      · rw [List.mem_singleton.mp hx]; exact hk
theorem Kn.len {P : PM} {N : List Str} (h : Kn P N) : P.length ≤ N.length := by
  have := h.nd.length_le_of_subset (l₂ := N) fun k hk => h.sub k hk
  rwa [List.length_map] at this
theorem Kn.all {N : List Str} (L : List Str) : ∀ (ks : List Str) {P : PM}, Kn P N → (∀ k ∈ ks, k ∈ N) → Kn (putAll P ks L) N
  | [], _, h, _ => h
  | k :: r, _, h, hk => Kn.all L r (h.put (hk k List.mem_cons_self) L) fun x hx => hk x (List.mem_cons_of_mem _ hx)
theorem Kn.nil (N : List Str) : Kn [] N := ⟨List.nodup_nil, nofun⟩
end Lw
set_option Elab.async false
set_option linter.all false
set_option maxRecDepth 100000
set_option maxHeartbeats 4000000
namespace Lw
open PySem PySem.Spec PyProof.Rows L2 TKS DN
variable {C : Nat → Addr}
def strOf : D → Str
  | .str z => z
  | _ => ""
def pairD (e : Str × Str) : D := .tup [.str e.1, .str e.2]
def pairsD (E : List (Str × Str)) : D := .lst (E.map pairD)
theorem pl_strs {L : List Str} (h : ∀ y ∈ L, PySem.PyData.strOk y = true) : Pl (strsD L) := by
  have e : pyL (L.map D.str) = L.map PyData.str := by
    induction L with
    | nil => rfl
    | cons y r ih =>
      show pyD (.str y) :: pyL (r.map D.str) = _
      rw [ih fun y hy => h y (List.mem_cons_of_mem _ hy)]
      rfl
  have l : ∀ M : List Str, (∀ y ∈ M, PySem.PyData.strOk y = true) → PyData.canLayAll0 (M.map PyData.str) = true ∧ PyData.depthAll (M.map PyData.str) = 0 := fun M => by
    induction M with
    | nil => exact fun _ => ⟨by simp [PyData.canLayAll0], by simp [PyData.depthAll]⟩
    | cons y r ih =>
      intro hM
      obtain ⟨i1, i2⟩ := ih fun y hy => hM y (List.mem_cons_of_mem _ hy)
      have h0 := hM y List.mem_cons_self
      exact ⟨by simp [PyData.canLayAll0, PyData.canLay0, h0, i1], by simp [PyData.depthAll, PyData.depth, i2]⟩
  obtain ⟨l1, l2⟩ := l L h
  unfold Pl strsD
  show SeqAt.shaped (.list (pyL (L.map D.str))) = true
  rw [e]
  unfold SeqAt.shaped
  simp [PyData.canLay0, PyData.depth, l1, l2]
theorem fold_start : ∀ (ts : List Str) (P : PM), (ts.map D.str).foldl (fun acc d => pD acc (Sum.inr (strOf d)) (strsD [strOf d])) (pmD P) = pmD (ts.foldl (fun P t => putP P t [t]) P)
  | [], _ => rfl
  | t :: r, P => by
    show (r.map D.str).foldl _ (pD (pmD P) (Sum.inr t) (strsD [t])) = _
    rw [pD_pm, fold_start r]
    rfl
theorem put_len (P : PM) (k : Str) (L : List Str) : (putP P k L).length ≤ P.length + 1 := by
  unfold putP
  split
  · rw [List.length_map]; omega
  · rw [List.length_append]; exact Nat.le_refl _
theorem start_len : ∀ (ts : List Str) (P : PM), (ts.foldl (fun P t => putP P t [t]) P).length ≤ P.length + ts.length
  | [], _ => Nat.le_refl _
  | t :: r, P => by
    have a := start_len r (putP P t [t])
    have b := put_len P t [t]
    rw [List.foldl_cons, List.length_cons]
    omega
theorem start_kn {N : List Str} : ∀ (ts : List Str) {P : PM}, Kn P N → (∀ t ∈ ts, t ∈ N) → Kn (ts.foldl (fun P t => putP P t [t]) P) N
  | [], _, h, _ => h
  | t :: r, _, h, ht => start_kn r (h.put (ht t List.mem_cons_self) [t]) fun x hx => ht x (List.mem_cons_of_mem _ hx)
abbrev innerB : S := putS 2 (vr 3) (vr 6)
theorem inner_loop {P0 : Outs} {x y a b : D} {L : List Str} {N : List Str} (few : N.length ≤ 60) : ∀ (ks : List Str) (Q : PM), Kn Q N → (∀ k ∈ ks, k ∈ N) → P0.nx [.sh x, .sh y, .ow (.dic (pmD (putAll Q ks L))), .no, .sh a, .sh b, .sh (strsD L)] →
    ∀ δ, clr [3] δ = [.sh x, .sh y, .ow (.dic (pmD Q)), .no, .sh a, .sh b, .sh (strsD L)] → forL (nameT 3) innerB [3] P0 (ks.map D.str) δ
  | [], Q, _, _, h, δ, e => by
    show P0.nx (clr [3] δ)
    rw [e]
    exact h
  | k :: r, Q, kn, hk, h, δ, e => by
    show nameT 3 (.str k) (clr [3] δ) _
    rw [e]
    have hl := kn.len
    refine ⟨szlt (by show (List.map _ Q).length < 1000; rw [List.length_map]; omega), ?_⟩
    show forL (nameT 3) innerB [3] P0 (r.map D.str) [.sh x, .sh y, .ow (.dic (pD (pmD Q) (Sum.inr k) (strsD L))), .sh (.str k), .sh a, .sh b, .sh (strsD L)]
    rw [pD_pm]
    exact inner_loop few r (putP Q k L) (kn.put (hk k List.mem_cons_self) L) (fun z hz => hk z (List.mem_cons_of_mem _ hz)) h _ rfl
end Lw
set_option Elab.async false
set_option linter.all false
set_option maxRecDepth 100000
set_option maxHeartbeats 4000000
namespace Lw
open PySem PySem.Spec PyProof.Rows L2 TKS DN
variable {C : Nat → Addr}
abbrev outerB : S := ifS (tst (ap2 (gInA true) (vr 5) (getO 2 (vr 4)))) (seqS (setS 6 (ap2 gPlus (getO 2 (vr 4)) (getO 2 (vr 5)))) <| forS (itL (vr 6)) (nameT 3) (putS 2 (vr 3) (vr 6)) [3]) (skipS)
theorem good_len {P : PM} {ts : List Str} {E : List (Str × Str)} (G : Good P ts E) {N : List Str} (few : N.length ≤ 60) (hN : ∀ t ∈ ts, t ∈ N) {x : Str} {L : List Str} (h : getP P x = some L) : L.length ≤ 60 ∧ (∀ y ∈ L, y ∈ ts) := by
  have sub : ∀ y ∈ L, y ∈ ts := fun y hy => (G.dom y).mp (by rw [G.one x L y h hy]; rfl)
  have := (G.cls x L h).1.length_le_of_subset (l₂ := N) fun y hy => hN y (sub y hy)
  exact ⟨by omega, sub⟩
theorem outer_loop {P0 : Outs} {x y : D} {ts N : List Str} (few : N.length ≤ 60) (hN : ∀ t ∈ ts, t ∈ N) (ok : ∀ t ∈ ts, PySem.PyData.strOk t = true) : ∀ (E E0 : List (Str × Str)) (Q : PM), Good Q ts E0 → Kn Q N → (∀ e ∈ E, e.1 ∈ ts ∧ e.2 ∈ ts) →
    (∀ Q', Good Q' ts (E0 ++ E) → Kn Q' N → P0.nx [.sh x, .sh y, .ow (.dic (pmD Q')), .no, .no, .no, .no]) →
    ∀ δ, clr [3, 4, 5, 6] δ = [.sh x, .sh y, .ow (.dic (pmD Q)), .no, .no, .no, .no] → forL (tupT 2 (consT (nameT 4) (consT (nameT 5) (nilT)))) outerB [3, 4, 5, 6] P0 (E.map pairD) δ
  | [], E0, Q, g, kn, _, h, δ, e => by
    show P0.nx (clr [3, 4, 5, 6] δ)
    rw [e]
    rw [List.append_nil] at h
    exact h Q g kn
  | (a, b) :: r, E0, Q, g, kn, hE, h, δ, e => by
    obtain ⟨ha, hb⟩ := hE (a, b) List.mem_cons_self
    have g2 := g.merge ha hb
    obtain ⟨A, eA⟩ := Option.isSome_iff_exists.mp ((g.dom a).mpr ha)
    obtain ⟨B, eB⟩ := Option.isSome_iff_exists.mp ((g.dom b).mpr hb)
    obtain ⟨lA, sA⟩ := good_len g few hN eA
    obtain ⟨lB, sB⟩ := good_len g few hN eB
    have go : ∀ Q' δ, Q' = mergeP Q a b → Kn Q' N → clr [3, 4, 5, 6] δ = [.sh x, .sh y, .ow (.dic (pmD Q')), .no, .no, .no, .no] → forL (tupT 2 (consT (nameT 4) (consT (nameT 5) (nilT)))) outerB [3, 4, 5, 6] P0 (r.map pairD) δ := fun Q' δ eq kn' e' => by
      subst eq
      refine outer_loop few hN ok r (E0 ++ [(a, b)]) _ g2 kn' (fun z hz => hE z (List.mem_cons_of_mem _ hz)) (fun Q' g' k' => h Q' (by rw [List.append_assoc] at g'; exact g') k') δ e'
    have em : mergeP Q a b = if b ∈ A then Q else putAll Q (A ++ B) (A ++ B) := by
      unfold mergeP
      rw [eA, eB]
      rfl
    show tupT 2 _ (pairD (a, b)) (clr [3, 4, 5, 6] δ) _
    rw [e]
    refine ⟨rfl, rfl, ?_⟩
    show optD (vD (pmD Q) (Sum.inr a)) _
    rw [vD_pm, eA]
    refine ⟨pl_str (ok b hb), pl_strs (fun z hz => ok z (sA z hz)), ?_⟩
    show if (!memD (.str b) (A.map D.str)) = true then _ else _
    rw [memD_str]
    by_cases c : b ∈ A
    · rw [decide_eq_true c, if_neg (by decide)]
      exact go Q _ (by rw [em, if_pos c]) kn rfl
    · rw [decide_eq_false c, Bool.not_false, if_pos rfl]
      show optD (vD (pmD Q) (Sum.inr a)) _
      rw [vD_pm, eA]
      show optD (vD (pmD Q) (Sum.inr b)) _
      rw [vD_pm, eB]
      refine ⟨szl (by rw [List.length_map, List.length_map]; omega), ?_⟩
      have eAB : A.map D.str ++ B.map D.str = (A ++ B).map D.str := List.map_append.symm
      show forL (nameT 3) innerB [3] _ (A.map D.str ++ B.map D.str) [.sh x, .sh y, .ow (.dic (pmD Q)), .no, .sh (.str a), .sh (.str b), .sh (.lst (A.map D.str ++ B.map D.str))]
      rw [eAB]
      have hk : ∀ k ∈ A ++ B, k ∈ N := fun k hk => (List.mem_append.mp hk).elim (fun h => hN k (sA k h)) fun h => hN k (sB k h)
      exact inner_loop few (A ++ B) Q kn hk (go _ _ (by rw [em, if_neg c]) (Kn.all _ _ kn hk) rfl) _ rfl
end Lw
set_option Elab.async false
set_option linter.all false
set_option maxRecDepth 100000
set_option maxHeartbeats 400000
namespace Lw
open PySem PySem.Spec PyProof.Rows L2 TKS DN
variable {C : Nat → Addr}
theorem mem_getP {k : Str} {L : List Str} : ∀ {P : PM}, (P.map (·.1)).Nodup → (k, L) ∈ P → getP P k = some L
  | p :: r, nd, h => by
    obtain ⟨n1, n2⟩ := List.nodup_cons.mp (show (p.1 :: r.map (·.1)).Nodup from nd)
    rcases List.mem_cons.mp h with e | h
    · subst e
      exact getP_pos rfl
    · rw [getP_neg fun z => n1 (by rw [z]; exact List.mem_map_of_mem (f := (·.1)) h)]
      exact mem_getP n2 h
theorem getP_mem' {k : Str} {L : List Str} : ∀ {P : PM}, getP P k = some L → (k, L) ∈ P
  | [], h => by cases h
  | p :: r, h => by
    by_cases e : p.1 = k
    · rw [getP_pos e] at h
      cases h
      rw [← e]
      exact List.mem_cons_self
    · rw [getP_neg e] at h
      exact List.mem_cons_of_mem _ (getP_mem' h)
abbrev tupW : W D := apN qTup (consW (apN gSortS (consW (vr 6) (nilW))) (nilW))
structure AccOk (done : PM) (acc : List (List Str)) : Prop where
  own : ∀ g ∈ acc, ∃ e ∈ done, g.Perm e.2 ∧ sortedS g = true
  all : ∀ e ∈ done, ∃ g ∈ acc, g.Perm e.2
  nd : acc.Nodup
  len : acc.length ≤ done.length
theorem fin_loop {x0 x1 x2 x3 x4 x5 : Sl} {Pq : List (List Str) → DN.Env → Prop} : ∀ (es done : PM) (acc : List (List Str)), (done ++ es).length ≤ 60 → (∀ e ∈ es, e.2.length ≤ 60 ∧ e.2 ≠ []) → AccOk done acc →
    (∀ acc', AccOk (done ++ es) acc' → Pq acc' [x0, x1, x2, x3, x4, x5, .no]) → cL (nameT 6) (ret true) (sT tupW) [6] Pq (es.map fun e => strsD e.2) acc [x0, x1, x2, x3, x4, x5, .no]
  | [], done, acc, _, _, ok, h => by
    rw [List.append_nil] at h
    exact h acc ok
  | e :: r, done, acc, len, he, ok, h => by
    obtain ⟨l60, ne⟩ := he e List.mem_cons_self
    have al := ok.len
    rw [List.length_append, List.length_cons] at len
    show toSs (e.2.map D.str) _
    refine to_Ss _ _ ⟨by omega, fun ys pm so => ?_⟩
    show toSs (ys.map D.str) _
    refine to_Ss _ _ ⟨fun z => ne (by rw [z] at pm; exact pm.symm.eq_nil), by omega, ?_⟩
    show cL (nameT 6) (ret true) (sT tupW) [6] Pq (r.map fun e => strsD e.2) (if ys ∈ acc then acc else ys :: acc) [x0, x1, x2, x3, x4, x5, .no]
    have ea : done ++ e :: r = (done ++ [e]) ++ r := by rw [List.append_assoc]; rfl
    refine fin_loop r (done ++ [e]) _ (by rw [← ea, List.length_append, List.length_cons]; exact len) (fun z hz => he z (List.mem_cons_of_mem _ hz)) ?_ (fun acc' ok' => h acc' (by rw [ea]; exact ok'))
    by_cases c : ys ∈ acc
    · rw [if_pos c]
      refine ⟨fun g hg => ?_, fun z hz => ?_, ok.nd, by rw [List.length_append]; omega⟩
      · obtain ⟨e', h1, h2⟩ := ok.own g hg
        exact ⟨e', List.mem_append_left _ h1, h2⟩
      · rcases List.mem_append.mp hz with hz | hz
        · exact ok.all z hz
        · rw [List.mem_singleton.mp hz]
          exact ⟨ys, c, pm⟩
    · rw [if_neg c]
      refine ⟨fun g hg => ?_, fun z hz => ?_, List.nodup_cons.mpr ⟨c, ok.nd⟩, by rw [List.length_append, List.length_cons, List.length_singleton]; omega⟩
      · rcases List.mem_cons.mp hg with rfl | hg
        · exact ⟨e, List.mem_append_right _ (List.mem_singleton.mpr rfl), pm, so⟩
        · obtain ⟨e', h1, h2⟩ := ok.own g hg
          exact ⟨e', List.mem_append_left _ h1, h2⟩
      · rcases List.mem_append.mp hz with hz | hz
        · obtain ⟨g, h1, h2⟩ := ok.all z hz
          exact ⟨g, List.mem_cons_of_mem _ h1, h2⟩
        · rw [List.mem_singleton.mp hz]
          exact ⟨ys, List.mem_cons_self, pm⟩
theorem groups_of {ts N : List Str} {E : List (Str × Str)} {Q : PM} {acc ys : List (List Str)} (few : N.length ≤ 60) (hN : ∀ t ∈ ts, t ∈ N) (g : Good Q ts E) (kn : Kn Q N) (ok : AccOk Q acc) (pm : ys.Perm acc) (st : srtT ys) : IsGroups ts E ys := by
  have inT : ∀ e ∈ Q, e.1 ∈ ts ∧ e.2.Nodup ∧ (∀ y, y ∈ e.2 ↔ Conn E e.1 y) ∧ e.2.length ≤ 60 := fun e he => by
    have z := mem_getP kn.nd he
    exact ⟨(g.dom e.1).mp (by rw [z]; rfl), (g.cls _ _ z).1, (g.cls _ _ z).2, (good_len g few hN z).1⟩
  refine ⟨st, pm.nodup_iff.mpr ok.nd, fun s hs => ?_, fun x hx => ?_, ?_, fun s hs => ?_⟩
  · obtain ⟨e, he, gp, gs⟩ := ok.own s (pm.mem_iff.mp hs)
    obtain ⟨c1, c2, c3, _⟩ := inT e he
    exact ⟨e.1, e.2, c1, c2, c3, gp, gs⟩
  · obtain ⟨L, hL⟩ := Option.isSome_iff_exists.mp ((g.dom x).mpr hx)
    have mL := getP_mem' hL
    obtain ⟨s, hs, gp⟩ := ok.all _ mL
    exact ⟨s, pm.mem_iff.mpr hs, gp.mem_iff.mpr (((inT _ mL).2.2.1 x).mpr (.refl x))⟩
  · have := ok.len
    have := kn.len
    rw [pm.length_eq]
    omega
  · obtain ⟨e, he, gp, gs⟩ := ok.own s (pm.mem_iff.mp hs)
    rw [gp.length_eq]
    exact (inT e he).2.2.2
theorem spec_joined {ts N : List Str} {E : List (Str × Str)} {P : D → Prop} {R : Er → Prop} (few : N.length ≤ 60) (hN : ∀ t ∈ ts, t ∈ N) (ok : ∀ t ∈ ts, PySem.PyData.strOk t = true) (lt : ts.length ≤ 999) (hE : ∀ e ∈ E, e.1 ∈ ts ∧ e.2 ∈ ts)
    (h : ∀ G, IsGroups ts E G → P (.lst (G.map tupD))) : f_joined C [strsD ts, pairsD E] P R := by
  refine ⟨rfl, ?_⟩
  show cL _ _ (DN.sD _ _) _ _ (ts.map D.str) [] [.sh (strsD ts), .sh (pairsD E), .no, .no, .no, .no, .no]
  refine cL_fold (fun acc d => pD acc (Sum.inr (strOf d)) (strsD [strOf d])) rfl _ _ ?_ ?_
  · intro pre d r e N' hN'
    obtain ⟨l1, l2, rfl, rfl, e2⟩ := List.map_eq_append_iff.mp e
    cases l2 with
    | nil => cases e2
    | cons t l2 =>
      injection e2 with e2 e3
      subst e2
      have hf : (l1.map D.str).foldl (fun acc d => pD acc (Sum.inr (strOf d)) (strsD [strOf d])) [] = pmD (startP l1) := fold_start l1 []
      rw [hf] at hN' ⊢
      have sl := start_len l1 []
      refine ⟨szl (by show 1 ≤ 1000; decide), szlt ?_, hN'⟩
      show (List.map _ _).length < 1000
      rw [List.length_map]
      rw [List.length_append, List.length_cons] at lt
      have : ([] : PM).length = 0 := rfl
      unfold startP
      omega
  · have hf : (ts.map D.str).foldl (fun acc d => pD acc (Sum.inr (strOf d)) (strsD [strOf d])) [] = pmD (startP ts) := fold_start ts []
    rw [hf]
    refine ⟨(show 2 < 7 by decide), ?_⟩
    show forL _ outerB [3, 4, 5, 6] _ (E.map pairD) [.sh (strsD ts), .sh (pairsD E), .ow (.dic (pmD (startP ts))), .no, .no, .no, .no]
    refine outer_loop few hN ok E [] (startP ts) (good_start ts) (start_kn ts (Kn.nil N) hN) hE (fun Q g kn => ?_) _ rfl
    rw [List.nil_append] at g
    show cL (nameT 6) (ret true) (sT tupW) [6] _ (valsD (pmD Q)) [] [.sh (strsD ts), .sh (pairsD E), .sh (.dic (pmD Q)), .no, .no, .no, .no]
    rw [vals_pm]
    have kl := kn.len
    refine fin_loop Q [] [] (by rw [List.nil_append]; omega) (fun e he => ?_) ⟨nofun, nofun, List.nodup_nil, Nat.le_refl _⟩ (fun acc ok' => fun ys pm st => ?_)
    · have z := mem_getP kn.nd he
      refine ⟨(good_len g few hN z).1, fun z2 => ?_⟩
      have c := ((g.cls _ _ z).2 e.1).mpr (.refl _)
      rw [z2] at c
      cases c
    · rw [List.nil_append] at ok'
      exact h ys (groups_of few hN g kn ok' pm st)
end Lw
set_option Elab.async false
set_option linter.all false
set_option maxRecDepth 100000
set_option maxHeartbeats 400000
namespace Lw
open PySem PySem.Spec PyProof.Rows L2 TKS DN
variable {C : Nat → Addr}
theorem lk_some (q : Str) (s : Sen) : linkOf q s = [] ∨ ∃ l, linkOf q s = [l] := by
  unfold linkOf
  split
  · exact .inr ⟨_, rfl⟩
  · split
    · exact .inr ⟨_, rfl⟩
    · split
      · exact .inr ⟨_, rfl⟩
      · exact .inl rfl
theorem lk_pick : ∀ (S : List Sen) (p : Str), ((lkL p S).map lkD).filter (fun d => !isNo d) = (linksL p S).map lnkD
  | [], _ => rfl
  | s :: r, p => by
    show (lkD (linkOf p s) :: (lkL _ r).map lkD).filter _ = (linkOf p s ++ linksL _ r).map lnkD
    rcases lk_some p s with e | ⟨l, e⟩
    · rw [e, List.filter_cons_of_neg (by decide), lk_pick r]
      rfl
    · rw [e, List.filter_cons_of_pos (by rfl), lk_pick r]
      rfl
def strictD : D → Bool
  | .tup [_, _, .bl b] => b
  | _ => false
def ends2 : D → D
  | .tup [x, y, _] => .tup [x, y]
  | _ => .non
theorem same_pick : ∀ L : List Lnk, ((L.map lnkD).filter (fun d => !strictD d)).map ends2 = (sameL L).map pairD
  | [] => rfl
  | l :: r => by
    have ih := same_pick r
    unfold sameL at ih ⊢
    rw [List.map_cons]
    by_cases h : l.2.2 = true
    · rw [List.filter_cons_of_neg (by show ¬ (!l.2.2) = true; rw [h]; decide), List.filter_cons_of_neg (by rw [h]; decide), ih]
    · have h : l.2.2 = false := by cases z : l.2.2 with | true => exact absurd z h | false => rfl
      rw [List.filter_cons_of_pos (by show (!l.2.2) = true; rw [h]; rfl), List.filter_cons_of_pos (by rw [h]; rfl), List.map_cons, List.map_cons, List.map_cons, ih]
      rfl
/-! the numbers of the moments -/
def numF : List (Key × D) → Nat → List Str → List (Key × D)
  | acc, _, [] => acc
  | acc, k, m :: r => numF (pD acc (Sum.inr m) (nD k)) k r
def numG : List (Key × D) → Nat → List (List Str) → List (Key × D)
  | acc, _, [] => acc
  | acc, k, g :: r => numG (numF acc k g) (k + 1) r
theorem vD_put (kvs : List (Key × D)) (k j : Key) (v : D) : vD (pD kvs k v) j = if j = k then some v else vD kvs j := by
  unfold pD
  have any_find : ∀ l : List (Key × D), (l.any fun kv => decide (kv.1 = k)) = (vD l k).isSome := fun l => by
    induction l with
    | nil => rfl
    | cons p r ih =>
      unfold vD at ih ⊢
      rw [List.any_cons, List.find?_cons, ih]
      cases h : decide (p.1 = k) <;> rfl
  by_cases c : (kvs.any fun kv => decide (kv.1 = k)) = true
  · rw [if_pos c]
    have c2 := c
    rw [any_find] at c2
    clear c
    induction kvs with
    | nil => cases c2
    | cons p r ih =>
      unfold vD at c2 ih ⊢
      rw [List.map_cons, List.find?_cons, List.find?_cons]
      rw [List.find?_cons] at c2
      by_cases e : p.1 = k
      · rw [if_pos e]
        by_cases ej : j = k
        · rw [if_pos ej, decide_eq_true (e.trans ej.symm)]
          rfl
        · rw [if_neg ej, decide_eq_false (fun z => ej (z.symm.trans e))]
          by_cases c3 : (Option.map (fun x => x.2) (r.find? fun kv => decide (kv.1 = k))).isSome = true
          · exact (ih c3).trans (if_neg ej)
          · -- no other k
            have nk : ∀ x ∈ r, ¬ x.1 = k := fun x hx z => c3 (by
              have := List.find?_isSome (p := fun kv : Key × D => decide (kv.1 = k)) (xs := r)
              rw [Option.isSome_map]
              exact this.mpr ⟨x, hx, decide_eq_true z⟩)
            have e2 : r.map (fun kv => if kv.1 = k then (kv.1, v) else kv) = r := by
              conv => rhs; rw [← List.map_id r]
              exact List.map_congr_left fun x hx => if_neg (nk x hx)
            rw [e2]
      · rw [if_neg e]
        rw [decide_eq_false e] at c2
        by_cases ej : p.1 = j
        · rw [decide_eq_true ej, if_neg (fun z => e (ej.trans z))]
        · rw [decide_eq_false ej]
          exact ih c2
  · rw [if_neg c]
    have nk : ∀ x ∈ kvs, ¬ x.1 = k := fun x hx z => c (List.any_eq_true.mpr ⟨x, hx, decide_eq_true z⟩)
    unfold vD
    rw [List.find?_append]
    by_cases ej : j = k
    · rw [if_pos ej]
      have : kvs.find? (fun kv => decide (kv.1 = j)) = none := List.find?_eq_none.mpr fun x hx => by rw [decide_eq_true_eq, ej]; exact nk x hx
      rw [this, ej, Option.none_or, List.find?_cons, decide_eq_true rfl]
      rfl
    · rw [if_neg ej]
      have : List.find? (fun kv : Key × D => decide (kv.1 = j)) [(k, v)] = none := List.find?_eq_none.mpr fun x hx => by rw [List.mem_singleton.mp hx, decide_eq_true_eq]; exact fun z => ej z.symm
      rw [this, Option.or_none]
end Lw
set_option Elab.async false
set_option linter.all false
set_option maxRecDepth 100000
set_option maxHeartbeats 400000
namespace Lw
open PySem PySem.Spec PyProof.Rows L2 TKS DN
variable {C : Nat → Addr}
theorem numF_at (m : Str) : ∀ (g : List Str) (acc : List (Key × D)) (k : Nat), vD (numF acc k g) (Sum.inr m) = if m ∈ g then some (nD k) else vD acc (Sum.inr m)
  | [], acc, k => by rw [if_neg List.not_mem_nil]; rfl
  | x :: r, acc, k => by
    show vD (numF (pD acc (Sum.inr x) (nD k)) k r) _ = _
    rw [numF_at m r, vD_put]
    by_cases h : m ∈ r
    · rw [if_pos h, if_pos (List.mem_cons_of_mem _ h)]
    · rw [if_neg h]
      by_cases e : m = x
      · rw [if_pos (congrArg Sum.inr e), if_pos (e ▸ List.mem_cons_self)]
      · rw [if_neg fun z => e (Sum.inr.inj z), if_neg fun z => (List.mem_cons.mp z).elim e h]
theorem inG_cons {g : List Str} {G : List (List Str)} {i : Nat} {m : Str} : InG (g :: G) (i + 1) m ↔ InG G i m := Iff.rfl
theorem numG_at (m : Str) : ∀ (G : List (List Str)) (acc : List (Key × D)) (k0 : Nat), (∀ i j, InG G i m → InG G j m → i = j) →
    (∀ i, InG G i m → vD (numG acc k0 G) (Sum.inr m) = some (nD (k0 + i))) ∧ ((∀ i, ¬ InG G i m) → vD (numG acc k0 G) (Sum.inr m) = vD acc (Sum.inr m))
  | [], acc, k0, _ => ⟨fun i h => (by obtain ⟨g, e, _⟩ := h; cases e), fun _ => rfl⟩
  | g :: G, acc, k0, u => by
    obtain ⟨a1, a2⟩ := numG_at m G (numF acc k0 g) (k0 + 1) fun i j hi hj => Nat.succ.inj (u (i + 1) (j + 1) hi hj)
    refine ⟨fun i hi => ?_, fun n => ?_⟩
    · cases i with
      | zero =>
        obtain ⟨g', e, mg⟩ := hi
        cases e
        show vD (numG (numF acc k0 g) (k0 + 1) G) _ = _
        rw [a2 (fun i h => (by have := u 0 (i + 1) ⟨g, rfl, mg⟩ h; cases this)), numF_at, if_pos mg]
        rfl
      | succ i =>
        show vD (numG (numF acc k0 g) (k0 + 1) G) _ = _
        rw [a1 i hi, show k0 + 1 + i = k0 + (i + 1) by omega]
    · show vD (numG (numF acc k0 g) (k0 + 1) G) _ = _
      rw [a2 (fun i h => n (i + 1) h), numF_at, if_neg (fun h => n 0 ⟨g, rfl, h⟩)]
/-- the number of each moment's group -/
structure NumD (num : List (Key × D)) (G : List (List Str)) : Prop where
  all : ∀ k m, InG G k m → vD num (Sum.inr m) = some (nD k)
  own : ∀ m v, vD num (Sum.inr m) = some v → ∃ k, InG G k m ∧ v = nD k
theorem num_ok {ts : List Str} {E : List (Str × Str)} {G : List (List Str)} (iG : IsGroups ts E G) : NumD (numG [] 0 G) G := by
  refine ⟨fun k m h => ?_, fun m v h => ?_⟩
  · have := (numG_at m G [] 0 fun i j hi hj => groups_one iG hi hj).1 k h
    rwa [Nat.zero_add] at this
  · by_cases c : ∃ k, InG G k m
    · obtain ⟨k, hk⟩ := c
      have := (numG_at m G [] 0 fun i j hi hj => groups_one iG hi hj).1 k hk
      rw [Nat.zero_add, h] at this
      exact ⟨k, hk, Option.some.inj this⟩
    · have := (numG_at m G [] 0 fun i j hi hj => groups_one iG hi hj).2 fun i hi => c ⟨i, hi⟩
      rw [h] at this
      cases this
theorem numF_len : ∀ (g : List Str) (acc : List (Key × D)) (k : Nat), (numF acc k g).length ≤ acc.length + g.length
  | [], _, _ => Nat.le_refl _
  | m :: r, acc, k => by
    have a := numF_len r (pD acc (Sum.inr m) (nD k)) k
    have b : (pD acc (Sum.inr m) (nD k)).length ≤ acc.length + 1 := by
      unfold pD
      split
      · rw [List.length_map]; omega
      · rw [List.length_append]; exact Nat.le_refl _
    show (numF (pD acc (Sum.inr m) (nD k)) k r).length ≤ _
    rw [List.length_cons]
    omega
/-! the comprehension that numbers -/
theorem num_in {x0 x1 x2 x3 x4 x5 x6 x7 x8 x12 : Sl} {g : D} {k : Nat} {N : List (Key × D) → DN.Env → Prop} : ∀ (L : List Str) (acc : List (Key × D)), acc.length + L.length ≤ 60 * 61 →
    N (numF acc k L) [x0, x1, x2, x3, x4, x5, x6, x7, x8, .no, .sh (nD k), .sh g, x12] →
    cI (nameT 9) (ret true) (DN.sD (vr 9) (vr 10)) [9] N (L.map D.str) acc [x0, x1, x2, x3, x4, x5, x6, x7, x8, .no, .sh (nD k), .sh g, x12]
  | [], _, _, h => h
  | m :: r, acc, len, h => by
    rw [List.length_cons] at len
    have b : (pD acc (Sum.inr m) (nD k)).length ≤ acc.length + 1 := by
      unfold pD
      split
      · rw [List.length_map]; omega
      · rw [List.length_append]; exact Nat.le_refl _
    refine ⟨by rw [sizeLine_eq]; omega, ?_⟩
    exact num_in r (pD acc (Sum.inr m) (nD k)) (by omega) h
theorem num_out {x0 x1 x2 x3 x4 x5 x6 x7 x8 x12 : Sl} {N : List (Key × D) → DN.Env → Prop} : ∀ (G : List (List Str)) (acc : List (Key × D)) (k : Nat), k + G.length ≤ 60 → (∀ g ∈ G, g.length ≤ 60) → acc.length ≤ 60 * k →
    N (numG acc k G) [x0, x1, x2, x3, x4, x5, x6, x7, x8, .no, .no, .no, x12] →
    cL2 (tupT 2 (consT (nameT 10) (consT (nameT 11) (nilT)))) (ret true) (itT (vr 11)) (nameT 9) (ret true) (DN.sD (vr 9) (vr 10)) [10, 11, 9] [9] N (enumD k (G.map tupD)) acc [x0, x1, x2, x3, x4, x5, x6, x7, x8, .no, .no, .no, x12]
  | [], _, _, _, _, _, h => h
  | g :: r, acc, k, len, hg, la, h => by
    have lg := hg g List.mem_cons_self
    rw [List.length_cons] at len
    refine ⟨rfl, rfl, ?_⟩
    show cI (nameT 9) (ret true) (DN.sD (vr 9) (vr 10)) [9] _ (g.map D.str) acc [x0, x1, x2, x3, x4, x5, x6, x7, x8, .no, .sh (nD k), .sh (tupD g), x12]
    refine num_in g acc (by omega) ?_
    have l2 := numF_len g acc k
    exact num_out r (numF acc k g) (k + 1) (by omega) (fun z hz => hg z (List.mem_cons_of_mem _ hz)) (by omega) h
end Lw
set_option Elab.async false
set_option linter.all false
set_option maxRecDepth 100000
set_option maxHeartbeats 400000
namespace Lw
open PySem PySem.Spec PyProof.Rows L2 TKS DN
variable {C : Nat → Addr}
theorem getD_set (ms : List Nat) (i k v : Nat) (h : i < ms.length) : (ms.set i v).getD k 0 = if k = i then v else ms.getD k 0 := by
  rw [List.getD_eq_getElem?_getD, List.getD_eq_getElem?_getD, List.getElem?_set]
  by_cases e : i = k
  · subst e
    rw [if_pos rfl, if_pos h, if_pos rfl]
    rfl
  · rw [if_neg e, if_neg fun z => e z.symm]
theorem steps_add {ts : List Str} {E : List (Str × Str)} {G : List (List Str)} {L : List Lnk} {ms : List Nat} {a b : Str} {i j : Nat} (iG : IsGroups ts E G) (St : StepsOk G L ms) (hi : InG G i a) (hj : InG G j b) : StepsOk G (L ++ [(a, b, true)]) (ms.set i (ms.getD i 0 ||| 1 <<< j)) := by
  have il : i < ms.length := by
    obtain ⟨g, e, _⟩ := hi
    rw [St.len]
    exact (List.getElem?_eq_some_iff.mp e).1
  refine ⟨by rw [List.length_set]; exact St.len, fun x y => ?_⟩
  rw [getD_set _ _ _ _ il]
  by_cases e : x = i
  · subst e
    rw [if_pos rfl, Nat.testBit_or, Nat.one_shiftLeft, Nat.testBit_two_pow, Bool.or_eq_true, decide_eq_true_eq, St.bit]
    constructor
    · rintro (⟨p, q, h, h1, h2⟩ | rfl)
      · exact ⟨p, q, List.mem_append_left _ h, h1, h2⟩
      · exact ⟨a, b, List.mem_append_right _ (List.mem_singleton.mpr rfl), hi, hj⟩
    · rintro ⟨p, q, h, h1, h2⟩
      rcases List.mem_append.mp h with h | h
      · exact .inl ⟨p, q, h, h1, h2⟩
      · cases List.mem_singleton.mp h
        exact .inr (groups_one iG hj h2)
  · rw [if_neg e, St.bit]
    constructor
    · rintro ⟨p, q, h, h1, h2⟩
      exact ⟨p, q, List.mem_append_left _ h, h1, h2⟩
    · rintro ⟨p, q, h, h1, h2⟩
      rcases List.mem_append.mp h with h | h
      · exact ⟨p, q, h, h1, h2⟩
      · cases List.mem_singleton.mp h
        exact absurd (groups_one iG h1 hi) e
theorem steps_skip {G : List (List Str)} {L : List Lnk} {ms : List Nat} {l : Lnk} (St : StepsOk G L ms) (h : l.2.2 = false) : StepsOk G (L ++ [l]) ms := by
  refine ⟨St.len, fun x y => ?_⟩
  rw [St.bit]
  constructor
  · rintro ⟨p, q, h, h1, h2⟩
    exact ⟨p, q, List.mem_append_left _ h, h1, h2⟩
  · rintro ⟨p, q, z, h1, h2⟩
    rcases List.mem_append.mp z with z | z
    · exact ⟨p, q, z, h1, h2⟩
    · have e := List.mem_singleton.mp z
      rw [← e] at h
      cases h
abbrev stepB (C : Nat → Addr) : S := ifS (truT (vr 7)) (augAtS 12 (ap2 gGet (fldO (C 0) 0 "number") (vr 5)) (ap2 gBit (ret (.int 1)) (ap2 gGet (fldO (C 0) 0 "number") (vr 6))) (· ||| ·)) (skipS)
theorem step_loop {P0 : Outs} {gd : D} {num : List (Key × D)} {x1 x2 x3 x4 : Sl} {ts : List Str} {E : List (Str × Str)} {G : List (List Str)} (iG : IsGroups ts E G) (nm : NumD num G) : ∀ (L L0 : List Lnk) (ms : List Nat), StepsOk G L0 ms → (∀ l ∈ L, (∃ i, InG G i l.1) ∧ ∃ j, InG G j l.2.1) →
    (∀ ms', StepsOk G (L0 ++ L) ms' → P0.nx [.ow (.obj (C 0) [("groups", gd), ("number", .dic num)]), x1, x2, x3, x4, .no, .no, .no, .no, .no, .no, .no, .ow (.lst (ms'.map nD))]) →
    ∀ δ, clr [5, 6, 7] δ = [.ow (.obj (C 0) [("groups", gd), ("number", .dic num)]), x1, x2, x3, x4, .no, .no, .no, .no, .no, .no, .no, .ow (.lst (ms.map nD))] →
    forL (tupT 3 (consT (nameT 5) (consT (nameT 6) (consT (nameT 7) (nilT))))) (stepB C) [5, 6, 7] P0 (L.map lnkD) δ
  | [], L0, ms, so, _, h, δ, e => by
    show P0.nx (clr [5, 6, 7] δ)
    rw [e]
    rw [List.append_nil] at h
    exact h ms so
  | (a, b, s) :: r, L0, ms, so, hL, h, δ, e => by
    show tupT 3 _ (lnkD (a, b, s)) (clr [5, 6, 7] δ) _
    rw [e]
    refine ⟨rfl, rfl, ?_⟩
    have next : ∀ ms' δ', StepsOk G (L0 ++ [(a, b, s)]) ms' → clr [5, 6, 7] δ' = [.ow (.obj (C 0) [("groups", gd), ("number", .dic num)]), x1, x2, x3, x4, .no, .no, .no, .no, .no, .no, .no, .ow (.lst (ms'.map nD))] → forL (tupT 3 (consT (nameT 5) (consT (nameT 6) (consT (nameT 7) (nilT))))) (stepB C) [5, 6, 7] P0 (r.map lnkD) δ' := fun ms' δ' St' e' =>
      step_loop iG nm r (L0 ++ [(a, b, s)]) ms' St' (fun l hl => hL l (List.mem_cons_of_mem _ hl)) (fun m2 s2 => h m2 (by rw [List.append_assoc] at s2; exact s2)) δ' e'
    cases s with
    | false => exact next ms _ (steps_skip so rfl) rfl
    | true =>
      obtain ⟨⟨i, hi⟩, j, hj⟩ := hL _ List.mem_cons_self
      have il : i < ms.length := by
        obtain ⟨g, e, _⟩ := hi
        rw [so.len]
        exact (List.getElem?_eq_some_iff.mp e).1
      have jl : j < G.length := by
        obtain ⟨g, e, _⟩ := hj
        exact (List.getElem?_eq_some_iff.mp e).1
      refine ⟨rfl, ?_⟩
      show optD (vD num (Sum.inr a)) _
      rw [nm.all i a hi]
      show optD (ms.map nD)[i]? _
      rw [List.getElem?_map, List.getElem?_eq_getElem il]
      refine ⟨rfl, ?_⟩
      show optD (vD num (Sum.inr b)) _
      rw [nm.all j b hj]
      have gf := iG.few
      refine ⟨rfl, (by omega : j ≤ 1000000), ?_⟩
      refine ⟨by rw [List.length_map]; exact il, ?_⟩
      refine next (ms.set i (ms.getD i 0 ||| 1 <<< j)) _ (steps_add iG so hi hj) ?_
      have e2 : (ms.set i (ms.getD i 0 ||| 1 <<< j)).map nD = (ms.map nD).set i (.int ((ms[i] ||| 1 <<< j : Nat) : Int)) := by
        rw [List.map_set, List.getD_eq_getElem?_getD, List.getElem?_eq_getElem il]
        rfl
      rw [e2]
      rfl
end Lw
set_option Elab.async false
set_option linter.all false
set_option maxRecDepth 100000
set_option maxHeartbeats 4000000
namespace Lw
open PySem PySem.Spec PyProof.Rows L2 TKS DN
variable {C : Nat → Addr}
def momD : D → D
  | .tup [_, m] => m
  | _ => .non
theorem mom_map (S : List Sen) : (S.map sD).map momD = (S.map (·.2)).map D.str := by
  rw [List.map_map, List.map_map]
  rfl
theorem rep_zero (n : Nat) : repL [D.int 0] n = (List.replicate n 0).map nD := by
  unfold repL
  induction n with
  | zero => rfl
  | succ n ih =>
    rw [List.replicate_succ, List.flatten_cons, ih, List.replicate_succ, List.map_cons]
    rfl
theorem steps_zero (G : List (List Str)) : StepsOk G [] (List.replicate G.length 0) := by
  refine ⟨List.length_replicate .., fun i j => ⟨fun h => ?_, fun ⟨_, _, h, _⟩ => by cases h⟩⟩
  have e : (List.replicate G.length 0).getD i 0 = 0 := by
    rw [List.getD_eq_getElem?_getD, List.getElem?_replicate]
    split <;> rfl
  rw [e, Nat.zero_testBit] at h
  cases h
theorem inG_all {ts : List Str} {E : List (Str × Str)} {G : List (List Str)} (iG : IsGroups ts E G) {x : Str} (h : x ∈ ts) : ∃ i, InG G i x := by
  obtain ⟨g, hg, hx⟩ := iG.all x h
  obtain ⟨i, hi, e⟩ := List.getElem_of_mem hg
  exact ⟨i, g, by rw [List.getElem?_eq_getElem hi, e], hx⟩
def orderF (G : List (List Str)) (num : List (Key × D)) (ms : List Nat) : List (Str × D) := [("groups", .lst (G.map tupD)), ("number", .dic num), ("after", masksD (closeN ms.length ms))]
theorem spec_Order_init {S : List Sen} {N : List Str} {P : List (Str × D) → Prop} {R : Er → Prop} (few : N.length ≤ 60) (hN : ∀ s ∈ S, s.2 ∈ N) (okw : ∀ s ∈ S, PySem.PyData.strOk s.1 = true) (okm : ∀ s ∈ S, PySem.PyData.strOk s.2 = true) (at_ : FirstAt S) (len : S.length ≤ 999)
    (h : ∀ G num ms, IsGroups (S.map (·.2)) (sameL (linksL "" S)) G → NumD num G → StepsOk G (linksL "" S) ms → P (orderF G num ms)) : f_Order_init C [taleD S] P R := by
  refine ⟨rfl, ?_⟩
  refine spec_tale_links okw at_ len ?_
  show cL _ _ (DN.sL _) _ _ ((lkL "" S).map lkD) [] [.ow (.obj (C 0) []), .sh (taleD S), .no, .no, .no, .no, .no, .no, .no, .no, .no, .no, .no]
  have ll := linksL_le S ""
  refine lc_pick (fun d => !isNo d) (fun d => d) rfl (szl (by rw [List.length_map, lkL_len]; omega)) ?_ ?_
  · intro d hd acc N' hl hN'
    show if (!isNo d) = true then _ else _
    by_cases c : (!isNo d) = true
    · rw [if_pos c] at hN' ⊢
      exact ⟨hl, hN'⟩
    · rw [if_neg c] at hN' ⊢
      rw [List.append_nil] at hN'
      exact hN'
  rw [List.map_id', lk_pick]
  show cL _ _ (DN.sL _) _ _ ((linksL "" S).map lnkD) [] [.ow (.obj (C 0) []), .sh (taleD S), .sh (.lst ((linksL "" S).map lnkD)), .no, .no, .no, .no, .no, .no, .no, .no, .no, .no]
  refine lc_pick (fun d => !strictD d) ends2 rfl (szl (by rw [List.length_map]; omega)) ?_ ?_
  · intro d hd acc N' hl hN'
    obtain ⟨l, _, rfl⟩ := List.mem_map.mp hd
    refine ⟨rfl, rfl, ?_⟩
    show if (!l.2.2) = true then _ else _
    have hN' : N' (acc ++ if (!l.2.2) = true then [ends2 (lnkD l)] else []) _ := hN'
    by_cases c : (!l.2.2) = true
    · rw [if_pos c] at hN' ⊢
      exact ⟨szl (by show 2 ≤ 1000; decide), hl, hN'⟩
    · rw [if_neg c] at hN' ⊢
      rw [List.append_nil] at hN'
      exact hN'
  rw [same_pick]
  show cL _ _ (DN.sL _) _ _ (S.map sD) [] [.ow (.obj (C 0) []), .sh (taleD S), .sh (.lst ((linksL "" S).map lnkD)), .no, .sh (pairsD (sameL (linksL "" S))), .no, .no, .no, .no, .no, .no, .no, .no]
  refine lc_map momD rfl (szl (by rw [List.length_map]; omega)) ?_ ?_
  · intro d hd acc N' hl hN'
    obtain ⟨s, _, rfl⟩ := List.mem_map.mp hd
    exact ⟨rfl, rfl, hl, hN'⟩
  rw [mom_map]
  have hE : ∀ e ∈ sameL (linksL "" S), e.1 ∈ S.map (·.2) ∧ e.2 ∈ S.map (·.2) := fun e he => by
    obtain ⟨l, hl, rfl⟩ := List.mem_map.mp he
    exact links_in at_ (List.mem_filter.mp hl).1
  refine spec_joined few (fun t ht => ?_) (fun t ht => ?_) (by rw [List.length_map]; exact len) hE (fun G iG => ?_)
  · obtain ⟨s, hs, rfl⟩ := List.mem_map.mp ht
    exact hN s hs
  · obtain ⟨s, hs, rfl⟩ := List.mem_map.mp ht
    exact okm s hs
  refine ⟨rfl, (by decide : (0 : Nat) < 1000), ?_⟩
  refine ⟨rfl, ?_⟩
  show cL2 _ _ (itT (vr 11)) _ _ (DN.sD (vr 9) (vr 10)) [10, 11, 9] [9] _ (enumD 0 (G.map tupD)) [] [.ow (.obj (C 0) [("groups", .lst (G.map tupD))]), .sh (taleD S), .sh (.lst ((linksL "" S).map lnkD)), .no, .sh (pairsD (sameL (linksL "" S))), .no, .no, .no, .no, .no, .no, .no, .no]
  refine num_out G [] 0 (by have := iG.few; omega) iG.small (Nat.le_refl _) ?_
  refine ⟨rfl, (by decide : (1 : Nat) < 1000), ?_⟩
  have gf := iG.few
  have lG : (G.map tupD).length = G.length := List.length_map ..
  refine ⟨szl (by show 1 ≤ 1000; decide), rfl, ?_⟩
  show _ ∧ _ ∧ _ ∧ _
  rw [lG, Int.toNat_natCast]
  refine ⟨by omega, by omega, szl (by show 1 * G.length ≤ 1000; omega), (show 12 < 13 by decide), ?_⟩
  rw [rep_zero]
  show forL _ (stepB C) [5, 6, 7] _ ((linksL "" S).map lnkD) [.ow (.obj (C 0) [("groups", .lst (G.map tupD)), ("number", .dic (numG [] 0 G))]), .sh (taleD S), .sh (.lst ((linksL "" S).map lnkD)), .no, .sh (pairsD (sameL (linksL "" S))), .no, .no, .no, .no, .no, .no, .no, .ow (.lst ((List.replicate G.length 0).map nD))]
  refine step_loop iG (num_ok iG) (linksL "" S) [] (List.replicate G.length 0) (steps_zero G) (fun l hl => ?_) (fun ms so => ?_) _ rfl
  · obtain ⟨h1, h2⟩ := links_in at_ hl
    exact ⟨inG_all iG h1, inG_all iG h2⟩
  rw [List.nil_append] at so
  refine spec_closed (by have := so.len; omega) ?_
  exact ⟨rfl, (by decide : (2 : Nat) < 1000), rfl, h G _ ms iG (num_ok iG) so⟩
end Lw
set_option Elab.async false
set_option linter.all false
set_option maxRecDepth 100000
set_option maxHeartbeats 4000000
namespace Lw
open PySem PySem.Spec PyProof.Rows L2 TKS DN
variable {C : Nat → Addr}
def letters : Str := "abcdefghijklmnopqrstuvwxyz"
def isLetter (c : Nat) : Bool := hasS ⟨#[c]⟩ letters
def letD (z : Str) : Bool := decide (1 ≤ z.length) && decide (z.length ≤ 8) && z.cps.toList.all isLetter
def nmD : D → Bool
  | .str z => letD z
  | _ => false
/-- data with no instance and no dict by tuples on top -/
def Flt (d : D) : Prop := (∀ C fs, d ≠ .obj C fs) ∧ ∀ es, d ≠ .dit es
theorem chs_all (z : Str) : (chs z).map (fun d => D.bl (hasS (strOf d) letters)) = (z.cps.toList.map isLetter).map D.bl := by
  unfold chs
  rw [List.map_map, List.map_map]
  rfl
theorem spec_is_name {d : D} {P : D → Prop} {R : Er → Prop} (fl : Flt d) (sz : ∀ z, d = .str z → z.length ≤ sizeLine) (h : P (.bl (nmD d))) : f_is_name C [d] P R := by
  refine ⟨rfl, ?_⟩
  cases d with
  | obj _ _ => exact absurd rfl (fl.1 _ _)
  | dit _ => exact absurd rfl (fl.2 _)
  | non => exact h
  | bl _ => exact h
  | int _ => exact h
  | lst _ => exact h
  | tup _ => exact h
  | dic _ => exact h
  | scr _ => exact h
  | str z =>
    have zl := sz z rfl
    refine ⟨zl, ?_⟩
    show if decide ((1 : Int) ≤ (z.length : Nat)) = true then _ else _
    by_cases c1 : (1 : Int) ≤ (z.length : Nat)
    · rw [if_pos (decide_eq_true c1)]
      show if (!decide (((z.length : Nat) : Int) ≤ 8)) = true then _ else _
      by_cases c2 : ((z.length : Nat) : Int) ≤ 8
      · rw [decide_eq_true c2, Bool.not_true, if_neg nofun]
        show cL _ _ (DN.sL _) _ _ (chs z) [] [.sh (.str z), .no]
        have lz : (chs z).length = z.length := by
          unfold chs
          rw [List.length_map, Array.length_toList]
          rfl
        refine lc_map (fun d => .bl (hasS (strOf d) letters)) rfl (szl (by rw [lz]; omega)) ?_ ?_
        · intro d hd acc N hl hN
          obtain ⟨c, _, rfl⟩ := List.mem_map.mp hd
          exact ⟨hl, hN⟩
        · rw [chs_all]
          refine to_Bs _ _ ?_
          have e : nmD (.str z) = (z.cps.toList.map isLetter).all id := by
            show (decide (1 ≤ z.length) && decide (z.length ≤ 8) && z.cps.toList.all isLetter) = _
            rw [decide_eq_true (by omega), decide_eq_true (by omega), List.all_map]
            rfl
          rw [e] at h
          exact h
      · rw [decide_eq_false c2, Bool.not_false, if_pos rfl]
        have e : nmD (.str z) = false := by
          show (decide (1 ≤ z.length) && decide (z.length ≤ 8) && z.cps.toList.all isLetter) = _
          rw [decide_eq_false (show ¬ z.length ≤ 8 by omega), Bool.and_false, Bool.false_and]
        rw [e] at h
        exact h
    · rw [if_neg (by rw [decide_eq_true_eq]; exact c1)]
      have e : nmD (.str z) = false := by
        show (decide (1 ≤ z.length) && decide (z.length ≤ 8) && z.cps.toList.all isLetter) = _
        rw [decide_eq_false (show ¬ 1 ≤ z.length by omega), Bool.false_and, Bool.false_and]
      rw [e] at h
      exact h
end Lw
set_option Elab.async false
set_option linter.all false
set_option maxRecDepth 100000
set_option maxHeartbeats 4000000
namespace Lw
open PySem PySem.Spec PyProof.Rows L2 TKS DN
variable {C : Nat → Addr}
def prD : D → Bool
  | .tup [_, _] => true
  | _ => false
theorem spec_is_pair {d : D} {P : D → Prop} {R : Er → Prop} (fl : Flt d) (h : P (.bl (prD d))) : f_is_pair C [d] P R := by
  refine ⟨rfl, ?_⟩
  cases d with
  | obj _ _ => exact absurd rfl (fl.1 _ _)
  | dit _ => exact absurd rfl (fl.2 _)
  | non => exact h
  | bl _ => exact h
  | int _ => exact h
  | lst _ => exact h
  | str _ => exact h
  | dic _ => exact h
  | scr _ => exact h
  | tup xs =>
    show P (.bl (decide (((xs.length : Nat) : Int) = 2)))
    match xs, h with
    | [], h => exact h
    | [_], h => exact h
    | [_, _], h => exact h
    | a :: b :: c :: r, h =>
      have e : decide ((((a :: b :: c :: r).length : Nat) : Int) = 2) = false := decide_eq_false (by simp only [List.length_cons]; omega)
      rw [e]
      exact h
def wordsL : List Str := ["at", "then", "back", "later", "earlier", "with"]
theorem pl_words : Pl k_WORDS := by unfold Pl; decide +kernel
/-- an item of what is checked: plain enough to be looked at -/
structure Itm (d : D) : Prop where
  fl : Flt d
  two : ∀ a b, d = .tup [a, b] → Pl a ∧ Flt b ∧ ∀ z, b = .str z → z.length ≤ sizeLine
def senB : D → Bool
  | .tup [a, b] => memD a (wordsL.map D.str) && nmD b
  | _ => false
theorem spec_is_sentence {d : D} {P : D → Prop} {R : Er → Prop} (it : Itm d) (h : P (.bl (senB d))) : f_is_sentence C [d] P R := by
  refine ⟨rfl, ?_⟩
  refine spec_is_pair it.fl ?_
  show if prD d = true then _ else _
  by_cases c : prD d = true
  · rw [if_pos c]
    match d, c, it, h with
    | .tup [a, b], _, it, h =>
      obtain ⟨pa, fb, sb⟩ := it.two a b rfl
      refine ⟨pa, pl_words, ?_⟩
      show if memD a (wordsL.map D.str) = true then _ else _
      have e : senB (.tup [a, b]) = (memD a (wordsL.map D.str) && nmD b) := rfl
      rw [e] at h
      by_cases c2 : memD a (wordsL.map D.str) = true
      · rw [if_pos c2]
        rw [c2, Bool.true_and] at h
        exact spec_is_name fb sb h
      · rw [if_neg c2]
        have c3 : memD a (wordsL.map D.str) = false := by cases z : memD a (wordsL.map D.str) with | true => exact absurd z c2 | false => rfl
        rw [c3, Bool.false_and] at h
        exact h
  · rw [if_neg c]
    have e : senB d = false := by
      match d, c with
      | .tup [a, b], c => exact absurd rfl c
      | .tup [], _ => rfl
      | .tup [_], _ => rfl
      | .tup (_ :: _ :: _ :: _), _ => rfl
      | .non, _ => rfl
      | .bl _, _ => rfl
      | .int _, _ => rfl
      | .str _, _ => rfl
      | .lst _, _ => rfl
      | .dic _, _ => rfl
      | .dit _, _ => rfl
      | .obj _ _, _ => rfl
      | .scr _, _ => rfl
    rw [e] at h
    exact h
end Lw
set_option Elab.async false
set_option linter.all false
set_option maxRecDepth 100000
set_option maxHeartbeats 4000000
namespace Lw
open PySem PySem.Spec PyProof.Rows L2 TKS DN
variable {C : Nat → Addr}
/-- some moment is before itself -/
def Loop (S : List Sen) : Prop := ∃ x ∈ S.map (·.2), Bef (linksL "" S) x x
open Classical in
noncomputable def loopB (S : List Sen) : Bool := decide (Loop S)
theorem loopB_iff {S : List Sen} : loopB S = true ↔ Loop S := by
  classical
  unfold loopB
  rw [decide_eq_true_eq]
theorem looped_is {S : List Sen} (at_ : FirstAt S) {G : List (List Str)} {ms : List Nat} (iG : IsGroups (S.map (·.2)) (sameL (linksL "" S)) G) (so : StepsOk G (linksL "" S) ms) : looped (closeN ms.length ms) = loopB S := by
  cases e : loopB S with
  | true =>
    obtain ⟨x, hx, h⟩ := loopB_iff.mp e
    exact not_sound at_ iG so hx h
  | false => exact sound_of at_ (fun x hx h => by rw [loopB_iff.mpr ⟨x, hx, h⟩] at e; cases e) G ms iG so
/-- what an order is made of -/
structure Ok (N : List Str) (S : List Sen) : Prop where
  few : N.length ≤ 60
  all : ∀ s ∈ S, s.2 ∈ N
  w : ∀ s ∈ S, PySem.PyData.strOk s.1 = true
  m : ∀ s ∈ S, PySem.PyData.strOk s.2 = true
  at_ : FirstAt S
  len : S.length ≤ 999
theorem Ok.take {N : List Str} {S : List Sen} (h : Ok N S) (n : Nat) : Ok N (S.take n) := by
  refine ⟨h.few, fun s hs => h.all s (List.mem_of_mem_take hs), fun s hs => h.w s (List.mem_of_mem_take hs), fun s hs => h.m s (List.mem_of_mem_take hs), fun s e => ?_, by rw [List.length_take]; have := h.len; omega⟩
  rw [List.getElem?_take] at e
  split at e
  · exact h.at_ s e
  · cases e
/-- Order(tale).is_consistent() -/
theorem spec_cons {N : List Str} {S : List Sen} {F : W (List D)} {δ δ' : DN.Env} {P : D → DN.Env → Prop} {R : Er → Prop} (ok : Ok N S) (h : P (.bl (!loopB S)) δ') (hF : ∀ Q : List D → DN.Env → Prop, Q [taleD S] δ' → F δ Q R) : methW (C 0) "is_consistent" (f_Order_is_consistent C) (makeW (C 0) (f_Order_init C) F) nilW δ P R := by
  refine hF _ ?_
  refine spec_Order_init ok.few ok.all ok.w ok.m ok.at_ ok.len fun G num ms iG nm so => ?_
  refine ⟨rfl, rfl, ?_⟩
  have gf := iG.few
  refine spec_is_consistent (A := closeN ms.length ms) (G := G.map tupD) rfl rfl rfl (by rw [closeN_len, so.len, List.length_map]) (by rw [List.length_map]; omega) ?_
  rw [looped_is ok.at_ iG so]
  exact h
theorem linksL_take (S : List Sen) : ∀ (p : Str) (n : Nat), ∃ r, linksL p S = linksL p (S.take n) ++ r := by
  induction S with
  | nil => exact fun p n => ⟨[], by rw [List.take_nil]; rfl⟩
  | cons s r ih =>
    intro p n
    cases n with
    | zero => exact ⟨_, rfl⟩
    | succ n =>
      obtain ⟨t, e⟩ := ih (if moving s.1 = true then s.2 else p) n
      refine ⟨t, ?_⟩
      show linkOf p s ++ linksL _ r = (linkOf p s ++ linksL _ (r.take n)) ++ t
      rw [e, List.append_assoc]
theorem sameL_sub {L L' : List Lnk} (s : ∀ l ∈ L, l ∈ L') : ∀ e ∈ sameL L, e ∈ sameL L' := fun e he => by
  obtain ⟨l, hl, rfl⟩ := List.mem_map.mp he
  obtain ⟨h1, h2⟩ := List.mem_filter.mp hl
  exact List.mem_map_of_mem (f := fun l : Lnk => (l.1, l.2.1)) (List.mem_filter.mpr ⟨s l h1, h2⟩)
theorem Bef.mono {L L' : List Lnk} (s : ∀ l ∈ L, l ∈ L') {x y : Str} (h : Bef L x y) : Bef L' x y := by
  induction h with
  | link h h1 h2 => exact .link (s _ h) (h1.mono (sameL_sub s)) (h2.mono (sameL_sub s))
  | both _ _ a b => exact .both a b
theorem Loop.more {S : List Sen} {n m : Nat} (le : n ≤ m) (h : Loop (S.take n)) : Loop (S.take m) := by
  obtain ⟨x, hx, hb⟩ := h
  have e : S.take n = (S.take m).take n := by rw [List.take_take, Nat.min_eq_left le]
  rw [e] at hx hb
  obtain ⟨s, hs, rfl⟩ := List.mem_map.mp hx
  obtain ⟨r, er⟩ := linksL_take (S.take m) "" n
  exact ⟨_, List.mem_map_of_mem (List.mem_of_mem_take hs), hb.mono fun l hl => by rw [er]; exact List.mem_append_left _ hl⟩
theorem cut_take (S : List Sen) (n : Nat) (h : n ≤ S.length)   : DN.cutD (S.map sD) none (some ((n : Nat) : Int)) = (S.take n).map sD := by
  unfold DN.cutD
  rw [HT.sIx_none, HT.sIx_nat, List.drop_zero, Nat.sub_zero, List.length_map, Nat.min_eq_left h, List.map_take]
end Lw
set_option Elab.async false
set_option linter.all false
set_option maxRecDepth 100000
set_option maxHeartbeats 4000000
namespace Lw
open PySem PySem.Spec PyProof.Rows L2 TKS DN
variable {C : Nat → Addr}
abbrev loC : W Bool := tst (ap2 gLt (vr 1) (vr 2))
abbrev loB (C : Nat → Addr) : DN.S := seqS (setS 3 (ap2 gDivW (ap2 gPlus (vr 1) (vr 2)) (ret (.int 2)))) <|
  ifS (truT (methW (C 0) "is_consistent" (f_Order_is_consistent C) (makeW (C 0) (f_Order_init C) (consW (slW gCutA (vr 0) (ret none) (partW (ap2 gPlus (vr 3) (ret (.int 1))))) (nilW))) nilW)) (setS 1 (ap2 gPlus (vr 3) (ret (.int 1)))) (setS 2 (vr 3))
/-- the first place that closes a loop -/
def FirstLoop (S : List Sen) (k : Nat) : Prop := k < S.length ∧ Loop (S.take (k + 1)) ∧ ∀ j < k, ¬ Loop (S.take (j + 1))
theorem closing_loop {S : List Sen} {N : List Str} (ok : Ok N S) {P0 : Outs} : ∀ (n low high : Nat), high - low < n → low ≤ high → high < S.length → (∀ k < low, ¬ Loop (S.take (k + 1))) → Loop (S.take (high + 1)) →
    (∀ k, FirstLoop S k → P0.nx [.sh (taleD S), .sh (nD k), .sh (nD k), .no]) → ∀ δ, clr [3] δ = [.sh (taleD S), .sh (nD low), .sh (nD high), .no] → whileN loC (loB C) [3] P0 n δ
  | 0, _, _, h, _, _, _, _, _, _, _ => absurd h (Nat.not_lt_zero _)
  | n + 1, low, high, hn, le, hl, lo, hi, h, δ, e => by
    show loC (clr [3] δ) _ _
    rw [e]
    show if decide (((low : Nat) : Int) < ((high : Nat) : Int)) = true then _ else _
    by_cases c : low < high
    · rw [if_pos (decide_eq_true (by omega))]
      refine ⟨⟨by decide, by decide⟩, ?_⟩
      have em : (((low : Nat) : Int) + ((high : Nat) : Int)) / 2 = (((low + high) / 2 : Nat) : Int) := by omega
      have ml : (low + high) / 2 < S.length := by omega
      generalize hm : (low + high) / 2 = m at em ml
      dsimp only [put]
      rw [em]
      refine spec_cons (δ' := [.sh (taleD S), .sh (nD low), .sh (nD high), .sh (nD m)]) (ok.take (m + 1)) ?_ (fun Q hQ => ?_)
      · show if (!loopB (S.take (m + 1))) = true then _ else _
        cases b : loopB (S.take (m + 1)) with
        | false =>
          rw [Bool.not_false, if_pos rfl]
          have e1 : ((m : Nat) : Int) + 1 = ((m + 1 : Nat) : Int) := by omega
          show whileN loC (loB C) [3] P0 n [.sh (taleD S), .sh (.int (((m : Nat) : Int) + 1)), .sh (nD high), .sh (nD m)]
          rw [e1]
          refine closing_loop ok n (m + 1) high (by omega) (by omega) hl (fun k hk z => ?_) hi h _ rfl
          have := loopB_iff.mpr (z.more (m := m + 1) (by omega))
          rw [b] at this
          cases this
        | true =>
          rw [Bool.not_true, if_neg nofun]
          exact closing_loop ok n low m (by omega) (by omega) ml lo (loopB_iff.mp b) h _ rfl
      · have e1 : ((m : Nat) : Int) + 1 = ((m + 1 : Nat) : Int) := by omega
        show Q [.tup (DN.cutD (S.map sD) none (some (((m : Nat) : Int) + 1)))] _
        rw [e1, cut_take S (m + 1) (by omega)]
        exact hQ
    · rw [if_neg (by rw [decide_eq_true_eq]; omega)]
      obtain rfl : low = high := by omega
      exact h low ⟨hl, hi, lo⟩
theorem spec_closing_index {S : List Sen} {N : List Str} {P : D → Prop} {R : Er → Prop} (ok : Ok N S) (lp : Loop S) (h : ∀ k, FirstLoop S k → P (nD k)) : f_closing_index C [taleD S] P R := by
  have ne : 0 < S.length := by
    cases S with
    | nil => obtain ⟨x, hx, _⟩ := lp; cases hx
    | cons _ _ => exact Nat.succ_pos _
  refine ⟨rfl, ?_⟩
  have e1 : (((S.map sD).length : Nat) : Int) - 1 = ((S.length - 1 : Nat) : Int) := by rw [List.length_map]; omega
  show (seqS (whileS loC (loB C) [3]) (retS (vr 1)) : DN.S) [.sh (taleD S), .sh (nD 0), .sh (.int ((((S.map sD).length : Nat) : Int) - 1)), .no] _
  rw [e1]
  refine ⟨S.length + 1, closing_loop ok _ 0 (S.length - 1) (by omega) (Nat.zero_le _) (by omega) nofun ?_ (fun k hk => h k hk) _ rfl⟩
  rw [show S.length - 1 + 1 = S.length by omega, List.take_length]
  exact lp
end Lw
set_option Elab.async false
set_option linter.all false
set_option maxRecDepth 100000
set_option maxHeartbeats 4000000
namespace Lw
open PySem PySem.Spec PyProof.Rows L2 TKS DN
variable {C : Nat → Addr}
theorem eqD_word {w : Str} {a : D} (h : eqD (.str w) a = true) : a = .str w := by
  cases a with
  | str z =>
    rw [eqD_str] at h
    rw [of_decide_eq_true h]
  | _ => exact absurd h (by unfold eqD pyD; simp [PyData.eqv])
theorem mem_word {a : D} : ∀ {ws : List Str}, memD a (ws.map D.str) = true → ∃ w ∈ ws, a = .str w
  | w :: r, h => by
    unfold memD at h
    rw [List.map_cons, List.any_cons, Bool.or_eq_true] at h
    rcases h with h | h
    · exact ⟨w, List.mem_cons_self, eqD_word h⟩
    · obtain ⟨v, hv, e⟩ := mem_word (ws := r) h
      exact ⟨v, List.mem_cons_of_mem _ hv, e⟩
/-- a sentence as the rules ask -/
structure SenOk (s : Sen) : Prop where
  w : s.1 ∈ wordsL
  m : letD s.2 = true
theorem senB_iff {d : D} : senB d = true ↔ ∃ s, d = sD s ∧ SenOk s := by
  constructor
  · intro h
    match d, h with
    | .tup [a, b], h =>
      have h : (memD a (wordsL.map D.str) && nmD b) = true := h
      rw [Bool.and_eq_true] at h
      obtain ⟨w, hw, rfl⟩ := mem_word h.1
      cases b with
      | str z => exact ⟨(w, z), rfl, hw, h.2⟩
      | _ => exact absurd h.2 (by simp [nmD])
  · rintro ⟨s, rfl, h1, h2⟩
    show (memD (.str s.1) (wordsL.map D.str) && nmD (.str s.2)) = true
    rw [memD_str, decide_eq_true h1, Bool.true_and]
    exact h2
/-- the item at place k is no sentence, or the first one is not told at its place -/
def badB (k : Nat) (d : D) : Bool := !senB d || (k == 0 && match d with
  | .tup (.str w :: _) => !decide (w = "at")
  | _ => true)
abbrev ckB (C : Nat → Addr) : DN.S := ifS (orT (notT (truT (callW (f_is_sentence C) (consW (vr 2) (nilW))))) (andT (tst (ap2 (gEqA false) (vr 1) (ret (.int 0)))) (tst (ap2 (gEqA true) (ap2 gIxA (vr 2) (ret (.int 0))) (ret (.str "at")))))) (retS (apN mkT (consW (ret (.str "sentence")) (consW (vr 1) (nilW))))) (skipS)
theorem check_loop {x : Sl} {P0 : Outs} : ∀ (items : List D) (k : Nat), (∀ d ∈ items, Itm d) →
    (∀ (i : Nat) (d : D), items[i]? = some d → badB (k + i) d = true → (∀ j d', j < i → items[j]? = some d' → badB (k + j) d' = false) → ∀ δ, P0.rt (.tup [.str "sentence", nD (k + i)]) δ) →
    ((∀ (i : Nat) (d : D), items[i]? = some d → badB (k + i) d = false) → P0.nx [x, .no, .no]) →
    ∀ δ, clr [1, 2] δ = [x, .no, .no] → forL (tupT 2 (consT (nameT 1) (consT (nameT 2) (nilT)))) (ckB C) [1, 2] P0 (enumD k items) δ
  | [], k, _, _, h, δ, e => by
    show P0.nx (clr [1, 2] δ)
    rw [e]
    exact h fun i d z => by cases z
  | d :: r, k, it, hb, hg, δ, e => by
    show tupT 2 _ (.tup [nD k, d]) (clr [1, 2] δ) _
    rw [e]
    refine ⟨rfl, rfl, ?_⟩
    refine spec_is_sentence (it d List.mem_cons_self) ?_
    have good : badB k d = false → forL (tupT 2 (consT (nameT 1) (consT (nameT 2) (nilT)))) (ckB C) [1, 2] P0 (enumD (k + 1) r) [x, .sh (nD k), .sh d] := fun g =>
      check_loop r (k + 1) (fun z hz => it z (List.mem_cons_of_mem _ hz)) (fun i z ez bz fz δ => by
        have := hb (i + 1) z ez (by rw [show k + (i + 1) = k + 1 + i by omega]; exact bz) (fun j d' hj ej => by
          cases j with
          | zero => cases ej; exact g
          | succ j => rw [show k + (j + 1) = k + 1 + j by omega]; exact fz j d' (by omega) ej) δ
        rw [show k + (i + 1) = k + 1 + i by omega] at this
        exact this)
        (fun all => hg fun i z ez => by
          cases i with
          | zero => cases ez; exact g
          | succ i => rw [show k + (i + 1) = k + 1 + i by omega]; exact all i z ez) _ rfl
    have bad : badB k d = true → ∀ δ, P0.rt (.tup [.str "sentence", nD k]) δ := fun b => hb 0 d rfl b fun j _ hj => by omega
    show if (!senB d) = true then _ else _
    cases sb : senB d with
    | false =>
      rw [Bool.not_false, if_pos rfl]
      exact ⟨szl (by show 2 ≤ 1000; decide), bad (by unfold badB; rw [sb]; rfl) _⟩
    | true =>
      rw [Bool.not_true, if_neg nofun]
      obtain ⟨s, rfl, so⟩ := senB_iff.mp sb
      show if decide (((k : Nat) : Int) = 0) = true then _ else _
      have bs : badB k (sD s) = (k == 0 && !decide (s.1 = "at")) := by
        unfold badB
        rw [sb]
        rfl
      by_cases k0 : k = 0
      · subst k0
        rw [if_pos (show decide (((0 : Nat) : Int) = 0) = true from rfl)]
        show if (!decide (s.1 = "at")) = true then _ else _
        by_cases c : s.1 = ("at" : Str)
        · rw [decide_eq_true c, Bool.not_true, if_neg nofun]
          exact good (by rw [bs, decide_eq_true c]; rfl)
        · rw [decide_eq_false c, Bool.not_false, if_pos rfl]
          exact ⟨szl (by show 2 ≤ 1000; decide), bad (by rw [bs, decide_eq_false c]; rfl) _⟩
      · rw [if_neg (by rw [decide_eq_true_eq]; omega)]
        have kz : (k == 0) = false := beq_false_of_ne k0
        exact good (by rw [bs, kz, Bool.false_and])
end Lw
set_option Elab.async false
set_option linter.all false
set_option maxRecDepth 100000
set_option maxHeartbeats 4000000
namespace Lw
open PySem PySem.Spec PyProof.Rows L2 TKS DN
variable {C : Nat → Addr}
theorem isLetter_mem (c : Nat) : isLetter c = decide (c ∈ letters.cps.toList) := PySem.StrLaws.found_one letters c
theorem name_ok {z : Str} (h : letD z = true) : PySem.PyData.strOk z = true := by
  have q : ∀ c ∈ letters.cps.toList, c < 0x110000 := by decide +kernel
  have h : (decide (1 ≤ z.length) && decide (z.length ≤ 8) && z.cps.toList.all isLetter) = true := h
  rw [Bool.and_eq_true, List.all_eq_true] at h
  show z.cps.all _ = true
  rw [← Array.all_toList, List.all_eq_true]
  intro c m
  have e := h.2 c m
  rw [isLetter_mem] at e
  exact decide_eq_true (q c (of_decide_eq_true e))
theorem word_ok {w : Str} (h : w ∈ wordsL) : PySem.PyData.strOk w = true := by
  have all : ∀ w ∈ wordsL, PySem.PyData.strOk w = true := by decide +kernel
  exact all w h
/-- all items are sentences, the first one told at its place -/
theorem sens_of : ∀ {items : List D}, (∀ d ∈ items, senB d = true) → ∃ S : List Sen, items = S.map sD ∧ ∀ s ∈ S, SenOk s
  | [], _ => ⟨[], rfl, nofun⟩
  | d :: r, h => by
    obtain ⟨s, rfl, so⟩ := senB_iff.mp (h d List.mem_cons_self)
    obtain ⟨S, rfl, hS⟩ := sens_of fun z hz => h z (List.mem_cons_of_mem _ hz)
    exact ⟨s :: S, rfl, fun z hz => (List.mem_cons.mp hz).elim (fun e => e ▸ so) (hS z)⟩
theorem spec_check_form {d : D} {P : D → Prop} {R : Er → Prop} (fl : Flt d) (nt : ∀ xs, d ≠ .tup xs) (h : P (.tup [.str "form"])) : f_check_tale C [d] P R := by
  refine ⟨rfl, ?_⟩
  have go : f_check_tale C [d] P R → f_check_tale C [d] P R := id
  cases d with
  | obj _ _ => exact absurd rfl (fl.1 _ _)
  | dit _ => exact absurd rfl (fl.2 _)
  | tup xs => exact absurd rfl (nt xs)
  | non => exact ⟨szl (by show 1 ≤ 1000; decide), h⟩
  | bl _ => exact ⟨szl (by show 1 ≤ 1000; decide), h⟩
  | int _ => exact ⟨szl (by show 1 ≤ 1000; decide), h⟩
  | lst _ => exact ⟨szl (by show 1 ≤ 1000; decide), h⟩
  | str _ => exact ⟨szl (by show 1 ≤ 1000; decide), h⟩
  | dic _ => exact ⟨szl (by show 1 ≤ 1000; decide), h⟩
  | scr _ => exact ⟨szl (by show 1 ≤ 1000; decide), h⟩
theorem spec_check_tale {items : List D} {N : List Str} {P : D → Prop} {R : Er → Prop} (it : ∀ d ∈ items, Itm d) (few : N.length ≤ 60) (hN : ∀ s : Sen, sD s ∈ items → s.2 ∈ N) (len : items.length ≤ 999)
    (hbad : ∀ k d, items[k]? = some d → badB k d = true → (∀ j d', j < k → items[j]? = some d' → badB j d' = false) → P (.tup [.str "sentence", nD k]))
    (hgood : ∀ S : List Sen, items = S.map sD → (∀ s ∈ S, SenOk s) → FirstAt S → (Loop S → ∀ k, FirstLoop S k → P (.tup [.str "cycle", nD k])) ∧ (¬ Loop S → P .non)) : f_check_tale C [.tup items] P R := by
  refine ⟨rfl, ?_⟩
  show forL _ (ckB C) [1, 2] _ (enumD 0 items) [.sh (.tup items), .no, .no]
  refine check_loop items 0 it (fun i d e b f δ => ?_) (fun all => ?_) _ rfl
  · rw [Nat.zero_add] at b ⊢
    exact hbad i d e b fun j d' hj ej => by
      have := f j d' hj ej
      rwa [Nat.zero_add] at this
  · have all : ∀ (i : Nat) (d : D), items[i]? = some d → badB i d = false := fun i d e => by
      have := all i d e
      rwa [Nat.zero_add] at this
    have sen : ∀ d ∈ items, senB d = true := fun d hd => by
      obtain ⟨i, hi, e⟩ := List.getElem_of_mem hd
      have b := all i d (by rw [List.getElem?_eq_getElem hi, e])
      unfold badB at b
      rw [Bool.or_eq_false_iff] at b
      cases z : senB d with
      | true => rfl
      | false => rw [z] at b; cases b.1
    obtain ⟨S, rfl, so⟩ := sens_of sen
    have at_ : FirstAt S := fun s e => by
      have b := all 0 (sD s) (by rw [List.getElem?_map, e]; rfl)
      unfold badB at b
      rw [Bool.or_eq_false_iff] at b
      have b : (0 == 0 && !decide (s.1 = "at")) = false := b.2
      by_cases c : s.1 = ("at" : Str)
      · exact c
      · rw [decide_eq_false c] at b; cases b
    rw [List.length_map] at len
    have ok : Ok N S := ⟨few, fun s hs => hN s (List.mem_map_of_mem hs), fun s hs => word_ok (so s hs).w, fun s hs => name_ok (so s hs).m, at_, len⟩
    have hg := hgood S rfl so at_
    refine spec_cons (F := consW (vr 0) nilW) (δ := [.sh (taleD S), .no, .no]) (δ' := [.sh (taleD S), .no, .no]) ok ?_ (fun Q hQ => hQ)
    show if (!(!loopB S)) = true then _ else _
    cases b : loopB S with
    | true =>
      rw [Bool.not_true, Bool.not_false, if_pos rfl]
      exact spec_closing_index ok (loopB_iff.mp b) fun k hk => ⟨szl (by show 2 ≤ 1000; decide), hg.1 (loopB_iff.mp b) k hk⟩
    | false =>
      rw [Bool.not_false, Bool.not_true, if_neg nofun]
      exact hg.2 fun z => by rw [loopB_iff.mpr z] at b; cases b
end Lw
set_option Elab.async false
set_option linter.all false
set_option maxRecDepth 100000
set_option maxHeartbeats 4000000
namespace Lw
open PySem PySem.Spec PyProof.Rows L2 TKS DN
variable {C : Nat → Addr}
/-- sentences in a tuple or a list -/
def SeqD (x : D) (S : List Sen) : Prop := x = .tup (S.map sD) ∨ x = .lst (S.map sD)
theorem pl_then : Pl (.tup [.str "then", .str "later"]) := by unfold Pl; decide +kernel
theorem pl_back : Pl (.tup [.str "back", .str "earlier"]) := by unfold Pl; decide +kernel
theorem pl_atb : Pl (.tup [.str "at", .str "then", .str "back"]) := by unfold Pl; decide +kernel
abbrev llB : DN.S := seqS (ifS (tst (ap2 (gInA false) (vr 3) (apN mkT (consW (ret (.str "then")) (consW (ret (.str "later")) (nilW)))))) (appS 1 (apN mkT (consW (vr 2) (consW (vr 4) (consW (ret (.bl true)) (nilW)))))) (ifS (tst (ap2 (gInA false) (vr 3) (apN mkT (consW (ret (.str "back")) (consW (ret (.str "earlier")) (nilW)))))) (appS 1 (apN mkT (consW (vr 4) (consW (vr 2) (consW (ret (.bl true)) (nilW)))))) (ifS (tst (ap2 (gEqA false) (vr 3) (ret (.str "with")))) (appS 1 (apN mkT (consW (vr 2) (consW (vr 4) (consW (ret (.bl false)) (nilW)))))) (appS 1 (ret (.non)))))) <|
  ifS (tst (ap2 (gInA false) (vr 3) (apN mkT (consW (ret (.str "at")) (consW (ret (.str "then")) (consW (ret (.str "back")) (nilW))))))) (setS 2 (vr 4)) (skipS)
theorem l3 {n : Nat} (h : n ≤ 3) : n ≤ sizeLine := szl (by omega)
theorem fw_with {w : Str} (h : inV (.str w) fwW = true ∨ inV (.str w) bkW = true) : ¬ w = "with" := by
  rintro rfl
  revert h
  decide +kernel
theorem ll_loop {x : D} {P0 : Outs} : ∀ (S : List Sen) (acc : List D) (p : Str), (∀ s ∈ S, PySem.PyData.strOk s.1 = true) → acc.length + S.length ≤ 1000 →
    (∀ q, P0.nx [.sh x, .ow (.lst (acc ++ (lawLinks p S).map lkO)), .sh (.str q), .no, .no]) →
    ∀ δ, clr [3, 4] δ = [.sh x, .ow (.lst acc), .sh (.str p), .no, .no] → forL (tupT 2 (consT (nameT 3) (consT (nameT 4) (nilT)))) llB [3, 4] P0 (S.map sD) δ
  | [], acc, p, _, _, h, δ, e => by
    show P0.nx (clr [3, 4] δ)
    rw [e]
    have := h p
    rwa [show acc ++ (lawLinks p []).map lkO = acc from List.append_nil _] at this
  | s :: r, acc, p, ok, len, h, δ, e => by
    rw [List.length_cons] at len
    have ow := ok s List.mem_cons_self
    show tupT 2 _ (sD s) (clr [3, 4] δ) _
    rw [e]
    refine ⟨rfl, rfl, l3 (by decide), pl_str ow, pl_then, ?_⟩
    -- behind the link: the place
    have tail : ∀ o : Option Lnk, o = optOf p s → (ifS (tst (ap2 (gInA false) (vr 3) (apN mkT (consW (ret (.str "at")) (consW (ret (.str "then")) (consW (ret (.str "back")) (nilW))))))) (setS 2 (vr 4)) (skipS) : DN.S) [.sh x, .ow (.lst (acc ++ [lkO o])), .sh (.str p), .sh (.str s.1), .sh (.str s.2)] { P0 with nx := forL (tupT 2 (consT (nameT 3) (consT (nameT 4) (nilT)))) llB [3, 4] P0 (r.map sD), ct := forL (tupT 2 (consT (nameT 3) (consT (nameT 4) (nilT)))) llB [3, 4] P0 (r.map sD), bk := fun δ2 => P0.nx (clr [3, 4] δ2) } := fun o ho => by
      subst ho
      refine ⟨l3 (by decide), pl_str ow, pl_atb, ?_⟩
      show if memD (.str s.1) [.str "at", .str "then", .str "back"] = true then _ else _
      rw [in_moving]
      have go : ∀ q, q = (if moving s.1 = true then s.2 else p) → ∀ δ, clr [3, 4] δ = [.sh x, .ow (.lst (acc ++ [lkO (optOf p s)])), .sh (.str q), .no, .no] → forL (tupT 2 (consT (nameT 3) (consT (nameT 4) (nilT)))) llB [3, 4] P0 (r.map sD) δ := fun q hq δ e => by
        refine ll_loop r _ q (fun z hz => ok z (List.mem_cons_of_mem _ hz)) (by rw [List.length_append, List.length_singleton]; omega) (fun q2 => ?_) δ e
        have := h q2
        rw [List.append_assoc]
        rw [hq]
        exact this
      by_cases m : moving s.1 = true
      · rw [if_pos m]
        exact go s.2 (by rw [if_pos m]) _ rfl
      · rw [if_neg m]
        exact go p (by rw [if_neg m]) _ rfl
    have al : acc.length < sizeLine := szlt (by omega)
    have eqo : optOf p s = (linkOf p s)[0]? := rfl
    show if memD (.str s.1) [.str "then", .str "later"] = true then _ else _
    rw [in_fw]
    by_cases c1 : inV (.str s.1) fwW = true
    · rw [if_pos c1]
      refine ⟨l3 (Nat.le_refl 3), al, ?_⟩
      refine tail (some (p, s.2, true)) ?_
      rw [eqo, show linkOf p s = [(p, s.2, true)] from (if_neg (fw_with (.inl c1))).trans (if_pos c1)]
      rfl
    rw [if_neg c1]
    refine ⟨l3 (by decide), pl_str ow, pl_back, ?_⟩
    show if memD (.str s.1) [.str "back", .str "earlier"] = true then _ else _
    rw [in_bk]
    by_cases c2 : inV (.str s.1) bkW = true
    · rw [if_pos c2]
      refine ⟨l3 (Nat.le_refl 3), al, ?_⟩
      refine tail (some (s.2, p, true)) ?_
      rw [eqo, show linkOf p s = [(s.2, p, true)] from (if_neg (fw_with (.inr c2))).trans ((if_neg c1).trans (if_pos c2))]
      rfl
    rw [if_neg c2]
    show if decide (s.1 = "with") = true then _ else _
    by_cases c3 : s.1 = "with"
    · rw [if_pos (decide_eq_true c3)]
      refine ⟨l3 (Nat.le_refl 3), al, ?_⟩
      refine tail (some (p, s.2, false)) ?_
      rw [eqo, show linkOf p s = [(p, s.2, false)] from if_pos c3]
      rfl
    · rw [if_neg (by rw [decide_eq_true_eq]; exact c3)]
      refine ⟨al, ?_⟩
      refine tail none ?_
      rw [eqo, show linkOf p s = [] from (if_neg c3).trans ((if_neg c1).trans (if_neg c2))]
      rfl
theorem spec__law_links {x : D} {S : List Sen} {P : D → Prop} {R : Er → Prop} (hx : SeqD x S) (ok : ∀ s ∈ S, PySem.PyData.strOk s.1 = true) (len : S.length ≤ 1000) (h : P (.lst ((lawLinks "" S).map lkO))) : f__law_links C [x] P R := by
  refine ⟨rfl, ?_⟩
  refine ⟨szl (Nat.zero_le _), (show 1 < 5 by decide), ?_⟩
  have go : forL (tupT 2 (consT (nameT 3) (consT (nameT 4) (nilT)))) llB [3, 4] _ (S.map sD) [.sh x, .ow (.lst []), .sh (.str ""), .no, .no] := ll_loop (P0 := { nx := fun δ => (retS (vr 1) : DN.S) δ { nx := fun _ => P .non, rt := fun d _ => P d, er := R }, rt := fun d _ => P d, er := R }) S [] "" ok (by rw [List.length_nil]; omega) (fun q => h) _ rfl
  rcases hx with rfl | rfl
  · exact go
  · exact go
end Lw
set_option Elab.async false
set_option linter.all false
set_option maxRecDepth 100000
set_option maxHeartbeats 4000000
namespace Lw
open PySem PySem.Spec PyProof.Rows L2 TKS DN
variable {C : Nat → Addr}
/-- the moments, each once, in order -/
structure NamesOf (S : List Sen) (ns : List Str) : Prop where
  srt : sortedS ns = true
  nd : ns.Nodup
  mem : ∀ y, y ∈ ns ↔ y ∈ S.map (·.2)
theorem spec__law_names {x : D} {S : List Sen} {P : D → Prop} {R : Er → Prop} (hx : SeqD x S) (len : S.length ≤ 1000) (h : ∀ ns, NamesOf S ns → P (strsD ns)) : f__law_names C [x] P R := by
  refine ⟨rfl, ?_⟩
  have go : cL (tupT 2 (consT (nameT 1) (consT (nameT 2) (nilT)))) (ret true) (DN.sL (vr 2)) [1, 2] (fun a δ2 => isL (.lst a) fun ds => toSs ds fun zs => zs.length ≤ 1000 ∧ ∀ ys : List Str, ys.Nodup → (∀ y, y ∈ ys ↔ y ∈ zs) → sortedS ys = true → P (.lst (ys.map D.str))) (S.map sD) [] [.sh x, .no, .no] := by
    refine lc_map momD rfl (szl (by rw [List.length_map]; exact len)) ?_ ?_
    · intro d hd acc N hl hN
      obtain ⟨s, _, rfl⟩ := List.mem_map.mp hd
      exact ⟨rfl, rfl, hl, hN⟩
    · rw [mom_map]
      exact to_Ss _ _ ⟨by rw [List.length_map]; exact len, fun ys nd mem so => h ys ⟨so, nd, mem⟩⟩
  rcases hx with rfl | rfl
  · exact go
  · exact go
/-- what the law asks of sentences that it models -/
structure LOk (S : List Sen) : Prop where
  w : ∀ s ∈ S, PySem.PyData.strOk s.1 = true
  m : ∀ s ∈ S, PySem.PyData.strOk s.2 = true
  at_ : FirstAt S
  len : S.length ≤ 60
theorem NamesOf.len {S : List Sen} {ns : List Str} (h : NamesOf S ns) : ns.length ≤ S.length := by
  have := h.nd.length_le_of_subset (l₂ := S.map (·.2)) fun y hy => (h.mem y).mp hy
  rwa [List.length_map] at this
theorem spec__law_model {x : D} {S : List Sen} {P : D → Prop} {R : Er → Prop} (hx : SeqD x S) (ok : LOk S) (h : ∀ ns d, NamesOf S ns → ModelD ns (linksL "" S) d → P d) : f__law_model C [x] P R := by
  have ln := ok.len
  refine ⟨rfl, ?_⟩
  refine spec__law_names hx (by omega) fun ns nm => ?_
  refine spec__law_links hx ok.w (by omega) ?_
  refine ⟨ns, lawLinks "" S, rfl, by have := nm.len; omega, by rw [lawLinks_length]; exact ok.len, fun l hl => ?_, fun d hd => ?_⟩
  · rw [lawLinks_some] at hl
    obtain ⟨h1, h2⟩ := links_in ok.at_ hl
    exact ⟨(nm.mem _).mpr h1, (nm.mem _).mpr h2⟩
  · rw [lawLinks_some] at hd
    exact h ns d nm hd
theorem vD_some {kvs : List (Key × D)} {k : Key} : (vD kvs k).isSome = true ↔ k ∈ kvs.map (·.1) := by
  unfold vD
  rw [Option.isSome_map, List.find?_isSome, List.mem_map]
  exact ⟨fun ⟨x, hx, e⟩ => ⟨x, hx, of_decide_eq_true e⟩, fun ⟨x, hx, e⟩ => ⟨x, hx, decide_eq_true e⟩⟩
theorem eqD_nil (L : List Str) : eqD (strsD L) (.lst []) = L.isEmpty := by
  unfold eqD strsD pyD
  cases L with
  | nil => decide +kernel
  | cons a r => simp [pyL, PyData.eqv, PyData.eqvAll]
theorem pl_nilL : Pl (.lst []) := by unfold Pl; decide +kernel
theorem keys_hs {ka : List (Key × D)} {hs : List Str} (h : ka.map (·.1) = hs.map Sum.inr) : keysD ka = hs.map D.str := by
  unfold keysD
  have e : (ka.map fun p => kD p.1) = (ka.map (·.1)).map kD := by rw [List.map_map]; rfl
  rw [e, h, List.map_map]
  rfl
theorem spec__law_fits {x : D} {S : List Sen} {P : D → Prop} {R : Er → Prop} (hx : SeqD x S) (ok : LOk S) (h : P (.bl (!loopB S))) : f__law_fits C [x] P R := by
  refine ⟨rfl, ?_⟩
  refine spec__law_model hx ok fun ns d nm md => ?_
  obtain ⟨hd, hs, Rr, kh, ka, rfl, n1, n2, n3, n4, n5, n6, n7, same, bef, inN, nds⟩ := md.ex
  refine ⟨rfl, rfl, ?_⟩
  show cL _ _ (DN.sL _) _ _ (keysD ka) [] [.sh x, .sh (.dic kh), .sh (.dic ka), .no]
  rw [keys_hs n4]
  have lh : (hs.map D.str).length ≤ 60 := by rw [List.length_map]; exact n6
  refine lc_pick (fun d => match d with
    | .str z => Rr z z
    | _ => false) (fun d => d) rfl (szl (by omega)) ?_ ?_
  · intro d hd' acc N hl hN
    obtain ⟨z, hz, rfl⟩ := List.mem_map.mp hd'
    obtain ⟨kx, e1, _, e3⟩ := n5 z hz
    show optD (vD ka (Sum.inr z)) _
    rw [e1]
    show if (vD kx (Sum.inr z)).isSome = true then _ else _
    have eb : (vD kx (Sum.inr z)).isSome = Rr z z := by
      rw [Bool.eq_iff_iff, vD_some, e3]
      constructor
      · rintro ⟨y, _, e, r⟩
        cases e
        exact r
      · exact fun r => ⟨z, hz, rfl, r⟩
    have hN : N (acc ++ if Rr z z = true then [.str z] else []) _ := hN
    rw [eb]
    by_cases c : Rr z z = true
    · rw [if_pos c] at hN ⊢
      exact ⟨hl, hN⟩
    · rw [if_neg c] at hN ⊢
      rw [List.append_nil] at hN
      exact hN
  · rw [List.map_id']
    have ef : (hs.map D.str).filter (fun d => match d with
      | .str z => Rr z z
      | _ => false) = (hs.filter fun z => Rr z z).map D.str := by
      rw [List.filter_map]
      rfl
    rw [ef]
    have okN : ∀ y ∈ ns, PySem.PyData.strOk y = true := fun y hy => by
      obtain ⟨s, hs, rfl⟩ := List.mem_map.mp ((nm.mem y).mp hy)
      exact ok.m s hs
    have okh : ∀ y ∈ hs, PySem.PyData.strOk y = true := fun y hy => by
      obtain ⟨z, hz, rfl⟩ := (n7 y).mp hy
      exact okN _ (inN z hz)
    refine ⟨szl (Nat.zero_le _), pl_strs (fun y hy => okh y (List.mem_filter.mp hy).1), pl_nilL, ?_⟩
    show P (.bl (eqD (strsD (hs.filter fun z => Rr z z)) (.lst [])))
    rw [eqD_nil]
    have e : (hs.filter fun z => Rr z z).isEmpty = !loopB S := by
      cases b : loopB S with
      | true =>
        obtain ⟨m, hm, hb⟩ := loopB_iff.mp b
        have mN := (nm.mem m).mpr hm
        have mh : hd m ∈ hs.filter fun z => Rr z z := List.mem_filter.mpr ⟨(n7 _).mpr ⟨m, mN, rfl⟩, (bef m mN m mN).mpr hb⟩
        cases f : hs.filter fun z => Rr z z with
        | nil => rw [f] at mh; cases mh
        | cons _ _ => rfl
      | false =>
        cases f : hs.filter fun z => Rr z z with
        | nil => rfl
        | cons y r =>
          have my : y ∈ hs.filter fun z => Rr z z := by rw [f]; exact List.mem_cons_self
          obtain ⟨h1, h2⟩ := List.mem_filter.mp my
          obtain ⟨m, mN, rfl⟩ := (n7 y).mp h1
          have := loopB_iff.mpr ⟨m, (nm.mem m).mp mN, (bef m mN m mN).mp h2⟩
          rw [b] at this
          cases this
    rw [e]
    exact h
end Lw
set_option Elab.async false
set_option linter.all false
set_option maxRecDepth 100000
set_option maxHeartbeats 4000000
namespace Lw
open PySem PySem.Spec PyProof.Rows L2 TKS DN
variable {C : Nat → Addr}
theorem one_ok {z : Str} (h : PySem.PyData.strOk z = true) {c : Nat} (hc : c ∈ z.cps.toList) : PySem.PyData.strOk ⟨#[c]⟩ = true := by
  have h : z.cps.all _ = true := h
  rw [← Array.all_toList, List.all_eq_true] at h
  have := h c hc
  show (#[c] : Array Nat).all _ = true
  rw [← Array.all_toList]
  simpa using this
theorem spec__law_is_name {d : D} {P : D → Prop} {R : Er → Prop} (fl : Flt d) (sz : ∀ z, d = .str z → z.length ≤ sizeLine ∧ PySem.PyData.strOk z = true) (h : P (.bl (nmD d))) : f__law_is_name C [d] P R := by
  refine ⟨rfl, ?_⟩
  cases d with
  | obj _ _ => exact absurd rfl (fl.1 _ _)
  | dit _ => exact absurd rfl (fl.2 _)
  | non => exact h
  | bl _ => exact h
  | int _ => exact h
  | lst _ => exact h
  | tup _ => exact h
  | dic _ => exact h
  | scr _ => exact h
  | str z =>
    obtain ⟨zl, zo⟩ := sz z rfl
    refine ⟨zl, ?_⟩
    show if decide ((1 : Int) ≤ (z.length : Nat)) = true then _ else _
    by_cases c1 : (1 : Int) ≤ (z.length : Nat)
    · rw [if_pos (decide_eq_true c1)]
      show if (!decide (((z.length : Nat) : Int) ≤ 8)) = true then _ else _
      by_cases c2 : ((z.length : Nat) : Int) ≤ 8
      · rw [decide_eq_true c2, Bool.not_true, if_neg nofun]
        show cL _ _ (DN.sL _) _ _ (chs z) [] [.sh (.str z), .no]
        have lz : (chs z).length = z.length := by
          unfold chs
          rw [List.length_map, Array.length_toList]
          rfl
        refine lc_pick (fun d => !hasS (strOf d) letters) (fun d => d) rfl (szl (by rw [lz]; omega)) ?_ ?_
        · intro d hd acc N hl hN
          obtain ⟨c, _, rfl⟩ := List.mem_map.mp hd
          show if (!hasS ⟨#[c]⟩ letters) = true then _ else _
          have hN : N (acc ++ if (!hasS ⟨#[c]⟩ letters) = true then [.str ⟨#[c]⟩] else []) _ := hN
          by_cases k : (!hasS ⟨#[c]⟩ letters) = true
          · rw [if_pos k] at hN ⊢
            exact ⟨hl, hN⟩
          · rw [if_neg k] at hN ⊢
            rw [List.append_nil] at hN
            exact hN
        · rw [List.map_id']
          have ef : (chs z).filter (fun d => !hasS (strOf d) letters) = ((z.cps.toList.filter fun c => !isLetter c).map fun c => (⟨#[c]⟩ : Str)).map D.str := by
            unfold chs
            rw [List.filter_map, List.map_map]
            rfl
          rw [ef]
          refine ⟨szl (Nat.zero_le _), pl_strs (fun y hy => ?_), pl_nilL, ?_⟩
          · obtain ⟨c, hc, rfl⟩ := List.mem_map.mp hy
            exact one_ok zo (List.mem_filter.mp hc).1
          · show P (.bl (eqD (strsD _) (.lst [])))
            rw [eqD_nil]
            have e : ((z.cps.toList.filter fun c => !isLetter c).map fun c => (⟨#[c]⟩ : Str)).isEmpty = nmD (.str z) := by
              show _ = (decide (1 ≤ z.length) && decide (z.length ≤ 8) && z.cps.toList.all isLetter)
              rw [decide_eq_true (by omega), decide_eq_true (by omega), Bool.true_and, Bool.true_and]
              generalize z.cps.toList = l
              induction l with
              | nil => rfl
              | cons c r ih =>
                cases b : isLetter c with
                | true => rw [List.filter_cons_of_neg (by rw [b]; decide), ih, List.all_cons, b, Bool.true_and]
                | false => rw [List.filter_cons_of_pos (by rw [b]; rfl), List.all_cons, b, Bool.false_and]; rfl
            rw [e]
            exact h
      · rw [decide_eq_false c2, Bool.not_false, if_pos rfl]
        have e : nmD (.str z) = false := by
          show (decide (1 ≤ z.length) && decide (z.length ≤ 8) && z.cps.toList.all isLetter) = _
          rw [decide_eq_false (show ¬ z.length ≤ 8 by omega), Bool.and_false, Bool.false_and]
        rw [e] at h
        exact h
    · rw [if_neg (by rw [decide_eq_true_eq]; exact c1)]
      have e : nmD (.str z) = false := by
        show (decide (1 ≤ z.length) && decide (z.length ≤ 8) && z.cps.toList.all isLetter) = _
        rw [decide_eq_false (show ¬ 1 ≤ z.length by omega), Bool.false_and, Bool.false_and]
      rw [e] at h
      exact h
/-- an item that the law looks at -/
structure LItm (d : D) : Prop where
  it : Itm d
  one : ∀ a b, d = .tup [a, b] → Flt a
  txt : ∀ a z, d = .tup [a, .str z] → PySem.PyData.strOk z = true
theorem pl_wordsT : Pl (.tup [.str "at", .str "then", .str "back", .str "later", .str "earlier", .str "with"]) := by unfold Pl; decide +kernel
theorem spec__law_is_sentence {d : D} {P : D → Prop} {R : Er → Prop} (it : LItm d) (h : P (.bl (senB d))) : f__law_is_sentence C [d] P R := by
  refine ⟨rfl, ?_⟩
  have fl := it.it.fl
  cases d with
  | obj _ _ => exact absurd rfl (fl.1 _ _)
  | dit _ => exact absurd rfl (fl.2 _)
  | non => exact h
  | bl _ => exact h
  | int _ => exact h
  | lst _ => exact h
  | str _ => exact h
  | dic _ => exact h
  | scr _ => exact h
  | tup xs =>
    match xs, it, h with
    | [], _, h => exact h
    | [_], _, h => exact h
    | a :: b :: c :: r, _, h =>
      exact h
    | [a, b], it, h =>
      obtain ⟨pa, fb, sb⟩ := it.it.two a b rfl
      have fa := it.one a b rfl
      have h : P (.bl (memD a (wordsL.map D.str) && nmD b)) := h
      have no : (∀ z, a ≠ .str z) → memD a (wordsL.map D.str) = false := fun n => by
        cases e : memD a (wordsL.map D.str) with
        | false => rfl
        | true =>
          obtain ⟨w, _, ea⟩ := mem_word e
          exact absurd ea (n w)
      cases a with
      | obj _ _ => exact absurd rfl (fa.1 _ _)
      | dit _ => exact absurd rfl (fa.2 _)
      | non => rw [no (by nofun), Bool.false_and] at h; exact h
      | bl _ => rw [no (by nofun), Bool.false_and] at h; exact h
      | int _ => rw [no (by nofun), Bool.false_and] at h; exact h
      | lst _ => rw [no (by nofun), Bool.false_and] at h; exact h
      | tup _ => rw [no (by nofun), Bool.false_and] at h; exact h
      | dic _ => rw [no (by nofun), Bool.false_and] at h; exact h
      | scr _ => rw [no (by nofun), Bool.false_and] at h; exact h
      | str w =>
        refine ⟨szl (by show 6 ≤ 1000; decide), pa, pl_wordsT, ?_⟩
        show if memD (.str w) (wordsL.map D.str) = true then _ else _
        by_cases c : memD (.str w) (wordsL.map D.str) = true
        · rw [if_pos c]
          rw [c, Bool.true_and] at h
          exact spec__law_is_name fb (fun z e => ⟨sb z e, by subst e; exact it.txt _ z rfl⟩) h
        · rw [if_neg c]
          have c2 : memD (.str w) (wordsL.map D.str) = false := by cases z : memD (.str w) (wordsL.map D.str) with | true => exact absurd z c | false => rfl
          rw [c2, Bool.false_and] at h
          exact h
end Lw
set_option Elab.async false
set_option linter.all false
set_option maxRecDepth 100000
set_option maxHeartbeats 4000000
namespace Lw
open PySem PySem.Spec PyProof.Rows L2 TKS DN
variable {C : Nat → Addr}
/-- what is due of a thing that is checked -/
inductive Due : D → D → Prop
  | form {d : D} (nt : ∀ xs, d ≠ .tup xs) : Due d (.tup [.str "form"])
  | sen {items : List D} {k : Nat} {x : D} (e : items[k]? = some x) (b : badB k x = true) (f : ∀ j x', j < k → items[j]? = some x' → badB j x' = false) : Due (.tup items) (.tup [.str "sentence", nD k])
  | cyc {S : List Sen} {k : Nat} (so : ∀ s ∈ S, SenOk s) (at_ : FirstAt S) (fl : FirstLoop S k) : Due (.tup (S.map sD)) (.tup [.str "cycle", nD k])
  | fit {S : List Sen} (so : ∀ s ∈ S, SenOk s) (at_ : FirstAt S) (n : ¬ Loop S) : Due (.tup (S.map sD)) .non
theorem good_all {S : List Sen} (so : ∀ s ∈ S, SenOk s) (at_ : FirstAt S) {k : Nat} {x : D} (e : (S.map sD)[k]? = some x) : badB k x = false := by
  rw [List.getElem?_map] at e
  cases h : S[k]? with
  | none => rw [h] at e; cases e
  | some s =>
    rw [h] at e
    cases e
    have sb : senB (sD s) = true := senB_iff.mpr ⟨s, rfl, so s (List.mem_of_getElem? h)⟩
    have bs : badB k (sD s) = (k == 0 && !decide (s.1 = "at")) := by
      unfold badB
      rw [sb]
      rfl
    rw [bs]
    cases k with
    | zero => rw [decide_eq_true (at_ s h)]; rfl
    | succ k => rfl
theorem sD_inj {S S' : List Sen} (h : S.map sD = S'.map sD) : S = S' := by
  induction S generalizing S' with
  | nil =>
    cases S' with
    | nil => rfl
    | cons _ _ => cases h
  | cons s r ih =>
    cases S' with
    | nil => cases h
    | cons s' r' =>
      injection h with h1 h2
      have : s = s' := by
        injection h1 with h1
        injection h1 with a h1
        injection h1 with b _
        injection a with a
        injection b with b
        exact Prod.ext a b
      rw [this, ih h2]
theorem FirstLoop.loop {S : List Sen} {k : Nat} (h : FirstLoop S k) : Loop S := by
  have := h.2.1.more (m := S.length) h.1
  rwa [List.take_length] at this
theorem FirstLoop.uniq {S : List Sen} {k k' : Nat} (h : FirstLoop S k) (h' : FirstLoop S k') : k = k' := by
  rcases Nat.lt_trichotomy k k' with c | c | c
  · exact absurd h.2.1 (h'.2.2 k c)
  · exact c
  · exact absurd h'.2.1 (h.2.2 k' c)
theorem Due.uniq {d r r' : D} (h : Due d r) (h' : Due d r') : r = r' := by
  cases h with
  | form nt =>
    cases h' with
    | form _ => rfl
    | sen _ _ _ => exact absurd rfl (nt _)
    | cyc _ _ _ => exact absurd rfl (nt _)
    | fit _ _ _ => exact absurd rfl (nt _)
  | sen e b f =>
    rename_i items k x
    generalize hd : D.tup items = d' at h'
    cases h' with
    | form nt => exact absurd hd.symm (nt _)
    | sen e' b' f' =>
      rename_i items' k' x'
      cases hd
      rcases Nat.lt_trichotomy k k' with c | c | c
      · rw [f' k x c e] at b; cases b
      · rw [c]
      · rw [f k' x' c e'] at b'; cases b'
    | cyc so at_ fl =>
      cases hd
      rw [good_all so at_ e] at b; cases b
    | fit so at_ n =>
      cases hd
      rw [good_all so at_ e] at b; cases b
  | cyc so at_ fl =>
    rename_i S k
    generalize hd : D.tup (S.map sD) = d' at h'
    cases h' with
    | form nt => exact absurd hd.symm (nt _)
    | sen e' b' f' =>
      cases hd
      rw [good_all so at_ e'] at b'; cases b'
    | cyc so' at' fl' =>
      injection hd with hd
      have := sD_inj hd
      subst this
      rw [fl.uniq fl']
    | fit so' at' n =>
      injection hd with hd
      have := sD_inj hd
      subst this
      exact absurd fl.loop n
  | fit so at_ n =>
    rename_i S
    generalize hd : D.tup (S.map sD) = d' at h'
    cases h' with
    | form nt => exact absurd hd.symm (nt _)
    | sen e' b' f' =>
      cases hd
      rw [good_all so at_ e'] at b'; cases b'
    | cyc so' at' fl' =>
      injection hd with hd
      have := sD_inj hd
      subst this
      exact absurd fl'.loop n
    | fit _ _ _ => rfl
/-- a thing that both may look at -/
structure Thing (N : List Str) (d : D) : Prop where
  fl : Flt d
  few : N.length ≤ 60
  it : ∀ items, d = .tup items → (∀ x ∈ items, LItm x) ∧ (∀ s : Sen, sD s ∈ items → s.2 ∈ N) ∧ items.length ≤ 999
theorem tup_or {d : D} : (∀ xs, d ≠ .tup xs) ∨ ∃ xs, d = .tup xs := by
  cases d with
  | tup xs => exact .inr ⟨xs, rfl⟩
  | _ => exact .inl nofun
theorem spec_check {d : D} {N : List Str} {P : D → Prop} {R : Er → Prop} (t : Thing N d) (h : ∀ r, Due d r → P r) : f_check_tale C [d] P R := by
  rcases tup_or (d := d) with nt | ⟨items, rfl⟩
  · exact spec_check_form t.fl nt (h _ (.form nt))
  · obtain ⟨i1, i2, i3⟩ := t.it items rfl
    refine spec_check_tale (fun x hx => (i1 x hx).it) t.few i2 i3 (fun k x e b f => h _ (.sen e b f)) (fun S e so at_ => ?_)
    subst e
    exact ⟨fun _ k hk => h _ (.cyc so at_ hk), fun n => h _ (.fit so at_ n)⟩
abbrev ldB (C : Nat → Addr) : DN.S := ifS (orT (notT (truT (callW (f__law_is_sentence C) (consW (vr 2) (nilW))))) (andT (tst (ap2 (gEqA false) (vr 1) (ret (.int 0)))) (tst (ap2 (gEqA true) (ap2 gIxA (vr 2) (ret (.int 0))) (ret (.str "at")))))) (retS (apN mkT (consW (ret (.str "sentence")) (consW (vr 1) (nilW))))) (skipS)
theorem due_loop {x : Sl} {P0 : Outs} : ∀ (items : List D) (k : Nat), (∀ d ∈ items, LItm d) →
    (∀ (i : Nat) (d : D), items[i]? = some d → badB (k + i) d = true → (∀ j d', j < i → items[j]? = some d' → badB (k + j) d' = false) → ∀ δ, P0.rt (.tup [.str "sentence", nD (k + i)]) δ) →
    ((∀ (i : Nat) (d : D), items[i]? = some d → badB (k + i) d = false) → P0.nx [x, .no, .no]) →
    ∀ δ, clr [1, 2] δ = [x, .no, .no] → forL (tupT 2 (consT (nameT 1) (consT (nameT 2) (nilT)))) (ldB C) [1, 2] P0 (enumD k items) δ
  | [], k, _, _, h, δ, e => by
    show P0.nx (clr [1, 2] δ)
    rw [e]
    exact h fun i d z => by cases z
  | d :: r, k, it, hb, hg, δ, e => by
    show tupT 2 _ (.tup [nD k, d]) (clr [1, 2] δ) _
    rw [e]
    refine ⟨rfl, rfl, ?_⟩
    refine spec__law_is_sentence (it d List.mem_cons_self) ?_
    have good : badB k d = false → forL (tupT 2 (consT (nameT 1) (consT (nameT 2) (nilT)))) (ldB C) [1, 2] P0 (enumD (k + 1) r) [x, .sh (nD k), .sh d] := fun g =>
      due_loop r (k + 1) (fun z hz => it z (List.mem_cons_of_mem _ hz)) (fun i z ez bz fz δ => by
        have := hb (i + 1) z ez (by rw [show k + (i + 1) = k + 1 + i by omega]; exact bz) (fun j d' hj ej => by
          cases j with
          | zero => cases ej; exact g
          | succ j => rw [show k + (j + 1) = k + 1 + j by omega]; exact fz j d' (by omega) ej) δ
        rw [show k + (i + 1) = k + 1 + i by omega] at this
        exact this)
        (fun all => hg fun i z ez => by
          cases i with
          | zero => cases ez; exact g
          | succ i => rw [show k + (i + 1) = k + 1 + i by omega]; exact all i z ez) _ rfl
    have bad : badB k d = true → ∀ δ, P0.rt (.tup [.str "sentence", nD k]) δ := fun b => hb 0 d rfl b fun j _ hj => by omega
    show if (!senB d) = true then _ else _
    cases sb : senB d with
    | false =>
      rw [Bool.not_false, if_pos rfl]
      exact ⟨szl (by show 2 ≤ 1000; decide), bad (by unfold badB; rw [sb]; rfl) _⟩
    | true =>
      rw [Bool.not_true, if_neg nofun]
      obtain ⟨s, rfl, so⟩ := senB_iff.mp sb
      show if decide (((k : Nat) : Int) = 0) = true then _ else _
      have bs : badB k (sD s) = (k == 0 && !decide (s.1 = "at")) := by
        unfold badB
        rw [sb]
        rfl
      by_cases k0 : k = 0
      · subst k0
        rw [if_pos (show decide (((0 : Nat) : Int) = 0) = true from rfl)]
        show if (!decide (s.1 = "at")) = true then _ else _
        by_cases c : s.1 = ("at" : Str)
        · rw [decide_eq_true c, Bool.not_true, if_neg nofun]
          exact good (by rw [bs, decide_eq_true c]; rfl)
        · rw [decide_eq_false c, Bool.not_false, if_pos rfl]
          exact ⟨szl (by show 2 ≤ 1000; decide), bad (by rw [bs, decide_eq_false c]; rfl) _⟩
      · rw [if_neg (by rw [decide_eq_true_eq]; omega)]
        have kz : (k == 0) = false := beq_false_of_ne k0
        exact good (by rw [bs, kz, Bool.false_and])
end Lw
set_option Elab.async false
set_option linter.all false
set_option maxRecDepth 100000
set_option maxHeartbeats 4000000
namespace Lw
open PySem PySem.Spec PyProof.Rows L2 TKS DN
variable {C : Nat → Addr}
theorem LOk.take {S : List Sen} (h : LOk S) (n : Nat) : LOk (S.take n) := by
  refine ⟨fun s hs => h.w s (List.mem_of_mem_take hs), fun s hs => h.m s (List.mem_of_mem_take hs), fun s e => ?_, by rw [List.length_take]; have := h.len; omega⟩
  rw [List.getElem?_take] at e
  split at e
  · exact h.at_ s e
  · cases e
abbrev ftB (C : Nat → Addr) : DN.S := ifS (notT (truT (callW (f__law_fits C) (consW (slW gCutA (vr 0) (ret none) (partW (ap2 gPlus (vr 1) (ret (.int 1))))) (nilW))))) (retS (apN mkT (consW (ret (.str "cycle")) (consW (vr 1) (nilW))))) (skipS)
theorem fits_loop {S : List Sen} (ok : LOk S) {P0 : Outs} (hc : ∀ k, FirstLoop S k → ∀ δ, P0.rt (.tup [.str "cycle", nD k]) δ) (hn : ¬ Loop S → P0.nx [.sh (taleD S), .no, .no]) : ∀ (m k : Nat), k + m = S.length → (∀ j < k, ¬ Loop (S.take (j + 1))) →
    ∀ δ, clr [1] δ = [.sh (taleD S), .no, .no] → forL (nameT 1) (ftB C) [1] P0 ((List.range' k m).map nD) δ
  | 0, k, e, f, δ, eδ => by
    show P0.nx (clr [1] δ)
    rw [eδ]
    refine hn fun lp => ?_
    cases k with
    | zero =>
      have z : S = [] := List.eq_nil_of_length_eq_zero (by omega)
      rw [z] at lp
      obtain ⟨x, hx, _⟩ := lp
      cases hx
    | succ k =>
      refine f k (Nat.lt_succ_self k) ?_
      rw [show k + 1 = S.length by omega, List.take_length]
      exact lp
  | m + 1, k, e, f, δ, eδ => by
    show nameT 1 (nD k) (clr [1] δ) _
    rw [eδ]
    have e1 : ((k : Nat) : Int) + 1 = ((k + 1 : Nat) : Int) := by omega
    show f__law_fits C [.tup (DN.cutD (S.map sD) none (some (((k : Nat) : Int) + 1)))] _ _
    rw [e1, cut_take S (k + 1) (by omega)]
    refine spec__law_fits (.inl rfl) (ok.take (k + 1)) ?_
    show if (!(!loopB (S.take (k + 1)))) = true then _ else _
    cases b : loopB (S.take (k + 1)) with
    | true =>
      rw [Bool.not_true, Bool.not_false, if_pos rfl]
      exact ⟨szl (by show 2 ≤ 1000; decide), hc k ⟨by omega, loopB_iff.mp b, f⟩ _⟩
    | false =>
      rw [Bool.not_false, Bool.not_true, if_neg nofun]
      refine fits_loop ok hc hn m (k + 1) (by omega) (fun j hj => ?_) _ rfl
      rcases Nat.lt_succ_iff_lt_or_eq.mp hj with hj | rfl
      · exact f j hj
      · intro lp
        rw [loopB_iff.mpr lp] at b
        cases b
theorem spec__law_due {d : D} {N : List Str} {P : D → Prop} {R : Er → Prop} (t : Thing N d) (l60 : ∀ xs, d = .tup xs → xs.length ≤ 60) (h : ∀ r, Due d r → P r) : f__law_due C [d] P R := by
  rcases tup_or (d := d) with nt | ⟨items, rfl⟩
  · refine ⟨rfl, ?_⟩
    have hf := h _ (.form nt)
    cases d with
    | obj _ _ => exact absurd rfl (t.fl.1 _ _)
    | dit _ => exact absurd rfl (t.fl.2 _)
    | tup xs => exact absurd rfl (nt xs)
    | non => exact ⟨szl (by show 1 ≤ 1000; decide), hf⟩
    | bl _ => exact ⟨szl (by show 1 ≤ 1000; decide), hf⟩
    | int _ => exact ⟨szl (by show 1 ≤ 1000; decide), hf⟩
    | lst _ => exact ⟨szl (by show 1 ≤ 1000; decide), hf⟩
    | str _ => exact ⟨szl (by show 1 ≤ 1000; decide), hf⟩
    | dic _ => exact ⟨szl (by show 1 ≤ 1000; decide), hf⟩
    | scr _ => exact ⟨szl (by show 1 ≤ 1000; decide), hf⟩
  · obtain ⟨i1, i2, i3⟩ := t.it items rfl
    have l6 := l60 items rfl
    refine ⟨rfl, ?_⟩
    show forL _ (ldB C) [1, 2] _ (enumD 0 items) [.sh (.tup items), .no, .no]
    refine due_loop items 0 i1 (fun i d e b f δ => ?_) (fun all => ?_) _ rfl
    · rw [Nat.zero_add] at b ⊢
      exact h _ (.sen e b fun j d' hj ej => by
        have := f j d' hj ej
        rwa [Nat.zero_add] at this)
    · have all : ∀ (i : Nat) (d : D), items[i]? = some d → badB i d = false := fun i d e => by
        have := all i d e
        rwa [Nat.zero_add] at this
      have sen : ∀ d ∈ items, senB d = true := fun d hd => by
        obtain ⟨i, hi, e⟩ := List.getElem_of_mem hd
        have b := all i d (by rw [List.getElem?_eq_getElem hi, e])
        unfold badB at b
        rw [Bool.or_eq_false_iff] at b
        cases z : senB d with
        | true => rfl
        | false => rw [z] at b; cases b.1
      obtain ⟨S, rfl, so⟩ := sens_of sen
      have at_ : FirstAt S := fun s e => by
        have b := all 0 (sD s) (by rw [List.getElem?_map, e]; rfl)
        unfold badB at b
        rw [Bool.or_eq_false_iff] at b
        have b : (0 == 0 && !decide (s.1 = "at")) = false := b.2
        by_cases c : s.1 = ("at" : Str)
        · exact c
        · rw [decide_eq_false c] at b; cases b
      rw [List.length_map] at l6
      have ok : LOk S := ⟨fun s hs => word_ok (so s hs).w, fun s hs => name_ok (so s hs).m, at_, l6⟩
      refine ⟨by rw [List.length_map]; omega, ?_⟩
      show forL _ (ftB C) [1] _ (rngD 0 (((S.map sD).length : Nat) : Int).toNat) [.sh (taleD S), .no, .no]
      rw [Int.toNat_natCast, List.length_map, rng0, List.range_eq_range']
      exact fits_loop ok (fun k hk δ => h _ (.cyc so at_ hk)) (fun n => h _ (.fit so at_ n)) S.length 0 (Nat.zero_add _) (fun j hj => absurd hj (Nat.not_lt_zero j)) _ rfl
end Lw
set_option Elab.async false
set_option linter.all false
set_option maxRecDepth 100000
set_option maxHeartbeats 4000000
/-! a def that is called where it is known that no object's text is being made: the law's own call -/
namespace L2
open PySem PySem.Spec PyProof.Rows
structure FnG (P : Program) (w : World) (K : PySem.W.Frag) (mg : Str → Option Value) (base : Heap) (k : Nat) (f : Addr) (fd : FuncData) (ps : List Str) (sp : Sp) : Prop where
  len : ∀ vs H Q E, sp vs H Q E → vs.length = ps.length
  run : ∀ (A : Around) (out : List Env) (s : Shared) (H : Hp) (ar : Args) (us : List Value) (vs : List V) (Q : VK) (E : XK), Room k A → A.guards = some [] → Env0 P w K mg base A out s H → BindsTo s fd ar (ps.zip us) → Vals vs us → sp vs H Q E → codeAny (model P w) A (.call (.ref f) ar) (CR CX0 out P w H s Q E) s
theorem FnOk.g {P : Program} {w : World} {K : PySem.W.Frag} {mg : Str → Option Value} {base : Heap} {k : Nat} {f : Addr} {fd : FuncData} {ps : List Str} {sp : Sp} (F : FnOk P w K mg base CX0 k f fd ps sp) : FnG P w K mg base k f fd ps sp :=
  ⟨F.len, fun A out s H ar us vs Q E r _ => F.run A out s H ar us vs Q E r⟩
theorem FnG.imp {P : Program} {w : World} {K : PySem.W.Frag} {mg : Str → Option Value} {base : Heap} {k : Nat} {f : Addr} {fd : FuncData} {ps : List Str} {sp sp' : Sp} (F : FnG P w K mg base k f fd ps sp) (h : ∀ vs H Q E, sp' vs H Q E → sp vs H Q E) : FnG P w K mg base k f fd ps sp' :=
  ⟨fun vs H Q E q => F.len vs H Q E (h _ _ _ _ q), fun A out s H ar us vs Q E r g e0 b v q => F.run A out s H ar us vs Q E r g e0 b v (h _ _ _ _ q)⟩
theorem fnG_of {P : Program} {w : World} {K : PySem.W.Frag} {mg : Str → Option Value} {base : Heap} {k : Nat} {f : Addr} {name qual : Str} {pa : Arguments} {bd : List Stmt} {sc : Scope} {dV kV doc pm cdv ct oc : Value} {an od : Option Addr} {osl : Array (Option Value)} {N ps : List Str} {sp : Sp}
    (lk : K.lookup f = some ⟨oc, od, .func (PySem.W.fnOf name qual pa bd sc dV kV doc pm an cdv ct), osl⟩) (cd : PySem.W.codeIn K cdv qual = true) (S : FnScope N ps sc) (len : ∀ vs H Q E, sp vs H Q E → vs.length = ps.length)
    (body : ∀ (A : Around) (out : List Env) (s : Shared) (H : Hp) (vs : List V) (Q : VK) (E : XK), Room k (A.deeper (envOfC qual sc s.heap.objs.size f cdv)) → A.guards = some [] → sp vs H Q E → ∃ t, PSs (cxOf CX0 P w K mg base N qual sc f cdv A out s H E) bd t ∧ t { nx := fun _ G => Q .non G, rt := Q } (start N vs) H) :
    FnG P w K mg base (k + 1) f (PySem.W.fnOf name qual pa bd sc dV kV doc pm an cdv ct) ps sp := by
  refine ⟨len, fun A out s H ar us vs Q E rm gd e0 bi rv hs => ?_⟩
  have ln := len _ _ _ _ hs
  have kin : K.In s.heap := e0.mod.kin.keeps fun b o z => (e0.bs b o z).1
  have nol : s.heap.NoLimit := e0.mod.nolimit.keeps fun b o z => (e0.bs b o z).1
  have kinds : ∀ y ∈ ps.zip us, sc.names.lookup y.1 = some .local ∨ (sc.names.lookup y.1 = some .cell ∧ ((cellsFrom (s.heap.objs.size + 1) sc.names []).lookup y.1).isSome = true) := fun y hy =>
    (S.par y.1 (List.of_mem_zip (a := y.1) (b := y.2) hy).1).imp id fun q => ⟨q, PySem.W.cellsFrom_some _ _ _ (.inl q)⟩
  refine codeAny_call_function rm.depth (kin _ _ lk) rfl S.co S.gen rfl (PySem.W.codeRec_of kin cd) (bi _ _ _ _ (wpAny_newFunctionEnv_cells S.kind kinds fun env he s1 x => ?_))
  subst he
  refine ⟨nol.keeps x.toInCall.keep, codeAny_func ?_⟩
  obtain ⟨t, pt, q⟩ := body A out s H vs Q E (rm.deeper _) gd hs
  have I : Inv (cxOf CX0 P w K mg base N qual sc f cdv A out s H E) [] (start N vs) H s1 := inv_start S rm.hd e0 ln rv x
  refine wpAny_mono (pt.run [] s1 (start N vs) H _ I q) (fun fl s' hq => ?_) fun _ _ z => z
  cases fl with
  | brk => exact hq.elim fun _ z => z.elim fun _ z => z.2.elim
  | cont => exact hq.elim fun _ z => z.elim fun _ z => z.2.elim
  | next => exact let ⟨σ', H', J, q⟩ := hq; ⟨.non, H', J.os, J.bare, J.base, J.hok, rfl, q⟩
  | ret u => exact let ⟨v, σ', H', J, r, q⟩ := hq; ⟨v, H', J.os, J.bare, J.base, J.hok, r, q⟩
theorem Fun.okG {P : Program} {w : World} {K : PySem.W.Frag} {mg : Str → Option Value} {base : Heap} {x qual : Str} {st : Stmt} {f : Addr} {fd : FuncData} {N ps : List Str} {k : Nat} {sp : Sp} (F : Fun K x qual st f fd) (S : FnScope N ps (defScope st)) (len : ∀ vs H Q E, sp vs H Q E → vs.length = ps.length)
    (body : ∀ (cdv : Value) (A : Around) (out : List Env) (s : Shared) (H : Hp) (vs : List V) (Q : VK) (E : XK), Room k (A.deeper (envOfC qual (defScope st) s.heap.objs.size f cdv)) → A.guards = some [] → sp vs H Q E → ∃ t, PSs (cxOf CX0 P w K mg base N qual (defScope st) f cdv A out s H E).nox (defBody st) t ∧ t { nx := fun _ G => Q .non G, rt := Q } (start N vs) H) :
    FnG P w K mg base (k + 1) f fd ps sp := by
  obtain ⟨oc, od, kV, doc, pm, an, cdv, ct, osl, rfl, lk, cd⟩ := F.ex
  exact fnG_of lk cd S len fun A out s H vs Q E r g h => let ⟨t, a, b⟩ := body cdv A out s H vs Q E r g h; ⟨t, a.nox, b⟩
/-- the law's call -/
theorem callG {P : Program} {w : World} {K : PySem.W.Frag} {mg mb : Str → Option Value} {k : Nat} {fa a : Addr} {fd : FuncData} {x : Str} {sp : Sp} {s1 : Shared} {vs : List Value} {ns : List Int} (kin : K.In s1.heap) (gl : s1.heap.Ns mainGlobals mg) (nb : s1.heap.Ns builtinsNs mb) (bb : ∀ y : Str, y ≠ "__name__" → mb y = bootBuiltins y)
    (nol : s1.heap.NoLimit) (ge : s1.gens = #[]) (ha : s1.heap.get? a = some { cls := .type "list", data := .seq vs.toArray }) (ia : IntsAre vs ns) (sz : ns.length ≤ sizeLine) (rm : Room k callerA) (F : ∀ B : Heap, K.In B → B.Ns mainGlobals mg → FnG P w K mg B k fa fd [x] sp) (bi : ∀ (s : Shared) (u : Value), BindsTo s fd ⟨[u], []⟩ [(x, u)])
    (hs : ∀ H : Hp, Only H → SqL K H a (ns.map V.int) → sp [.ref a] H (fun v _ => v = .bl true) fun _ _ _ => False) (hx : ∀ H e s', CX0 [] H s1 (fun _ _ _ => False) e s' → False) :
    codeAny (model P w) callerA (.call (.ref fa) ⟨[.ref a], []⟩) (fun r s' => r = .ok (.ret (.bool true)) ∧ OldK s1.heap s'.heap ∧ s'.os = s1.os ∧ AllBare s'.gens) s1 := by
  have lv := ia.length
  have main : ∀ H : Hp, Only H → SqL K H a (ns.map V.int) → HOk P w H s1.heap → (∀ b, H b ≠ none → b = a) → (H a ≠ none → K.lookup a = none) → codeAny (model P w) callerA (.call (.ref fa) ⟨[.ref a], []⟩) (fun r s' => r = .ok (.ret (.bool true)) ∧ OldK s1.heap s'.heap ∧ s'.os = s1.os ∧ AllBare s'.gens) s1 := by
    intro H on sq ok only notK
    have isA : ∀ {b : Addr}, H b ≠ none → s1.heap.get? b = some { cls := .type "list", data := .seq vs.toArray } := fun {b} z => by rw [only b z]; exact ha
    have dct : ∀ {b : Addr} {o : Obj} {es : Array DictEntry} {ep : Nat}, s1.heap.get? b = some o → o.data = .dict es ep → H b = none := fun {b o es ep} e d => Classical.byContradiction fun z => by
      rw [isA z] at e
      cases e
      cases (show Data.seq vs.toArray _ = Data.dict es ep from d)
    have nsp : ∀ {b : Addr} {m : Str → Option Value}, s1.heap.Ns b m → (hidT s1.heap H).Ns b m := fun {b m} z => let ⟨o, es, ep, e, d, r⟩ := z; ⟨o, es, ep, hidT_get e (dct e d), d, r⟩
    have kinB : K.In (hidT s1.heap H) := fun b o e => hidT_get (kin b o e) (Classical.byContradiction fun z => by
      have eb := only b z
      subst eb
      rw [notK z] at e
      cases e)
    have md : Mod K mg (hidT s1.heap H) := ⟨kinB, nsp gl, ⟨mb, nsp nb, bb⟩, let ⟨mc, z1, z2⟩ := nol; ⟨mc, nsp z1, z2⟩⟩
    have e0 : Env0 P w K mg (hidT s1.heap H) callerA [] s1 H := ⟨rfl, md, fun b o e => of_hidT e, Nat.le_of_eq (hidT_size _ _), trivial, fun b z => (List.not_mem_nil (show b ∈ ([] : List Addr) from z)).elim, ok, .of_eq ge⟩
    refine codeAny_mono ((F _ kinB (nsp gl)).run callerA [] s1 H ⟨[.ref a], []⟩ [.ref a] [.ref a] _ _ rm rfl e0 (bi s1 (.ref a)) (.cons rfl .nil) (hs H on sq)) fun r s' q => ?_
    match r, q with
    | .error e, q => exact (hx H e s' q).elim
    | .ok .next, q => exact q.elim
    | .ok .brk, q => exact q.elim
    | .ok .cont, q => exact q.elim
    | .ok (.ret u), ⟨v, H', os, br, un, ok', rv, (q : v = .bl true)⟩ =>
      subst q
      obtain rfl : u = Value.bool true := rv
      refine ⟨rfl, OldK.of_keep fun b o e => ?_, os, br⟩
      cases z : H b with
      | none => exact un.keep b o e z (List.not_mem_nil (a := b)) (List.not_mem_nil (a := b))
      | some u =>
        rcases on b with y | ⟨ob, xs, y⟩
        · rw [z] at y; cases y
        · have e1 := (ok b _ y).1
          rw [e] at e1
          cases e1
          exact (ok' b _ (un.frzs b _ _ y)).1
  cases hk : K.lookup a with
  | some o =>
    have e := kin a o hk
    rw [ha] at e
    cases e
    exact main (fun _ => none) (fun _ => .inl rfl) (.inr ⟨_, vs.toArray, _, hk, rfl, rfl, rfl, by rw [List.size_toArray, lv]; exact sz, by simpa using vals_ints ia⟩) (fun b u z => by cases (show (none : Option HO) = some u from z)) (fun b z => absurd rfl z) fun z => absurd rfl z
  | none =>
    have at_ : ∀ {b : Addr} {u : HO}, (if b = a then some (HO.frz { cls := .type "list", data := .seq vs.toArray } (.lst (ns.map V.int))) else none) = some u → b = a ∧ u = .frz { cls := .type "list", data := .seq vs.toArray } (.lst (ns.map V.int)) := fun {b u} z => by
      by_cases c : b = a
      · rw [if_pos c] at z; cases z; exact ⟨c, rfl⟩
      · rw [if_neg c] at z; cases z
    refine main (fun b => if b = a then some (.frz { cls := .type "list", data := .seq vs.toArray } (.lst (ns.map V.int))) else none) (fun b => ?_) (.inl (.inr ⟨{ cls := .type "list", data := .seq vs.toArray }, if_pos rfl⟩)) (fun b u z => ?_) (fun b z => ?_) fun _ => hk
    · by_cases c : b = a
      · exact .inr ⟨_, _, if_pos c⟩
      · exact .inl (if_neg c)
    · obtain ⟨rfl, rfl⟩ := at_ z
      exact ⟨ha, by rw [List.length_map]; exact sz, vs, _, vals_ints ia, ha⟩
    · exact Classical.byContradiction fun c => z (if_neg c)
/-- the goal that k_head leaves, from the law's promise -/
theorem walkG {l : PySem.W.OpenLaw} {n k : Nat} {q : Program} {loose : List Str} {XP : (Str → Option Value) → Heap → Prop} {YP : World → Heap → Prop} {d : DefRec} {K : Params → PySem.W.Frag} {sp : World → Sp} {x : Str} (hn : l.most = some n) (hz : n ≤ sizeLine) (nd : d.params.defaults = []) (rm : Room k callerA) (hY : ∀ (w : World) (h : Heap), YP w h → (K w.params).In h)
    (F : ∀ (w : World) (mg : Str → Option Value) (fa : Addr) (h : Heap), (K w.params).In h → h.Ns mainGlobals mg → mg d.name = some (.ref fa) → ∃ fd : FuncData, (∀ (s : Shared) (u : Value), BindsTo s fd ⟨[u], []⟩ [(x, u)]) ∧ ∀ B : Heap, (K w.params).In B → B.Ns mainGlobals mg → FnG l.prog w (K w.params) mg B k fa fd [x] (sp w))
    (hs : ∀ (w : World) (H : Hp) (a : Addr) (ns : List Int), ns.length ≤ n → Only H → SqL (K w.params) H a (ns.map V.int) → sp w [.ref a] H (fun v _ => v = .bl true) fun _ _ _ => False) (hx : ∀ (w : World) (H : Hp) (s : Shared) (e : Value) (s' : Shared), CX0 [] H s (fun _ _ _ => False) e s' → False) :
    PySem.W.WalkO q loose XP YP l.row.toRowW d [] (fun f vs => PySem.call f vs) := by
  refine Att.attach_call hn nd fun w s0 s1 mg mb fa o pm cd doc a vs ns G Y ho hd hc hm ob ia ln ge => ?_
  obtain ⟨fd, b, hF⟩ := F w mg fa _ (hY w _ Y) G.T.g hm
  exact callG (hY w _ Y) G.T.g G.T.b G.T.builtins G.T.nolimit ge ob ia (Nat.le_trans ln hz) rm hF b (fun H on sq => hs w H a ns ln on sq) fun H e s' => hx w H s1 e s'
end L2
set_option Elab.async false
set_option linter.all false
set_option maxRecDepth 100000
set_option maxHeartbeats 4000000
/-! str(x) of data; a def in which it may stand; small data -/
namespace L2
open PySem PySem.Spec PyProof.Rows
def strT : PyData → Str
  | .str z => z
  | d => d.shown
def rStrD (K : PySem.W.Frag) : List V → Hp → VK → Prop := fun xs H Q => ∃ v d, xs = [v] ∧ Dp K H v d ∧ d.canLay0 = true ∧ d.showable = true ∧ d.depth ≤ 50 ∧ d.shown.length ≤ sizeLine ∧ Q (.str (strT d)) H
theorem call_strD {X : Cx} (hg : X.A.guards = some []) (hu : X.A.units + 64 < cLine) : CallR X (.type "str") (rStrD X.K) := by
  intro pins s σ H xs us Q I r h
  obtain ⟨v, d, rfl, hd, cl, sh, dp, sz, q⟩ := h
  obtain ⟨u, rfl, ru⟩ := vals1 r
  have far : ∀ a, u = .ref a → strT d = d.shown → wpAny (model X.prog X.w) X.A (call (.type "str") [u]) (EP X pins σ Q) X.xe s := fun a e et => by
    obtain ⟨as, rd⟩ := Dp.reads I d v u hd ru
    subst e
    rw [et] at q
    exact str_of_reads rd sh (PyData.noDict_hsm (PyData.hasDict_of_canLay _ cl)) hg (by omega) (fun _ _ z => z) (fun h' t tk hk => ⟨.str _, H, I.kept hk, ⟨t, rfl⟩, q⟩) sz
  cases hd with
  | non =>
    cases ru
    exact PySem.P.str_of_none ⟨.str _, H, I.tok _, ⟨_, rfl⟩, q⟩
  | bl b =>
    cases ru
    exact PySem.P.str_of_bool ⟨.str _, H, I.tok _, ⟨_, rfl⟩, q⟩
  | int i =>
    obtain ⟨t, rfl⟩ := ru
    have lg : i.natAbs.log2 < 1920 := by simpa [PyData.showable] using sh
    exact PySem.P.str_of_int lg ⟨.str _, H, I.tok _, ⟨_, rfl⟩, q⟩
  | str z =>
    obtain ⟨t, rfl⟩ := ru
    exact PySem.P.str_of_str ⟨.str _, H, I, ⟨_, rfl⟩, q⟩
  | lst hs hx => exact far _ ru rfl
  | tup hs hx => exact far _ ru rfl
end L2
namespace DN
open PySem PySem.Spec PyProof.Rows L2
def gStr : GN := one fun x P => (pyD x).canLay0 = true ∧ (pyD x).showable = true ∧ (pyD x).depth ≤ 50 ∧ (pyD x).shown.length ≤ sizeLine ∧ P (.str (strT (pyD x)))
theorem p_str {K : PySem.W.Frag} : PrimN K (rStrD K) gStr := fun Hm H vs ds P Q l hv q k => by
  obtain ⟨x, rfl, c, sh, dp, sz, p⟩ := of_one q
  cases hv with
  | cons h t =>
    cases t
    exact ⟨_, _, rfl, dp_of (h.le l) c, c, sh, dp, sz, k _ _ Hm H p (.refl l) (.str _)⟩
def gStrI : GN := one fun x P => isI x fun i => i.natAbs.log2 < 1920 ∧ P (.str (toString i))
theorem p_strI {K : PySem.W.Frag} : PrimN K (fun xs H Q => ∃ i, xs = [.int i] ∧ i.natAbs.log2 < 1920 ∧ Q (.str (toString i)) H) gStrI := fun Hm H vs ds P Q l hv q k => by
  obtain ⟨x, rfl, q⟩ := of_one q
  cases hv with
  | cons h t =>
    cases t
    obtain ⟨i, rfl, rfl, g0, g⟩ := rd_I h q
    exact ⟨i, rfl, g0, k _ _ Hm H g (.refl l) (.str _)⟩
section
variable {P : Program} {w : World} {K : PySem.W.Frag} {mg : Str → Option Value} {base : Heap}
/-- a def by its body's reading, where no object's text is under way -/
theorem f_okG {x q : Str} {st : Stmt} {f : Addr} {fd : FuncData} {N ps : List Str} {k : Nat} {B : S} (F : Fun K x q st f fd) (sc : FnScope N ps (defScope st))
    (body : ∀ (cdv : Value) (A : Around) (outer : List PySem.Env) (s : Shared) (H : Hp) (E : XK), Room k (A.deeper (envOfC q (defScope st) s.heap.objs.size f cdv)) → (A.deeper (envOfC q (defScope st) s.heap.objs.size f cdv)).guards = some [] → PSs (cxOf CX0 P w K mg base N q (defScope st) f cdv A outer s H E).nox (defBody st) (tS K E0 (fun _ => False) B)) :
    FnG P w K mg base (k + 1) f fd ps (spP K ps.length (fnP ps.length N.length B)) := by
  refine F.okG sc (fun vs H Q E h => h.1) (fun cdv A outer s H vs Q E hr hg h => ?_)
  obtain ⟨hl, Hm, ds, Pr, l, hd, hf, hq⟩ := h
  refine ⟨_, body cdv A outer s H E hr hg, Hm, _, fp0, _, env0_ok l hd, hf.2, ?_⟩
  refine ⟨fun δ' h σ' Hm' H' fp' s' e' p' => hq _ h _ Hm' H' (s'.new0 e'.sub) .non, fun d δ' h v σ' Hm' H' fp' s' e' p' dv => hq _ h _ Hm' H' (s'.new0 e'.sub) dv, fun _ h => h.elim, fun _ h => h.elim, fun e h => h.elim⟩
end
/-! small data: texts of T, at most L things in each list and tuple, at most n deep -/
inductive Sm (T : Str → Prop) (L : Nat) : Nat → D → Prop
  | non (n : Nat) : Sm T L n .non
  | bl (n : Nat) (b : Bool) : Sm T L n (.bl b)
  | int (n : Nat) (i : Int) : i.natAbs < 2 ^ 64 → Sm T L n (.int i)
  | str (n : Nat) (z : Str) : T z → Sm T L n (.str z)
  | lst (n : Nat) (xs : List D) : xs.length ≤ L → (∀ x ∈ xs, Sm T L n x) → Sm T L (n + 1) (.lst xs)
  | tup (n : Nat) (xs : List D) : xs.length ≤ L → (∀ x ∈ xs, Sm T L n x) → Sm T L (n + 1) (.tup xs)
theorem Sm.mono {T : Str → Prop} {L L' : Nat} (hl : L ≤ L') : ∀ {n m : Nat} {d : D}, Sm T L n d → n ≤ m → Sm T L' m d
  | _, _, _, .non _, _ => .non _
  | _, _, _, .bl _ b, _ => .bl _ b
  | _, _, _, .int _ i h, _ => .int _ i h
  | _, _, _, .str _ z h, _ => .str _ z h
  | _, m + 1, _, .lst n xs h g, hm => .lst m xs (Nat.le_trans h hl) fun x hx => (g x hx).mono hl (Nat.le_of_succ_le_succ hm)
  | _, m + 1, _, .tup n xs h g, hm => .tup m xs (Nat.le_trans h hl) fun x hx => (g x hx).mono hl (Nat.le_of_succ_le_succ hm)
  | _, 0, _, .lst n xs h g, hm => absurd hm (Nat.not_succ_le_zero n)
  | _, 0, _, .tup n xs h g, hm => absurd hm (Nat.not_succ_le_zero n)
theorem Sm.flat {T : Str → Prop} {L n : Nat} {d : D} (h : Sm T L n d) : (∀ C fs, d ≠ .obj C fs) ∧ ∀ es, d ≠ .dit es := by
  cases h <;> exact ⟨nofun, nofun⟩
theorem depL {n : Nat} : ∀ xs : List D, (∀ x ∈ xs, (pyD x).depth ≤ n) → PyData.depthAll (pyL xs) ≤ n
  | [], _ => Nat.zero_le _
  | x :: r, h => by
    simp only [pyL, PyData.depthAll]
    exact Nat.max_le.mpr ⟨h x List.mem_cons_self, depL r fun y hy => h y (List.mem_cons_of_mem _ hy)⟩
theorem layL : ∀ xs : List D, (∀ x ∈ xs, (pyD x).canLay0 = true) → PyData.canLayAll0 (pyL xs) = true
  | [], _ => by simp only [pyL, PyData.canLayAll0]
  | x :: r, h => by
    simp only [pyL, PyData.canLayAll0, Bool.and_eq_true]
    exact ⟨h x List.mem_cons_self, layL r fun y hy => h y (List.mem_cons_of_mem _ hy)⟩
theorem shwL : ∀ xs : List D, (∀ x ∈ xs, (pyD x).showable = true) → PyData.showableAll (pyL xs) = true
  | [], _ => by simp only [pyL, PyData.showableAll]
  | x :: r, h => by
    simp only [pyL, PyData.showableAll, Bool.and_eq_true]
    exact ⟨h x List.mem_cons_self, shwL r fun y hy => h y (List.mem_cons_of_mem _ hy)⟩
theorem pilL {b : Nat} : ∀ xs : List D, (∀ x ∈ xs, (pyD x).shown.length ≤ b) → piled (PyData.shownAll (pyL xs)) ≤ xs.length * (b + 2)
  | [], _ => by simp only [pyL, PyData.shownAll]; rw [piled_nil]; exact Nat.zero_le _
  | x :: r, h => by
    simp only [pyL, PyData.shownAll]
    rw [piled_cons, List.length_cons, Nat.succ_mul]
    have h1 := h x List.mem_cons_self
    have h2 := pilL r fun y hy => h y (List.mem_cons_of_mem _ hy)
    omega
theorem listText_le : ∀ ts : List Str, (listText ts).length ≤ piled ts + 2
  | [] => by decide
  | t :: r => by
    have h := textFrom_length_pos r 1 (("[" : Str) ++ (if (0 : Nat) > 0 then ", " else "" : String) ++ t) (Nat.succ_pos 0)
    have e : ((("[" : Str) ++ (if (0 : Nat) > 0 then ", " else "" : String) ++ t)).length = 1 + t.length := by
      rw [strLen_append, strLen_append]; rfl
    show (textFrom 1 (("[" : Str) ++ (if (0 : Nat) > 0 then ", " else "" : String) ++ t) r ++ "]").length ≤ _
    rw [strLen_append, h, e, piled_cons]
    show 1 + t.length + piled r + 1 ≤ _
    omega
theorem tupleText_le (ts : List Str) : (tupleText ts).length ≤ piled ts + 3 := by
  unfold tupleText
  rw [strLen_append, strLen_append]
  have e1 : ((("(" : String) : Str)).length = 1 := rfl
  have e3 : (((if ts.length == 1 then ",)" else ")" : String) : Str)).length ≤ 2 := by split <;> decide
  rw [e1]
  by_cases h : ts = []
  · subst h
    show 1 + 0 + _ ≤ _
    omega
  · have := join_length_add ts h
    omega
def bdT (L b : Nat) : Nat → Nat
  | 0 => b
  | n + 1 => L * (bdT L b n + 2) + bdT L b n + 3
theorem bdT_le (L b : Nat) : ∀ n, b ≤ bdT L b n
  | 0 => Nat.le_refl _
  | n + 1 => by
    have := bdT_le L b n
    show b ≤ L * (bdT L b n + 2) + bdT L b n + 3
    omega
structure SmT (T : Str → Prop) (b : Nat) : Prop where
  ok : ∀ z, T z → PySem.PyData.strOk z = true
  len : ∀ z, T z → (reprText z).length ≤ b
  bg : 22 ≤ b
section
variable {T : Str → Prop} {L b : Nat}
theorem Sm.depth : ∀ {n : Nat} {d : D}, Sm T L n d → (pyD d).depth ≤ n
  | _, _, .non _ => by simp only [pyD, PyData.depth]; exact Nat.zero_le _
  | _, _, .bl _ _ => by simp only [pyD, PyData.depth]; exact Nat.zero_le _
  | _, _, .int _ _ _ => by simp only [pyD, PyData.depth]; exact Nat.zero_le _
  | _, _, .str _ _ _ => by simp only [pyD, PyData.depth]; exact Nat.zero_le _
  | _, _, .lst n xs _ g => by simp only [pyD, PyData.depth]; exact Nat.succ_le_succ (depL xs fun x hx => (g x hx).depth)
  | _, _, .tup n xs _ g => by simp only [pyD, PyData.depth]; exact Nat.succ_le_succ (depL xs fun x hx => (g x hx).depth)
theorem Sm.lay (t : SmT T b) : ∀ {n : Nat} {d : D}, Sm T L n d → (pyD d).canLay0 = true
  | _, _, .non _ => by simp only [pyD, PyData.canLay0]
  | _, _, .bl _ _ => by simp only [pyD, PyData.canLay0]
  | _, _, .int _ _ _ => by simp only [pyD, PyData.canLay0]
  | _, _, .str _ z h => by simp only [pyD, PyData.canLay0]; exact t.ok z h
  | _, _, .lst n xs _ g => by simp only [pyD, PyData.canLay0]; exact layL xs fun x hx => (g x hx).lay t
  | _, _, .tup n xs _ g => by simp only [pyD, PyData.canLay0]; exact layL xs fun x hx => (g x hx).lay t
theorem log_small {i : Int} (h : i.natAbs < 2 ^ 64) : i.natAbs.log2 < 1920 := by
  by_cases z : i.natAbs = 0
  · rw [z]; decide
  · exact Nat.lt_trans ((Nat.log2_lt z).mpr h) (by decide)
theorem Sm.shw : ∀ {n : Nat} {d : D}, Sm T L n d → (pyD d).showable = true
  | _, _, .non _ => by simp only [pyD, PyData.showable]
  | _, _, .bl _ _ => by simp only [pyD, PyData.showable]
  | _, _, .int _ i h => by simp only [pyD, PyData.showable]; exact decide_eq_true (log_small h)
  | _, _, .str _ z h => by simp only [pyD, PyData.showable]
  | _, _, .lst n xs _ g => by simp only [pyD, PyData.showable]; exact shwL xs fun x hx => (g x hx).shw
  | _, _, .tup n xs _ g => by simp only [pyD, PyData.showable]; exact shwL xs fun x hx => (g x hx).shw
theorem Sm.pl (t : SmT T b) {n : Nat} {d : D} (h : Sm T L n d) (hn : n ≤ 60) : Pl d := by
  unfold Pl SeqAt.shaped
  rw [h.lay t, Bool.true_and, decide_eq_true_eq]
  exact Nat.le_trans h.depth (by omega)
theorem Sm.len (t : SmT T b) : ∀ {n : Nat} {d : D}, Sm T L n d → (pyD d).shown.length ≤ bdT L b n
  | n, _, .non _ => by
    have h1 := bdT_le L b n
    have h2 := t.bg
    simp only [pyD, PyData.shown]
    exact Nat.le_trans (show (("None" : String) : Str).length ≤ 4 by decide) (by omega)
  | n, _, .bl _ c => by
    have h1 := bdT_le L b n
    have h2 := t.bg
    simp only [pyD, PyData.shown]
    cases c
    · exact Nat.le_trans (show (("False" : String) : Str).length ≤ 5 by decide) (by omega)
    · exact Nat.le_trans (show (("True" : String) : Str).length ≤ 5 by decide) (by omega)
  | n, _, .int _ i h => by
    have h1 := bdT_le L b n
    have h2 := t.bg
    simp only [pyD, PyData.shown]
    have e := int_text_length_le10 (a := i) (k := 20) (by decide) (Nat.lt_trans h (by decide))
    show (Str.ofString (toString i)).length ≤ _
    rw [PySem.ofString_length]
    omega
  | n, _, .str _ z h => by
    have h1 := bdT_le L b n
    simp only [pyD, PyData.shown]
    exact Nat.le_trans (t.len z h) h1
  | _, _, .lst n xs hl g => by
    simp only [pyD, PyData.shown]
    have h1 := listText_le (PyData.shownAll (pyL xs))
    have h2 := pilL xs fun x hx => (g x hx).len t
    have h3 : xs.length * (bdT L b n + 2) ≤ L * (bdT L b n + 2) := Nat.mul_le_mul_right _ hl
    show _ ≤ L * (bdT L b n + 2) + bdT L b n + 3
    omega
  | _, _, .tup n xs hl g => by
    simp only [pyD, PyData.shown]
    have h1 := tupleText_le (PyData.shownAll (pyL xs))
    have h2 := pilL xs fun x hx => (g x hx).len t
    have h3 : xs.length * (bdT L b n + 2) ≤ L * (bdT L b n + 2) := Nat.mul_le_mul_right _ hl
    show _ ≤ L * (bdT L b n + 2) + bdT L b n + 3
    omega
theorem Sm.str_ok (t : SmT T b) {n : Nat} {d : D} {P : D → Prop} (h : Sm T L n d) (hn : n ≤ 50) (hb : bdT L b n ≤ sizeLine) (p : P (.str (strT (pyD d)))) : gStr [d] P :=
  ⟨h.lay t, h.shw, Nat.le_trans h.depth hn, Nat.le_trans (h.len t) hb, p⟩
end
end DN
set_option Elab.async false
set_option linter.all false
set_option maxRecDepth 100000
set_option maxHeartbeats 4000000
/-! slices; small data, told by a check; promises with a purse -/
namespace DN
open PySem PySem.Spec PyProof.Rows L2 TKS
theorem cut_to {α : Type} (xs : List α) (j : Nat) : cutD xs none (some ((j : Nat) : Int)) = xs.take j := by
  unfold cutD
  rw [HT.sIx_nat, HT.sIx_none, List.drop_zero, Nat.sub_zero]
  by_cases h : j ≤ xs.length
  · rw [Nat.min_eq_left h]
  · rw [Nat.min_eq_right (by omega), List.take_length, List.take_of_length_le (by omega)]
theorem cut_from {α : Type} (xs : List α) (j : Nat) : cutD xs (some ((j : Nat) : Int)) none = xs.drop j := by
  unfold cutD
  rw [HT.sIx_nat, HT.sIx_none]
  by_cases h : j ≤ xs.length
  · rw [Nat.min_eq_left h, List.take_of_length_le (by rw [List.length_drop]; omega)]
  · rw [Nat.min_eq_right (by omega), Nat.sub_self, List.take_zero, List.drop_eq_nil_iff.mpr (by omega)]
theorem cut_mid {α : Type} (xs : List α) (i j : Nat) : cutD xs (some ((i : Nat) : Int)) (some ((j : Nat) : Int)) = (xs.take j).drop i := by
  unfold cutD
  rw [HT.sIx_nat, HT.sIx_nat, List.drop_take]
  by_cases hi : i ≤ xs.length
  · rw [Nat.min_eq_left hi]
    by_cases hj : j ≤ xs.length
    · rw [Nat.min_eq_left hj]
    · rw [Nat.min_eq_right (by omega), List.take_of_length_le (by rw [List.length_drop]; omega), List.take_of_length_le (by rw [List.length_drop]; omega)]
  · rw [Nat.min_eq_right (by omega : xs.length ≤ i), List.drop_eq_nil_iff.mpr (Nat.le_refl _), List.drop_eq_nil_iff.mpr (by omega), List.take_nil, List.take_nil]
theorem sub_take {α : Type} {P : α → Prop} {xs : List α} (h : ∀ x ∈ xs, P x) (n : Nat) : ∀ x ∈ xs.take n, P x := fun x hx => h x (List.mem_of_mem_take hx)
theorem sub_drop {α : Type} {P : α → Prop} {xs : List α} (h : ∀ x ∈ xs, P x) (n : Nat) : ∀ x ∈ xs.drop n, P x := fun x hx => h x (List.mem_of_mem_drop hx)
theorem sub_app {α : Type} {P : α → Prop} {xs ys : List α} (h : ∀ x ∈ xs, P x) (g : ∀ x ∈ ys, P x) : ∀ x ∈ xs ++ ys, P x := fun x hx => (List.mem_append.mp hx).elim (h x) (g x)
/-- small data, told by a check -/
def smB (U : List Str) (L : Nat) : Nat → D → Bool
  | _, .non => true
  | _, .bl _ => true
  | _, .int i => decide (i.natAbs < 2 ^ 64)
  | _, .str z => decide (z ∈ U)
  | n + 1, .lst xs => decide (xs.length ≤ L) && xs.all (smB U L n)
  | n + 1, .tup xs => decide (xs.length ≤ L) && xs.all (smB U L n)
  | _, _ => false
theorem smB_ok {U : List Str} {L : Nat} : ∀ {n : Nat} {d : D}, smB U L n d = true → Sm (· ∈ U) L n d
  | n, .non, _ => .non n
  | n, .bl b, _ => .bl n b
  | n, .int i, h => .int n i (by
    cases n with
    | zero => exact of_decide_eq_true h
    | succ n => exact of_decide_eq_true h)
  | n, .str z, h => .str n z (by
    cases n with
    | zero => exact of_decide_eq_true h
    | succ n => exact of_decide_eq_true h)
  | n + 1, .lst xs, h => by
    have h : (decide (xs.length ≤ L) && xs.all (smB U L n)) = true := h
    rw [Bool.and_eq_true, decide_eq_true_eq, List.all_eq_true] at h
    exact .lst n xs h.1 fun x hx => smB_ok (h.2 x hx)
  | n + 1, .tup xs, h => by
    have h : (decide (xs.length ≤ L) && xs.all (smB U L n)) = true := h
    rw [Bool.and_eq_true, decide_eq_true_eq, List.all_eq_true] at h
    exact .tup n xs h.1 fun x hx => smB_ok (h.2 x hx)
  | 0, .lst _, h => by cases h
  | 0, .tup _, h => by cases h
  | 0, .dic _, h => by cases h
  | n + 1, .dic _, h => by cases h
  | 0, .dit _, h => by cases h
  | n + 1, .dit _, h => by cases h
  | 0, .obj _ _, h => by cases h
  | n + 1, .obj _ _, h => by cases h
  | 0, .scr _, h => by cases h
  | n + 1, .scr _, h => by cases h
theorem smT_of {U : List Str} {b : Nat} (hb : 22 ≤ b) (h : (U.all fun z => PySem.PyData.strOk z && decide ((reprText z).length ≤ b)) = true) : SmT (· ∈ U) b := by
  rw [List.all_eq_true] at h
  refine ⟨fun z hz => ?_, fun z hz => ?_, hb⟩
  · have := h z hz
    rw [Bool.and_eq_true] at this
    exact this.1
  · have := h z hz
    rw [Bool.and_eq_true, decide_eq_true_eq] at this
    exact this.2
theorem atI_mem {α : Type} {xs : List α} {j : Nat} (h : j < xs.length) : ∃ x, atI xs ((j : Nat) : Int) = some x ∧ x ∈ xs := ⟨xs[j], atI_nat (List.getElem?_eq_getElem h), List.getElem_mem h⟩
/-- what spU asks, of a stronger promise -/
theorem spU_imp {K : PySem.W.Frag} {n : Nat} {f g : UF} (h : ∀ k ds P, g k ds P noR → f k ds P noR) : ∀ vs H Q E, spU K n g vs H Q E → spU K n f vs H Q E := fun vs H Q E ⟨p, vs', e, l, Hm, ds, P, k, p0, p1, p2, a1, a2, a3, a4, a5, q, z⟩ =>
  ⟨p, vs', e, l, Hm, ds, P, k, p0, p1, p2, a1, a2, a3, a4, a5, h k ds P q, z⟩
theorem spP_imp {K : PySem.W.Frag} {n : Nat} {f g : PF} (h : ∀ ds P, g ds P noR → f ds P noR) : ∀ vs H Q E, spP K n g vs H Q E → spP K n f vs H Q E := fun vs H Q E ⟨l, Hm, ds, P, a1, a2, q, z⟩ => ⟨l, Hm, ds, P, a1, a2, h ds P q, z⟩
/-- nothing is promised of what nobody asks -/
theorem spU_none {K : PySem.W.Frag} {n : Nat} {vs : List V} {H : Hp} {Q : VK} {E : XK} (h : spU K n (fun _ _ _ _ => False) vs H Q E) : False := by
  obtain ⟨p, vs', e, l, Hm, ds, P, k, p0, p1, p2, a1, a2, a3, a4, a5, q, z⟩ := h
  exact q
/-- the law's promise: its script is a list of ints -/
def spScr (K : PySem.W.Frag) : Sp := fun vs H Q _ => ∃ (a : Addr) (ns : List Int), vs = [.ref a] ∧ SqL K H a (ns.map V.int) ∧ ns.length ≤ 63 ∧ ∀ H', Q (.bl true) H'
theorem spScr_of {K : PySem.W.Frag} {f : PF} (h : ∀ ns : List Int, ns.length ≤ 63 → ∀ P : D → Prop, P (.bl true) → f [.scr ns] P noR) : ∀ vs H Q E, spScr K vs H Q E → spP K 1 f vs H Q E := fun vs H Q E ⟨a, ns, e, hS, hl, q⟩ => by
  subst e
  refine ⟨rfl, H, [.scr ns], fun d => d = .bl true, Le.refl H, .cons (.scr hS) .nil, h ns hl _ rfl, fun d e v Hm' H' n dv => ?_⟩
  subst e
  cases dv
  exact q H'
theorem perm_vals {zs : List V} {ws : List Value} (h : Vals zs ws) (p : List Nat) : Vals (permL p zs) (permL p ws) := by
  have at_ : ∀ {zs : List V} {ws : List Value} (i : Nat), Vals zs ws → (zs[i]? = none ∧ ws[i]? = none) ∨ ∃ v u, zs[i]? = some v ∧ ws[i]? = some u ∧ RelV v u := by
    intro zs ws i h
    induction h generalizing i with
    | nil => exact .inl ⟨rfl, rfl⟩
    | cons r _ ih =>
      cases i with
      | zero => exact .inr ⟨_, _, rfl, rfl, r⟩
      | succ i => exact ih i
  induction p with
  | nil => exact .nil
  | cons i r ih =>
    unfold permL
    rw [List.filterMap_cons, List.filterMap_cons]
    rcases at_ i h with ⟨e1, e2⟩ | ⟨v, u, e1, e2, r⟩
    · rw [e1, e2]; exact ih
    · rw [e1, e2]; exact .cons r ih
section
variable {P : Program} {w : World} {K : PySem.W.Frag} {mg : Str → Option Value} {h : Heap}
theorem dfK_perm {base : Heap} {x : Str} {st : Stmt} {k : Nat} {ps ks : List Str} {sp : Sp} {p : List Nat} (F : Fn K mg x st) (hb : ∀ (kV doc pm : Value) (an : Option Addr) (cdv ct : Value) (us ws : List Value), us.length = 0 → ws.length = ks.length → bindArgs (PySem.W.fnOf x x (defArgs st) (defBody st) (defScope st) .none kV doc pm an cdv ct) ⟨us, ks.zip ws⟩ = pure (ps.zip (permL p ws)))
    (ok : ∀ (f : Addr) (fd : FuncData), Fun K x x st f fd → FnOk P w K mg base CX0 k f fd ps sp) : DfK P w K mg base x k ps ks sp (permL p) := Fn.dfK F (fun _ ws => permL p ws) (fun _ z => perm_vals z p) hb ok
theorem fn_at {x : Str} {st : Stmt} {f : Addr} {oc : Value} {od an : Option Addr} {osl : Array (Option Value)} {kV doc pm cdv ct : Value} (X : K.In h) (G : h.Ns mainGlobals mg) (a : PySem.W.nsIn K mainGlobals x = some (some (.ref f)))
    (l : K.lookup f = some ⟨oc, od, .func (PySem.W.fnOf x x (defArgs st) (defBody st) (defScope st) .none kV doc pm an cdv ct), osl⟩) (c : PySem.W.codeIn K cdv x = true) (k : PySem.W.keepIn K (.ref f) = true) : Fn K mg x st := ⟨_, _, fun_mk l c k, PySem.W.mg_of X G a⟩
theorem cls_at {C : Addr} (_X : K.In h) (pg : PySem.W.plainGet K C Str.empty = true) (hd : PySem.W.hasDictIn K C = true) (po : PySem.W.plainOver K C = true) (sa : PySem.W.findIn K (.ref C) "__setattr__" = some (some (.builtin "object.__setattr__"))) : Cls K C := ⟨pg, hd, po, sa⟩
theorem meth_at {x q : Str} {st : Stmt} {C f : Addr} {oc : Value} {od an : Option Addr} {osl : Array (Option Value)} {kV doc pm cdv ct : Value} (_X : K.In h) (p : PySem.W.findIn K (.ref C) x = some (some (.ref f))) (i : PySem.W.isFn K (.ref f) = true)
    (l : K.lookup f = some ⟨oc, od, .func (PySem.W.fnOf x q (defArgs st) (defBody st) (defScope st) .none kV doc pm an cdv ct), osl⟩) (c : PySem.W.codeIn K cdv q = true) (k : PySem.W.keepIn K (.ref f) = true) : ∃ (f : Addr) (fd : FuncData), Meth K C x f ∧ Fun K x q st f fd := ⟨_, _, ⟨p, i, k⟩, fun_mk l c k⟩
theorem init_at {q : Str} {st : Stmt} {C f : Addr} {oc : Value} {od an : Option Addr} {osl : Array (Option Value)} {kV doc pm cdv ct : Value} (_X : K.In h) (m : PySem.W.makesIn K C = true) (p : PySem.W.findIn K (.ref C) "__init__" = some (some (.ref f))) (i : PySem.W.isFn K (.ref f) = true) (kc : PySem.W.keepIn K (.ref C) = true)
    (l : K.lookup f = some ⟨oc, od, .func (PySem.W.fnOf "__init__" q (defArgs st) (defBody st) (defScope st) .none kV doc pm an cdv ct), osl⟩) (c : PySem.W.codeIn K cdv q = true) (k : PySem.W.keepIn K (.ref f) = true) : ∃ (f : Addr) (fd : FuncData), Mk K C f ∧ Fun K "__init__" q st f fd := ⟨_, _, ⟨m, p, i, kc⟩, fun_mk l c k⟩
theorem glob_int {x : Str} {n : Int} {t : Tok} (X : K.In h) (G : h.Ns mainGlobals mg) (a : PySem.W.nsIn K mainGlobals x = some (some (.int n t))) : GlobD K mg x (.int n) := ⟨.int n, _, PySem.W.mg_of X G a, ⟨_, rfl⟩, fun _ => .int n⟩
theorem glob_str {x z : Str} {t : Tok} (X : K.In h) (G : h.Ns mainGlobals mg) (a : PySem.W.nsIn K mainGlobals x = some (some (.str z t))) : GlobD K mg x (.str z) := ⟨.str z, _, PySem.W.mg_of X G a, ⟨_, rfl⟩, fun _ => .str z⟩
theorem glob_tup {x : Str} {a : Addr} {od : Option Addr} {its : Array Value} {n : Nat} {sl : Array (Option Value)} (zs : List Str) (X : K.In h) (G : h.Ns mainGlobals mg) (g : PySem.W.nsIn K mainGlobals x = some (some (.ref a))) (l : K.lookup a = some ⟨.type "tuple", od, .seq its n, sl⟩) (z : its.size ≤ sizeLine) (r : Vals (zs.map V.str) its.toList) :
    GlobD K mg x (.tup (zs.map D.str)) := ⟨.ref a, _, PySem.W.mg_of X G g, rfl, fun H => .tup (.inr ⟨_, _, _, l, rfl, rfl, z, r⟩) (.strs zs)⟩
end
end DN
set_option Elab.async false
set_option linter.all false
set_option maxRecDepth 100000
set_option maxHeartbeats 4000000
namespace Lw
open PySem PySem.Spec PyProof.Rows L2 TKS DN
variable {C : Nat → Addr}
/-- the texts that the law draws -/
def txts : List Str := ["m", "b", "ab", "c", "z", "d", "momentum", "then", "back", "later", "earlier", "with", "at", "", "a", "At", "until", "nineletrs", "x1", "a b", " a", "a ", " ", "a{", "a~b", "then ", " with"]
theorem txts_ok : SmT (· ∈ txts) 30 := smT_of (by decide) (by decide +kernel)
abbrev Sv := Sm (· ∈ txts)
def oddL : List D := (([D.non, .bl true, .int 0, .int 7, .str "", .str "a", .str "at", .str "then", .str "with", .str "At", .str "until", .str "nineletrs", .str "x1", .str "a b", .lst [], .tup []] ++ [.str " a", .str "a ", .str " ", .str "a{", .str "a~b", .str "then ", .str " with"]) ++ [.tup [.str "at"], .tup [.str "at", .str "a"], .lst [.str "at", .str "a"], .tup [.str "then", .str "b", .str "c"]]) ++ [.tup [.str "a", .str "at"], .tup [.str "back", .str "m"], .tup [.str "with", .non]]
theorem spec__law_odd {k : Nat} {P : D → Nat → Prop} {R : Er → Prop} (hk : k < 2 ^ 38) (h : ∀ d, Sv 3 1 d → P d (k + 1)) : f__law_odd C k [] P R := by
  refine ⟨rfl, ?_⟩
  refine ⟨szl (Nat.zero_le _), szl (Nat.zero_le _), szl (show 16 ≤ 1000 by decide), szl (show 7 ≤ 1000 by decide), szl (show 16 + 7 ≤ 1000 by decide), ?_⟩
  refine ⟨szl (show 1 ≤ 1000 by decide), szl (show 2 ≤ 1000 by decide), szl (show 2 ≤ 1000 by decide), szl (show 3 ≤ 1000 by decide), szl (show 4 ≤ 1000 by decide), szl (show 23 + 4 ≤ 1000 by decide), ?_⟩
  refine ⟨szl (show 2 ≤ 1000 by decide), szl (show 2 ≤ 1000 by decide), szl (show 2 ≤ 1000 by decide), szl (show 3 ≤ 1000 by decide), szl (show 27 + 3 ≤ 1000 by decide), ?_⟩
  refine ⟨⟨show (1 : Int) ≤ 30 by decide, show (30 : Int) < 2 ^ 62 by decide⟩, by omega, fun d d0 d1 => ?_⟩
  obtain ⟨j, rfl⟩ := Int.eq_ofNat_of_zero_le d0
  have d1 : ((j : Nat) : Int) < 30 := d1
  have hj : j < 30 := by omega
  show optD (atI oddL ((j : Nat) : Int)) _
  obtain ⟨x, e, hx⟩ := atI_mem (xs := oddL) (j := j) (show j < 30 from hj)
  rw [e]
  refine h x (smB_ok ?_)
  have all : oddL.all (smB txts 3 1) = true := by decide +kernel
  exact List.all_eq_true.mp all x hx
/-! _law_drawn -/
def wordsW : List D := [.str "then", .str "then", .str "back", .str "later", .str "earlier", .str "with", .str "at"]
def GoodS (x : D) : Prop := ∃ w m, x = .tup [.str w, .str m] ∧ w ∈ txts ∧ m ∈ txts
abbrev drB : DN.S := appS 3 (apN mkT (consW (ap2 gIxA (vr 2) (drawW 0 (ret (.int 7)))) (consW (ap2 gIxA (vr 1) (drawW 0 (apN gLenA (consW (vr 1) (nilW))))) (nilW))))
theorem words_in : ∀ x ∈ wordsW, ∃ w, x = .str w ∧ w ∈ txts := by
  intro x hx
  have all : (wordsW.all fun x => match x with
    | .str w => decide (w ∈ txts)
    | _ => false) = true := by decide +kernel
  have := List.all_eq_true.mp all x hx
  cases x with
  | str w => exact ⟨w, rfl, of_decide_eq_true this⟩
  | _ => cases this
theorem drawn_loop {ns : List D} (hs : ∀ x ∈ ns, ∃ w, x = .str w ∧ w ∈ txts) (n0 : 0 < ns.length) (n7 : ns.length ≤ 7) {P0 : Outs} {K0 : Nat} (hK : K0 < 2 ^ 38) : ∀ (l acc : List D) (k : Nat), acc.length + l.length ≤ 15 → (∀ x ∈ acc, GoodS x) → k + 2 * l.length ≤ K0 →
    (∀ acc' k', acc'.length ≤ 15 → (∀ x ∈ acc', GoodS x) → k' ≤ K0 → P0.nx [.ow (.pur k'), .sh (.lst ns), .sh (.lst wordsW), .ow (.lst acc'), .no]) → ∀ δ, clr [4] δ = [.ow (.pur k), .sh (.lst ns), .sh (.lst wordsW), .ow (.lst acc), .no] → forL (nameT 4) drB [4] P0 l δ
  | [], acc, k, hl, ha, hk, h, δ, e => by
    show P0.nx (clr [4] δ)
    rw [e]
    exact h acc k hl ha hk
  | d :: r, acc, k, hl, ha, hk, h, δ, e => by
    rw [List.length_cons] at hl hk
    show nameT 4 d (clr [4] δ) _
    rw [e]
    refine ⟨⟨show (1 : Int) ≤ 7 by decide, show (7 : Int) < 2 ^ 62 by decide⟩, by omega, fun d d0 d1 => ?_⟩
    obtain ⟨i, rfl⟩ := Int.eq_ofNat_of_zero_le d0
    have d1 : ((i : Nat) : Int) < 7 := d1
    show optD (atI wordsW ((i : Nat) : Int)) _
    obtain ⟨x, ex, hx⟩ := atI_mem (xs := wordsW) (j := i) (show i < 7 by omega)
    rw [ex]
    obtain ⟨w, rfl, hw⟩ := words_in x hx
    refine ⟨⟨show (1 : Int) ≤ ((ns.length : Nat) : Int) by omega, show ((ns.length : Nat) : Int) < 2 ^ 62 by omega⟩, by omega, fun d d0 d1 => ?_⟩
    obtain ⟨j, rfl⟩ := Int.eq_ofNat_of_zero_le d0
    have d1 : ((j : Nat) : Int) < ((ns.length : Nat) : Int) := d1
    show optD (atI ns ((j : Nat) : Int)) _
    obtain ⟨y, ey, hy⟩ := atI_mem (xs := ns) (j := j) (by omega)
    rw [ey]
    obtain ⟨m, rfl, hm⟩ := hs y hy
    refine ⟨szl (show 2 ≤ 1000 by decide), szlt (by omega), ?_⟩
    refine drawn_loop hs n0 n7 hK r (acc ++ [.tup [.str w, .str m]]) (k + 1 + 1) (by rw [List.length_append, List.length_singleton]; omega) (fun z hz => ?_) (by omega) h _ rfl
    rcases List.mem_append.mp hz with hz | hz
    · exact ha z hz
    · rw [List.mem_singleton.mp hz]
      exact ⟨w, m, rfl, hw, hm⟩
theorem good_sm {xs : List D} (h : ∀ x ∈ xs, GoodS x) (hl : xs.length ≤ 15) : Sv 15 2 (.tup xs) := by
  refine .tup 1 xs hl fun x hx => ?_
  obtain ⟨w, m, rfl, hw, hm⟩ := h x hx
  refine .tup 0 _ (show 2 ≤ 15 by decide) fun y hy => ?_
  rcases List.mem_cons.mp hy with rfl | hy
  · exact .str 0 w hw
  · rw [List.mem_singleton.mp hy]
    exact .str 0 m hm
abbrev drR : DN.S := seqS (setS 2 (apN mkL (consW (ret (.str "then")) (consW (ret (.str "then")) (consW (ret (.str "back")) (consW (ret (.str "later")) (consW (ret (.str "earlier")) (consW (ret (.str "with")) (consW (ret (.str "at")) (nilW)))))))))) <|
  seqS (setO (okL (consW (apN mkT (consW (ret (.str "at")) (consW (ap2 gIxA (vr 1) (ret (.int 0))) (nilW)))) (nilW))) 3) <|
  seqS (forS (itR1 (consW (drawW 0 (ret (.int 14))) (nilW))) (nameT 4) drB [4]) <|
  retS (apN qTup (consW (vr 3) (nilW)))
theorem drawn_rest {ns : List D} (hs : ∀ x ∈ ns, ∃ w, x = .str w ∧ w ∈ txts) (n0 : 0 < ns.length) (n7 : ns.length ≤ 7) {k : Nat} {P : D → Nat → Prop} {R : Er → Prop} (hk : k < 2 ^ 37) (h : ∀ d k', Sv 15 2 d → k' ≤ k + 30 → P d k') :
    drR [.ow (.pur k), .sh (.lst ns), .no, .no, .no] { nx := fun δ => isPur (slot δ 0) fun k' => P .non k', rt := fun d δ => isPur (slot δ 0) fun k' => P d k', er := R } := by
  refine ⟨szl (show 7 ≤ 1000 by decide), ?_⟩
  show optD (atI ns ((0 : Nat) : Int)) _
  obtain ⟨y, ey, hy⟩ := atI_mem (xs := ns) (j := 0) n0
  rw [ey]
  obtain ⟨m, rfl, hm⟩ := hs y hy
  refine ⟨szl (show 2 ≤ 1000 by decide), szl (show 1 ≤ 1000 by decide), (show 3 < 5 by decide), ?_⟩
  refine ⟨⟨show (1 : Int) ≤ 14 by decide, show (14 : Int) < 2 ^ 62 by decide⟩, by omega, fun d d0 d1 => ?_⟩
  obtain ⟨i, rfl⟩ := Int.eq_ofNat_of_zero_le d0
  have d1 : ((i : Nat) : Int) < 14 := d1
  refine ⟨⟨show -(2 ^ 62) ≤ ((i : Nat) : Int) by omega, show ((i : Nat) : Int) < 2 ^ 62 by omega⟩, ?_⟩
  have len : (rngD 0 (((i : Nat) : Int)).toNat).length = i := by
    unfold rngD
    rw [List.length_map, List.length_range, Int.toNat_natCast]
  refine drawn_loop hs n0 n7 (K0 := k + 30) (by omega) _ [.tup [.str "at", .str m]] (k + 1) (by rw [len, List.length_singleton]; omega) (fun x hx => ?_) (by rw [len]; omega) (fun acc k' hl ha hk' => ?_) _ rfl
  · rw [List.mem_singleton.mp hx]
    exact ⟨"at", m, rfl, by decide +kernel, hm⟩
  · exact h _ k' (good_sm ha hl) hk'
theorem spec__law_drawn {k : Nat} {P : D → Nat → Prop} {R : Er → Prop} (hk : k < 2 ^ 36) (h : ∀ d k', Sv 15 2 d → k' ≤ k + 31 → P d k') : f__law_drawn C k [] P R := by
  refine ⟨rfl, ?_⟩
  refine ⟨szl (show 7 ≤ 1000 by decide), ⟨show (1 : Int) ≤ 7 by decide, show (7 : Int) < 2 ^ 62 by decide⟩, by omega, fun d d0 d1 => ?_⟩
  obtain ⟨i, rfl⟩ := Int.eq_ofNat_of_zero_le d0
  have d1 : ((i : Nat) : Int) < 7 := d1
  have e : (1 : Int) + ((i : Nat) : Int) = ((1 + i : Nat) : Int) := by omega
  show drR [.ow (.pur (k + 1)), .sh (.lst (DN.cutD [.str "m", .str "b", .str "ab", .str "c", .str "z", .str "d", .str "momentum"] none (some ((1 : Int) + ((i : Nat) : Int))))), .no, .no, .no] _
  rw [e, cut_to]
  have all : ∀ x ∈ ([.str "m", .str "b", .str "ab", .str "c", .str "z", .str "d", .str "momentum"] : List D), ∃ w, x = .str w ∧ w ∈ txts := fun x hx => by
    have all : (([.str "m", .str "b", .str "ab", .str "c", .str "z", .str "d", .str "momentum"] : List D).all fun x => match x with
      | .str w => decide (w ∈ txts)
      | _ => false) = true := by decide +kernel
    have := List.all_eq_true.mp all x hx
    cases x with
    | str w => exact ⟨w, rfl, of_decide_eq_true this⟩
    | _ => cases this
  refine drawn_rest (sub_take all _) ?_ ?_ (by omega) fun d k' hd hk' => h d k' hd (by omega)
  · rw [List.length_take]
    show 0 < min (1 + i) 7
    omega
  · rw [List.length_take]
    show min (1 + i) 7 ≤ 7
    omega
end Lw
set_option Elab.async false
set_option linter.all false
set_option maxRecDepth 100000
set_option maxHeartbeats 4000000
namespace Lw
open PySem PySem.Spec PyProof.Rows L2 TKS DN
section
variable {P : Program} {w : World} {K : PySem.W.Frag} {mg : Str → Option Value} {base : Heap} {C : Nat → Addr}
def d__law_bent (C : Nat → Addr) (rec : UF) : S :=
  seqS (ifS (orT (notT (truT (isiW "tuple" (vr 1)))) (orT (tst (ap2 (gEqA false) (vr 1) (apN mkT (nilW)))) (tst (ap2 (gEqA false) (drawW 0 (ret (.int 12))) (ret (.int 0)))))) (retS (callU (f__law_odd C) 0 (nilW))) (skipS)) <|
  seqS (setS 2 (drawW 0 (apN gLenA (consW (vr 1) (nilW))))) <|
  seqS (setS 3 (drawW 0 (ret (.int 8)))) <|
  seqS (ifS (tst (ap2 (gEqA false) (vr 3) (ret (.int 0)))) (retS (ap2 gPlus (slW gCutA (vr 1) (ret none) (partW (vr 2))) (slW gCutA (vr 1) (partW (ap2 gPlus (vr 2) (ret (.int 1)))) (ret none)))) (skipS)) <|
  seqS (ifS (tst (ap2 (gEqA false) (vr 3) (ret (.int 1)))) (retS (ap2 gPlus (slW gCutA (vr 1) (ret none) (partW (ap2 gPlus (vr 2) (ret (.int 1))))) (slW gCutA (vr 1) (partW (vr 2)) (ret none)))) (skipS)) <|
  seqS (ifS (tst (ap2 (gEqA false) (vr 3) (ret (.int 2)))) (seqS (setS 4 (ap1 gRevT (slW gCutA (vr 1) (partW (vr 2)) (partW (ap2 gPlus (vr 2) (ret (.int 2))))))) <|
  retS (ap2 gPlus (ap2 gPlus (slW gCutA (vr 1) (ret none) (partW (vr 2))) (vr 4)) (slW gCutA (vr 1) (partW (ap2 gPlus (vr 2) (ret (.int 2)))) (ret none)))) (skipS)) <|
  seqS (ifS (tst (ap2 (gEqA false) (vr 3) (ret (.int 3)))) (retS (apN gList (consW (vr 1) (nilW)))) (skipS)) <|
  retS (ap2 gPlus (ap2 gPlus (slW gCutA (vr 1) (ret none) (partW (vr 2))) (apN mkT (consW (callU rec 0 (consW (ap2 gIxA (vr 1) (vr 2)) (nilW))) (nilW)))) (slW gCutA (vr 1) (partW (ap2 gPlus (vr 2) (ret (.int 1)))) (ret none)))
theorem fn__law_bent (T : Txt K mg) (A : Wds K mg) (B : Kls K mg C) {L : Nat} (hL : 3 ≤ L) {rec : UF} (hlen : ∀ k ds P R, rec k ds P R → ds.length = 1) (G__law_bent : Df P w K mg base "_law_bent" L ["purse", "value"] (spU K 1 rec)) (G__law_draw : Df P w K mg base "_law_draw" 2 ["purse", "out_of"] spDraw) (G__law_odd : Df P w K mg base "_law_odd" 3 ["purse"] (spU K 0 (f__law_odd C))) {f : Addr} {fd : FuncData} (F : Fun K "_law_bent" "_law_bent" s__law_bent f fd) : FnOk P w K mg base CX0 (L + 1) f fd ["purse", "value"] (spU K 1 (fnU 1 5 (d__law_bent C rec))) :=
  u_ok F sc__law_bent (fun cdv AA outer s H E hr => have hu := Nat.lt_of_le_of_lt (Nat.add_le_add_left (by decide : 1 ≤ 64) _) hr.units
    s_seq (pss_cons (s_if (ps_if (PW.pt (m_or (pw_or (m_not (pt_not (m_truth (pt_truth (m_isi (pe_callB call_isi (by rfl) T.m_isinstance (by decide +kernel) (pa_cons (m_vr (pv 1)) (pa_cons (pe_bltn (v := .ty "tuple") (by rfl) T.m_tuple boot_tuple rfl) pa_nil))) ok_tup) (by intro _; rfl))))) (m_or (pw_or (m_tst (pt_cmpR (o_eq hr.units) (m_vr (pv 1)) (m_tup (pe_tup (m_nil pa_nil))) (nomark _)) p_eqA) (pw_or1 (m_tst (pt_cmpR (o_eq hr.units) (m_draw (pe_df G__law_draw (hr.mono (by omega)) (by rfl) (pa_cons (pv 0) (pa_cons (m_c pe_int (fun _ => .int _)) pa_nil)))) (m_c pe_int (fun _ => .int _)) (nomark _)) p_eqA))))))) (s_one (s_ret (ps_ret (m_callU (pe_df G__law_odd (hr.mono (by omega)) (by rfl) (pa_cons (pv 0) (m_nil pa_nil))) fnU_len)))) (s_nil pss_nil)))
    (s_seq (pss_cons (s_set (ps_set (i := 2) sc__law_bent.nd rfl (by first | exact Or.inl rfl | exact Or.inr rfl) (m_draw (pe_df G__law_draw (hr.mono (by omega)) (by rfl) (pa_cons (pv 0) (pa_cons (m_cb (pe_callB o_len (by rfl) T.m_len (by decide +kernel) (m_cons (pa_cons (m_vr (pv 1)) (m_nil pa_nil)))) p_lenA) pa_nil))))) (Nat.succ_ne_zero 1))
    (s_seq (pss_cons (s_set (ps_set (i := 3) sc__law_bent.nd rfl (by first | exact Or.inl rfl | exact Or.inr rfl) (m_draw (pe_df G__law_draw (hr.mono (by omega)) (by rfl) (pa_cons (pv 0) (pa_cons (m_c pe_int (fun _ => .int _)) pa_nil))))) (Nat.succ_ne_zero 2))
    (s_seq (pss_cons (s_if (ps_if (m_tst (pt_cmpR (o_eq hr.units) (m_vr (pv 3)) (m_c pe_int (fun _ => .int _)) (nomark _)) p_eqA) (s_one (s_ret (ps_ret (m_op (pe_op o_plus (m_sl (pe_slice o_sl (m_vr (pv 1)) (m_poN po_none) (m_po (po_some (m_vr (pv 2))))) p_cutA) (m_sl (pe_slice o_sl (m_vr (pv 1)) (m_po (po_some (m_op (pe_op o_plus (m_vr (pv 2)) (m_c pe_int (fun _ => .int _))) p_plus))) (m_poN po_none)) p_cutA)) p_plus)))) (s_nil pss_nil)))
    (s_seq (pss_cons (s_if (ps_if (m_tst (pt_cmpR (o_eq hr.units) (m_vr (pv 3)) (m_c pe_int (fun _ => .int _)) (nomark _)) p_eqA) (s_one (s_ret (ps_ret (m_op (pe_op o_plus (m_sl (pe_slice o_sl (m_vr (pv 1)) (m_poN po_none) (m_po (po_some (m_op (pe_op o_plus (m_vr (pv 2)) (m_c pe_int (fun _ => .int _))) p_plus)))) p_cutA) (m_sl (pe_slice o_sl (m_vr (pv 1)) (m_po (po_some (m_vr (pv 2)))) (m_poN po_none)) p_cutA)) p_plus)))) (s_nil pss_nil)))
    (s_seq (pss_cons (s_if (ps_if (m_tst (pt_cmpR (o_eq hr.units) (m_vr (pv 3)) (m_c pe_int (fun _ => .int _)) (nomark _)) p_eqA) (s_seq (pss_cons (s_set (ps_set (i := 4) sc__law_bent.nd rfl (by first | exact Or.inl rfl | exact Or.inr rfl) (m_revT (pe_revT (m_sl (pe_slice o_sl (m_vr (pv 1)) (m_po (po_some (m_vr (pv 2)))) (m_po (po_some (m_op (pe_op o_plus (m_vr (pv 2)) (m_c pe_int (fun _ => .int _))) p_plus)))) p_cutA)))) (Nat.succ_ne_zero 3))
    (s_one (s_ret (ps_ret (m_op (pe_op o_plus (m_op (pe_op o_plus (m_sl (pe_slice o_sl (m_vr (pv 1)) (m_poN po_none) (m_po (po_some (m_vr (pv 2))))) p_cutA) (m_vr (pv 4))) p_plus) (m_sl (pe_slice o_sl (m_vr (pv 1)) (m_po (po_some (m_op (pe_op o_plus (m_vr (pv 2)) (m_c pe_int (fun _ => .int _))) p_plus))) (m_poN po_none)) p_cutA)) p_plus)))))) (s_nil pss_nil)))
    (s_seq (pss_cons (s_if (ps_if (m_tst (pt_cmpR (o_eq hr.units) (m_vr (pv 3)) (m_c pe_int (fun _ => .int _)) (nomark _)) p_eqA) (s_one (s_ret (ps_ret (m_cb (pe_callTy call_list_of (by rfl) T.m_list (by decide +kernel) (m_cons (pa_cons (m_vr (pv 1)) (m_nil pa_nil)))) p_list)))) (s_nil pss_nil)))
    (s_one (s_ret (ps_ret (m_op (pe_op o_plus (m_op (pe_op o_plus (m_sl (pe_slice o_sl (m_vr (pv 1)) (m_poN po_none) (m_po (po_some (m_vr (pv 2))))) p_cutA) (m_tup (pe_tup (m_cons (pa_cons (m_callU (pe_df G__law_bent (hr.mono (by omega)) (by rfl) (pa_cons (pv 0) (m_cons (pa_cons (m_op (pe_ix o_ix (m_vr (pv 1)) (m_vr (pv 2)) (fun _ _ => rfl)) p_ixA) (m_nil pa_nil))))) hlen) (m_nil pa_nil)))))) p_plus) (m_sl (pe_slice o_sl (m_vr (pv 1)) (m_po (po_some (m_op (pe_op o_plus (m_vr (pv 2)) (m_c pe_int (fun _ => .int _))) p_plus))) (m_poN po_none)) p_cutA)) p_plus))))))))))))))))))
end
variable {C : Nat → Addr}
theorem eqD_nilT (xs : List D) : eqD (.tup xs) (.tup []) = xs.isEmpty := by
  unfold eqD
  cases xs with
  | nil => decide +kernel
  | cons a r => simp [pyD, pyL, PyData.eqv, PyData.eqvAll]
theorem pl_nilT : Pl (.tup []) := by unfold Pl; decide +kernel
/-- what _law_bent gives of things at most n deep -/
def f_bentN (n : Nat) : UF := fun k ds P R => ∃ v L, ds = [v] ∧ Sv L n v ∧ 3 ≤ L ∧ L ≤ 40 ∧ n ≤ 40 ∧ k + 4 * (n + 1) < 2 ^ 36 ∧ ∀ d k', Sv (L + 1) (n + 1) d → k' ≤ k + 4 * (n + 1) → P d k'
/-- .. of its own calls -/
def f_bentR : Nat → UF
  | 0 => fun _ _ _ _ => False
  | n + 1 => f_bentN n
theorem len_bentR : ∀ (n : Nat) k ds P R, f_bentR n k ds P R → ds.length = 1
  | 0, _, _, _, _, h => h.elim
  | n + 1, _, _, _, _, ⟨v, L, e, _⟩ => by rw [e]; rfl
abbrev bendR (rec : UF) : DN.S := seqS (ifS (tst (ap2 (gEqA false) (vr 3) (ret (.int 0)))) (retS (ap2 gPlus (slW gCutA (vr 1) (ret none) (partW (vr 2))) (slW gCutA (vr 1) (partW (ap2 gPlus (vr 2) (ret (.int 1)))) (ret none)))) (skipS)) <|
  seqS (ifS (tst (ap2 (gEqA false) (vr 3) (ret (.int 1)))) (retS (ap2 gPlus (slW gCutA (vr 1) (ret none) (partW (ap2 gPlus (vr 2) (ret (.int 1))))) (slW gCutA (vr 1) (partW (vr 2)) (ret none)))) (skipS)) <|
  seqS (ifS (tst (ap2 (gEqA false) (vr 3) (ret (.int 2)))) (seqS (setS 4 (ap1 gRevT (slW gCutA (vr 1) (partW (vr 2)) (partW (ap2 gPlus (vr 2) (ret (.int 2))))))) <|
  retS (ap2 gPlus (ap2 gPlus (slW gCutA (vr 1) (ret none) (partW (vr 2))) (vr 4)) (slW gCutA (vr 1) (partW (ap2 gPlus (vr 2) (ret (.int 2)))) (ret none)))) (skipS)) <|
  seqS (ifS (tst (ap2 (gEqA false) (vr 3) (ret (.int 3)))) (retS (apN gList (consW (vr 1) (nilW)))) (skipS)) <|
  retS (ap2 gPlus (ap2 gPlus (slW gCutA (vr 1) (ret none) (partW (vr 2))) (apN mkT (consW (callU rec 0 (consW (ap2 gIxA (vr 1) (vr 2)) (nilW))) (nilW)))) (slW gCutA (vr 1) (partW (ap2 gPlus (vr 2) (ret (.int 1)))) (ret none)))
abbrev outU (P : D → Nat → Prop) (R : Er → Prop) : Outs := { nx := fun δ => isPur (slot δ 0) fun k' => P .non k', rt := fun d δ => isPur (slot δ 0) fun k' => P d k', er := R }
theorem cut_toD (xs : List D) (i : Int) (j : Nat) (e : i = ((j : Nat) : Int)) : DN.cutD xs none (some i) = xs.take j := by rw [e, cut_to]
theorem cut_fromD (xs : List D) (i : Int) (j : Nat) (e : i = ((j : Nat) : Int)) : DN.cutD xs (some i) none = xs.drop j := by rw [e, cut_from]
theorem cut_midD (xs : List D) (i j : Int) (a b : Nat) (e : i = ((a : Nat) : Int)) (f : j = ((b : Nat) : Int)) : DN.cutD xs (some i) (some j) = (xs.take b).drop a := by rw [e, f, cut_mid]
theorem dec_ne {i j : Nat} (h : i ≠ j) : ¬ decide (((i : Nat) : Int) = ((j : Nat) : Int)) = true := by rw [decide_eq_true_eq]; omega
theorem bend_rest {n L k i y : Nat} {xs : List D} {P : D → Nat → Prop} {R : Er → Prop} (hl : xs.length ≤ L) (hx : ∀ x ∈ xs, Sv L n x) (hi : i < xs.length) (L3 : 3 ≤ L) (L40 : L ≤ 40) (hn : n ≤ 39) (hk : k + 4 * (n + 1) < 2 ^ 36) (h : ∀ d k', Sv (L + 1) (n + 2) d → k' ≤ k + 4 * (n + 1) → P d k') :
    bendR (f_bentR (n + 1)) [.ow (.pur k), .sh (.tup xs), .sh (.int ((i : Nat) : Int)), .sh (.int ((y : Nat) : Int)), .no] (outU P R) := by
  have up : ∀ {d : D}, Sv L n d → Sv (L + 1) (n + 1) d := fun s => s.mono (Nat.le_succ L) (Nat.le_succ n)
  have mk : ∀ ys : List D, ys.length ≤ L + 1 → (∀ z ∈ ys, Sv (L + 1) (n + 1) z) → ∀ k', k' ≤ k + 4 * (n + 1) → P (.tup ys) k' := fun ys l g k' hk' => h _ k' (.tup (n + 1) ys l g) hk'
  have hx1 : ∀ x ∈ xs, Sv (L + 1) (n + 1) x := fun x m => up (hx x m)
  have e1 : ((i : Nat) : Int) + 1 = ((i + 1 : Nat) : Int) := by omega
  have e2 : ((i : Nat) : Int) + 2 = ((i + 2 : Nat) : Int) := by omega
  have sz : ∀ {a : Nat}, a ≤ 1000 → a ≤ sizeLine := fun q => szl q
  -- way 0
  show if decide (((y : Nat) : Int) = ((0 : Nat) : Int)) = true then _ else _
  by_cases c0 : y = 0
  · rw [if_pos (by rw [decide_eq_true_eq, c0])]
    show (_ ≤ sizeLine) ∧ P (.tup (DN.cutD xs none (some ((i : Nat) : Int)) ++ DN.cutD xs (some (((i : Nat) : Int) + 1)) none)) k
    rw [cut_toD xs _ i rfl, cut_fromD xs _ (i + 1) e1]
    refine ⟨sz (by rw [List.length_take, List.length_drop]; omega), mk _ (by rw [List.length_append, List.length_take, List.length_drop]; omega) (sub_app (sub_take hx1 _) (sub_drop hx1 _)) k (by omega)⟩
  rw [if_neg (dec_ne c0)]
  show if decide (((y : Nat) : Int) = ((1 : Nat) : Int)) = true then _ else _
  by_cases c1 : y = 1
  · rw [if_pos (by rw [decide_eq_true_eq, c1])]
    show (_ ≤ sizeLine) ∧ P (.tup (DN.cutD xs none (some (((i : Nat) : Int) + 1)) ++ DN.cutD xs (some ((i : Nat) : Int)) none)) k
    rw [cut_toD xs _ (i + 1) e1, cut_fromD xs _ i rfl]
    refine ⟨sz (by rw [List.length_take, List.length_drop]; omega), mk _ (by rw [List.length_append, List.length_take, List.length_drop]; omega) (sub_app (sub_take hx1 _) (sub_drop hx1 _)) k (by omega)⟩
  rw [if_neg (dec_ne c1)]
  show if decide (((y : Nat) : Int) = ((2 : Nat) : Int)) = true then _ else _
  by_cases c2 : y = 2
  · rw [if_pos (by rw [decide_eq_true_eq, c2])]
    show (_ ≤ sizeLine) ∧ (_ ≤ sizeLine) ∧ P (.tup ((DN.cutD xs none (some ((i : Nat) : Int)) ++ (DN.cutD xs (some ((i : Nat) : Int)) (some (((i : Nat) : Int) + 2))).reverse) ++ DN.cutD xs (some (((i : Nat) : Int) + 2)) none)) k
    rw [cut_toD xs _ i rfl, cut_midD xs _ _ i (i + 2) rfl e2, cut_fromD xs _ (i + 2) e2]
    have rv : ∀ x ∈ ((xs.take (i + 2)).drop i).reverse, Sv (L + 1) (n + 1) x := fun x m => sub_drop (sub_take hx1 _) _ x (List.mem_reverse.mp m)
    refine ⟨sz (by rw [List.length_take, List.length_reverse, List.length_drop, List.length_take]; omega), sz (by rw [List.length_append, List.length_take, List.length_reverse, List.length_drop, List.length_take, List.length_drop]; omega), mk _ (by rw [List.length_append, List.length_append, List.length_take, List.length_reverse, List.length_drop, List.length_take, List.length_drop]; omega) (sub_app (sub_app (sub_take hx1 _) rv) (sub_drop hx1 _)) k (by omega)⟩
  rw [if_neg (dec_ne c2)]
  show if decide (((y : Nat) : Int) = ((3 : Nat) : Int)) = true then _ else _
  by_cases c3 : y = 3
  · rw [if_pos (by rw [decide_eq_true_eq, c3])]
    exact h _ k (.lst (n + 1) xs (by omega) hx1) (by omega)
  rw [if_neg (dec_ne c3)]
  show optD (atI xs ((i : Nat) : Int)) _
  obtain ⟨x, ex, mx⟩ := atI_mem (xs := xs) hi
  rw [ex]
  refine ⟨x, L, rfl, hx x mx, L3, L40, by omega, hk, fun d k' hd hk' => ?_⟩
  show (_ ≤ sizeLine) ∧ (_ ≤ sizeLine) ∧ (_ ≤ sizeLine) ∧ P (.tup ((DN.cutD xs none (some ((i : Nat) : Int)) ++ [d]) ++ DN.cutD xs (some (((i : Nat) : Int) + 1)) none)) k'
  rw [cut_toD xs _ i rfl, cut_fromD xs _ (i + 1) e1]
  refine ⟨sz (show 1 ≤ 1000 by decide), sz (by rw [List.length_take]; show _ + 1 ≤ _; omega), sz (by rw [List.length_append, List.length_take, List.length_drop]; show _ + 1 + _ ≤ _; omega), mk _ (by rw [List.length_append, List.length_append, List.length_take, List.length_drop, List.length_singleton]; omega) (sub_app (sub_app (sub_take hx1 _) fun z m => ?_) (sub_drop hx1 _)) k' hk'⟩
  rw [List.mem_singleton.mp m]
  exact hd
theorem spec_bentN (n : Nat) : ∀ k ds P, f_bentN n k ds P noR → fnU 1 5 (d__law_bent C (f_bentR n)) k ds P noR := by
  rintro k ds P ⟨v, L, rfl, hv, L3, L40, hn, hk, h⟩
  refine ⟨rfl, ?_⟩
  have pv : Pl v := hv.pl txts_ok (by omega)
  have odd : ∀ {k' : Nat}, k' ≤ k + 1 → f__law_odd C k' [] (fun d k2 => P d k2) noR := fun {k'} hk' => spec__law_odd (by omega) fun d hd => h d _ (hd.mono (by omega) (by omega)) (by omega)
  have far : (∀ xs, v ≠ .tup xs) → f__law_odd C k [] (fun d k2 => P d k2) noR := fun _ => odd (by omega)
  cases hv with
  | non => exact far nofun
  | bl b => exact far nofun
  | int i => exact far nofun
  | str z => exact far nofun
  | lst xs => exact far nofun
  | tup n xs hl hx =>
    refine ⟨szl (Nat.zero_le _), pv, pl_nilT, ?_⟩
    show if eqD (.tup xs) (.tup []) = true then _ else _
    rw [eqD_nilT]
    cases xs with
    | nil => exact odd (by omega)
    | cons x r =>
      rw [if_neg (show ¬ List.isEmpty (x :: r) = true from nofun)]
      refine ⟨⟨show (1 : Int) ≤ 12 by decide, show (12 : Int) < 2 ^ 62 by decide⟩, by omega, fun d d0 d1 => ?_⟩
      show if decide (d = 0) = true then _ else _
      by_cases c : decide (d = 0) = true
      · rw [if_pos c]
        exact odd (by omega)
      rw [if_neg c]
      have hr : (x :: r).length = r.length + 1 := rfl
      refine ⟨⟨show (1 : Int) ≤ (((x :: r).length : Nat) : Int) by omega, show (((x :: r).length : Nat) : Int) < 2 ^ 62 by omega⟩, by omega, fun a a0 a1 => ?_⟩
      obtain ⟨i, rfl⟩ := Int.eq_ofNat_of_zero_le a0
      have a1 : ((i : Nat) : Int) < (((x :: r).length : Nat) : Int) := a1
      refine ⟨⟨show (1 : Int) ≤ 8 by decide, show (8 : Int) < 2 ^ 62 by decide⟩, by omega, fun b b0 b1 => ?_⟩
      obtain ⟨y, rfl⟩ := Int.eq_ofNat_of_zero_le b0
      exact bend_rest (n := n) (k := k + 1 + 1 + 1) hl hx (by omega) L3 L40 (by omega) (by omega) fun d k' hd hk' => h d k' hd (by omega)
end Lw
set_option Elab.async false
set_option linter.all false
set_option maxRecDepth 100000
set_option maxHeartbeats 4000000
/-! tales whose loops are known; what is due of them -/
namespace Lw
open PySem PySem.Spec PyProof.Rows L2 TKS DN
variable {C : Nat → Addr}
theorem rank_conn {L : List Lnk} (rank : Str → Nat) (h : ∀ l ∈ L, l.2.2 = false → rank l.1 = rank l.2.1) {x y : Str} (c : Conn (sameL L) x y) : rank x = rank y := by
  induction c with
  | refl => rfl
  | edge m =>
    obtain ⟨l, hl, e⟩ := List.mem_map.mp m
    obtain ⟨h1, h2⟩ := List.mem_filter.mp hl
    cases e
    exact h l h1 (by simpa using h2)
  | symm _ ih => exact ih.symm
  | trans _ _ a b => exact a.trans b
theorem rank_bef {L : List Lnk} (rank : Str → Nat) (h : ∀ l ∈ L, if l.2.2 = true then rank l.1 < rank l.2.1 else rank l.1 = rank l.2.1) {x y : Str} (b : Bef L x y) : rank x < rank y := by
  have same : ∀ l ∈ L, l.2.2 = false → rank l.1 = rank l.2.1 := fun l hl e => by
    have := h l hl
    rwa [if_neg (by rw [e]; nofun)] at this
  induction b with
  | link m h1 h2 =>
    have := h _ m
    rw [if_pos rfl] at this
    rw [rank_conn rank same h1, ← rank_conn rank same h2]
    exact this
  | both _ _ a b => exact Nat.lt_trans a b
theorem no_loop {S : List Sen} (rank : Str → Nat) (h : ((linksL "" S).all fun l => if l.2.2 = true then decide (rank l.1 < rank l.2.1) else decide (rank l.1 = rank l.2.1)) = true) : ¬ Loop S := by
  rintro ⟨x, _, b⟩
  rw [List.all_eq_true] at h
  refine absurd (rank_bef rank (fun l hl => ?_) b) (Nat.lt_irrefl _)
  have := h l hl
  split at this
  · rename_i c
    rw [if_pos c]
    exact of_decide_eq_true this
  · rename_i c
    rw [if_neg c]
    exact of_decide_eq_true this
def pairsL : Str → List Str → List (Str × Str)
  | _, [] => []
  | x, y :: r => (x, y) :: pairsL y r
def lastS : Str → List Str → Str
  | x, [] => x
  | _, y :: r => lastS y r
theorem bef_chain {L : List Lnk} : ∀ (ns : List Str) (x y : Str), (∀ p ∈ pairsL x (y :: ns), (p.1, p.2, true) ∈ L) → Bef L x (lastS y ns)
  | [], x, y, h => .link (h (x, y) List.mem_cons_self) (.refl _) (.refl _)
  | z :: r, x, y, h => .both (.link (h (x, y) List.mem_cons_self) (.refl _) (.refl _)) (bef_chain r y z fun p hp => h p (List.mem_cons_of_mem _ hp))
theorem thing_tale {N : List Str} {S : List Sen} (so : ∀ s ∈ S, SenOk s) (few : N.length ≤ 60) (all : ∀ s ∈ S, s.2 ∈ N) (len : S.length ≤ 999) : Thing N (taleD S) := by
  refine ⟨⟨nofun, nofun⟩, few, fun items e => ?_⟩
  cases e
  refine ⟨fun x hx => ?_, fun s hs => ?_, by rw [List.length_map]; exact len⟩
  · obtain ⟨s, hs, rfl⟩ := List.mem_map.mp hx
    have o := so s hs
    refine ⟨⟨⟨nofun, nofun⟩, fun a b e => ?_⟩, fun a b e => ?_, fun a z e => ?_⟩
    · cases e
      refine ⟨pl_str (word_ok o.w), ⟨nofun, nofun⟩, fun z ez => ?_⟩
      cases ez
      have q : (decide (1 ≤ s.2.length) && decide (s.2.length ≤ 8) && s.2.cps.toList.all isLetter) = true := o.m
      rw [Bool.and_eq_true, Bool.and_eq_true, decide_eq_true_eq, decide_eq_true_eq] at q
      exact szl (by omega)
    · cases e
      exact ⟨nofun, nofun⟩
    · cases e
      exact name_ok o.m
  · obtain ⟨s', hs', e⟩ := List.mem_map.mp hs
    have e2 : [s'].map sD = [s].map sD := by rw [List.map_singleton, List.map_singleton, e]
    have := sD_inj e2
    injection this with h1 _
    rw [← h1]
    exact all s' hs'
theorem senOk_of {S : List Sen} (h : (S.all fun s => decide (s.1 ∈ wordsL) && letD s.2) = true) : ∀ s ∈ S, SenOk s := fun s hs => by
  have := List.all_eq_true.mp h s hs
  rw [Bool.and_eq_true, decide_eq_true_eq] at this
  exact ⟨this.1, this.2⟩
/-- check_tale of a tale that is consistent, of one whose last sentence closes a cycle -/
theorem check_fit {N : List Str} {S : List Sen} {P : D → Prop} {R : Er → Prop} (so : ∀ s ∈ S, SenOk s) (few : N.length ≤ 60) (all : ∀ s ∈ S, s.2 ∈ N) (len : S.length ≤ 999) (at_ : FirstAt S) (n : ¬ Loop S) (h : P .non) : f_check_tale C [taleD S] P R :=
  spec_check (thing_tale so few all len) fun r hr => by rw [hr.uniq (.fit so at_ n)]; exact h
theorem check_cyc {N : List Str} {S : List Sen} {k : Nat} {P : D → Prop} {R : Er → Prop} (so : ∀ s ∈ S, SenOk s) (few : N.length ≤ 60) (all : ∀ s ∈ S, s.2 ∈ N) (len : S.length ≤ 999) (at_ : FirstAt S) (hk : S.length = k + 1) (lp : Loop S) (n : ¬ Loop (S.take k)) (h : P (.tup [.str "cycle", nD k])) : f_check_tale C [taleD S] P R :=
  spec_check (thing_tale so few all len) fun r hr => by
    have fl : FirstLoop S k := ⟨by omega, by rw [← hk, List.take_length]; exact lp, fun j hj l => n (l.more (by omega))⟩
    rw [hr.uniq (.cyc so at_ fl)]
    exact h
/-! the names of the law's long line -/
def nmsL : List Str := (("abcdef" : Str).cps.toList.map fun a => ("abcdefghij" : Str).cps.toList.map fun b => (⟨#[a]⟩ ++ ⟨#[b]⟩ : Str)).flatten
def lineS : List Sen := (("at", "aa") : Sen) :: (nmsL.drop 1).map fun x => (("then", x) : Sen)
def rankN (x : Str) : Nat := nmsL.idxOf x
theorem nms_few : nmsL.length ≤ 60 := by decide +kernel
theorem nms_eq : nmsL = ("aa" : Str) :: nmsL.drop 1 := by decide +kernel
theorem line_so : ∀ s ∈ lineS, SenOk s := senOk_of (by decide +kernel)
theorem line_all : ∀ s ∈ lineS, s.2 ∈ nmsL := by decide +kernel
theorem line_len : lineS.length = 60 := by decide +kernel
theorem line_fit : ¬ Loop lineS := no_loop rankN (by decide +kernel)
def line2 : List Sen := lineS ++ [(("then", "aa") : Sen)]
theorem line2_so : ∀ s ∈ line2, SenOk s := senOk_of (by decide +kernel)
theorem line2_all : ∀ s ∈ line2, s.2 ∈ nmsL := by decide +kernel
theorem line2_len : line2.length = 61 := by decide +kernel
theorem line2_take : line2.take 60 = lineS := by
  unfold line2
  rw [← line_len, List.take_left]
theorem at_cons {s : Sen} {r : List Sen} (h : s.1 = "at") : FirstAt (s :: r) := fun t e => by cases e; exact h
theorem line2_lp : Loop line2 := by
  refine ⟨("aa" : Str), by decide +kernel, ?_⟩
  have e : (nmsL.drop 1 ++ [("aa" : Str)]) = ("ab" : Str) :: (nmsL.drop 2 ++ [("aa" : Str)]) := by decide +kernel
  have all : ((pairsL "aa" (("ab" : Str) :: (nmsL.drop 2 ++ [("aa" : Str)]))).all fun p => decide ((p.1, p.2, true) ∈ linksL "" line2)) = true := by decide +kernel
  have := bef_chain (L := linksL "" line2) (nmsL.drop 2 ++ [("aa" : Str)]) "aa" "ab" fun p hp => of_decide_eq_true (List.all_eq_true.mp all p hp)
  rw [show lastS "ab" (nmsL.drop 2 ++ [("aa" : Str)]) = "aa" from by decide +kernel] at this
  exact this
/-! the law's long tale -/
def longS (n : Nat) : List Sen := (List.replicate n [(("at", "a") : Sen), ("then", "b")]).flatten
def rankA (x : Str) : Nat := if x = "b" then 1 else 0
def long1 : List Sen := longS 99 ++ [(("at", "a") : Sen), ("then", "b")]
def long2 : List Sen := longS 99 ++ [(("at", "b") : Sen), ("then", "a")]
theorem long1_so : ∀ s ∈ long1, SenOk s := senOk_of (by decide +kernel)
theorem long2_so : ∀ s ∈ long2, SenOk s := senOk_of (by decide +kernel)
theorem long1_all : ∀ s ∈ long1, s.2 ∈ (["a", "b"] : List Str) := by decide +kernel
theorem long2_all : ∀ s ∈ long2, s.2 ∈ (["a", "b"] : List Str) := by decide +kernel
theorem long1_len : long1.length = 200 := by decide +kernel
theorem long2_len : long2.length = 200 := by decide +kernel
theorem long1_fit : ¬ Loop long1 := no_loop rankA (by decide +kernel)
theorem long2_fit : ¬ Loop (long2.take 199) := no_loop rankA (by decide +kernel)
theorem long2_lp : Loop long2 := by
  refine ⟨"a", by decide +kernel, .both (y := "b") (.link (a := "a") (b := "b") (by decide +kernel) (.refl _) (.refl _)) (.link (a := "b") (b := "a") (by decide +kernel) (.refl _) (.refl _))⟩
theorem long_at {r : List Sen} : FirstAt (longS 99 ++ r) := fun t e => by
  have : (longS 99 ++ r)[0]? = some (("at", "a") : Sen) := rfl
  rw [this] at e
  cases e
  rfl
theorem repL_map (S : List Sen) (n : Nat) : repL (S.map sD) n = ((List.replicate n S).flatten).map sD := by
  unfold repL
  rw [List.map_flatten, List.map_replicate]
end Lw
set_option Elab.async false
set_option linter.all false
set_option maxRecDepth 100000
set_option maxHeartbeats 4000000
namespace Lw
open PySem PySem.Spec PyProof.Rows L2 TKS DN
def f__law_bent (C : Nat → Addr) : UF := fun k ds P R => ∃ n, n ≤ 4 ∧ f_bentN n k ds P R
theorem len__law_bent {C : Nat → Addr} : ∀ k ds P R, f__law_bent C k ds P R → ds.length = 1 := fun _ _ _ _ ⟨n, _, v, L, e, _⟩ => by rw [e]; rfl
section
variable {P : Program} {w : World} {K : PySem.W.Frag} {mg : Str → Option Value} {base : Heap} {C : Nat → Addr}
theorem df_bentR (T : Txt K mg) (A : Wds K mg) (B : Kls K mg C) (G1 : Df P w K mg base "_law_draw" 2 ["purse", "out_of"] spDraw) (G2 : Df P w K mg base "_law_odd" 3 ["purse"] (spU K 0 (f__law_odd C))) (F : Fn K mg "_law_bent" s__law_bent) : ∀ n, Df P w K mg base "_law_bent" (3 + n) ["purse", "value"] (spU K 1 (f_bentR n))
  | 0 => F.df (fun _ _ _ _ _ _ us hl => match us, hl with | [_, _], _ => rfl) fun f fd F => ⟨fun vs H Q E h => (spU_none h).elim, fun A outer s H args us vs Q E hr he hb hv hs => (spU_none hs).elim⟩
  | n + 1 => F.df (fun _ _ _ _ _ _ us hl => match us, hl with | [_, _], _ => rfl) fun f fd F1 => (fn__law_bent T A B (L := 3 + n) (by omega) (len_bentR n) (df_bentR T A B G1 G2 F n) G1 G2 F1).imp (spU_imp (spec_bentN n))
theorem df__law_bent (T : Txt K mg) (A : Wds K mg) (B : Kls K mg C) (G1 : Df P w K mg base "_law_draw" 2 ["purse", "out_of"] spDraw) (G2 : Df P w K mg base "_law_odd" 3 ["purse"] (spU K 0 (f__law_odd C))) (F : Fn K mg "_law_bent" s__law_bent) : Df P w K mg base "_law_bent" 12 ["purse", "value"] (spU K 1 (f__law_bent C)) :=
  F.df (fun _ _ _ _ _ _ us hl => match us, hl with | [_, _], _ => rfl) fun f fd F1 => by
    have one : ∀ n, FnOk P w K mg base CX0 (3 + n + 1) f fd ["purse", "value"] (spU K 1 (f_bentN n)) := fun n => (fn__law_bent T A B (L := 3 + n) (by omega) (len_bentR n) (df_bentR T A B G1 G2 F n) G1 G2 F1).imp (spU_imp (spec_bentN n))
    have pick : ∀ vs H Q E, spU K 1 (f__law_bent C) vs H Q E → ∃ n, n ≤ 4 ∧ spU K 1 (f_bentN n) vs H Q E := fun vs H Q E ⟨p, vs', e, l, Hm, ds, Pr, k, p0, p1, p2, a1, a2, a3, a4, a5, ⟨n, hn, q⟩, z⟩ => ⟨n, hn, p, vs', e, l, Hm, ds, Pr, k, p0, p1, p2, a1, a2, a3, a4, a5, q, z⟩
    refine ⟨fun vs H Q E h => ?_, fun A outer s H args us vs Q E hr he hb hv hs => ?_⟩
    · obtain ⟨n, _, q⟩ := pick vs H Q E h
      exact (one n).len vs H Q E q
    · obtain ⟨n, hn, q⟩ := pick vs H Q E hs
      exact (one n).run A outer s H args us vs Q E (hr.mono (by omega)) he hb hv q
def d_law (C : Nat → Addr) : S :=
  seqS (forS (itR1 (consW (ap2 gPlus (ret (.int 1)) (apN gMin2 (consW (ret (.int 4)) (consW (apN gLenA (consW (vr 0) (nilW))) (nilW))))) (nilW))) (nameT 1) (seqS (purS (consW (vr 0) (consW (vr 1) (nilW))) 2) <|
  forS (itR1 (consW (ret (.int 8)) (nilW))) (nameT 3) (seqS (setS 4 (callU (f__law_drawn C) 2 (nilW))) <|
  seqS (forS (itR1 (consW (ap2 gIxA (apN mkL (consW (ret (.int 0)) (consW (ret (.int 1)) (consW (ret (.int 2)) (nilW))))) (drawW 2 (ret (.int 3)))) (nilW))) (nameT 5) (setS 4 (callU (f__law_bent C) 2 (consW (vr 4) (nilW)))) [5]) <|
  seqS (setS 6 (apN gStr (consW (vr 4) (nilW)))) <|
  seqS (setS 7 (callW (f__law_due C) (consW (vr 4) (nilW)))) <|
  seqS (setS 8 (apN mkL (consW (callW (f_check_tale C) (consW (vr 4) (nilW))) (consW (callKW (f_check_tale C) 1 [0] (consW (vr 4) (nilW))) (nilW))))) <|
  ifS (orT (tst (ap2 (gEqA true) (vr 8) (apN mkL (consW (vr 7) (consW (vr 7) (nilW)))))) (tst (ap2 (gEqA true) (apN gStr (consW (vr 4) (nilW))) (vr 6)))) (retS (ret (.bl false))) (skipS)) [3, 4, 5, 6, 7, 8]) [1, 2, 3, 4, 5, 6, 7, 8]) <|
  seqS (setS 9 (apN mkL (nilW))) <|
  seqS (forS (itS (ret (.str "abcdef"))) (nameT 10) (setS 9 (ap2 gPlus (vr 9) (lcW (itS (ret (.str "abcdefghij"))) (nameT 11) (ret true) (ap2 gPlus (vr 10) (vr 11)) [11]))) [10]) <|
  seqS (setS 12 (ap2 gPlus (apN mkT (consW (apN mkT (consW (ret (.str "at")) (consW (ap2 gIxA (vr 9) (ret (.int 0))) (nilW)))) (nilW))) (apN qTup (consW (lcW (itL (slW gCutA (vr 9) (partW (ret (.int 1))) (ret none))) (nameT 13) (ret true) (apN mkT (consW (ret (.str "then")) (consW (vr 13) (nilW)))) [13]) (nilW))))) <|
  seqS (ifS (orT (tst (ap2 gNotN (callW (f_check_tale C) (consW (vr 12) (nilW))) (ret (.non)))) (tst (ap2 (gEqA true) (callW (f_check_tale C) (consW (ap2 gPlus (vr 12) (apN mkT (consW (apN mkT (consW (ret (.str "then")) (consW (ap2 gIxA (vr 9) (ret (.int 0))) (nilW)))) (nilW)))) (nilW))) (apN mkT (consW (ret (.str "cycle")) (consW (ret (.int 60)) (nilW))))))) (retS (ret (.bl false))) (skipS)) <|
  seqS (setS 14 (ap2 gTimes (apN mkT (consW (apN mkT (consW (ret (.str "at")) (consW (ret (.str "a")) (nilW)))) (consW (apN mkT (consW (ret (.str "then")) (consW (ret (.str "b")) (nilW)))) (nilW)))) (ret (.int 99)))) <|
  seqS (ifS (tst (ap2 gNotN (callW (f_check_tale C) (consW (ap2 gPlus (vr 14) (apN mkT (consW (apN mkT (consW (ret (.str "at")) (consW (ret (.str "a")) (nilW)))) (consW (apN mkT (consW (ret (.str "then")) (consW (ret (.str "b")) (nilW)))) (nilW))))) (nilW))) (ret (.non)))) (retS (ret (.bl false))) (skipS)) <|
  seqS (ifS (tst (ap2 (gEqA true) (callW (f_check_tale C) (consW (ap2 gPlus (vr 14) (apN mkT (consW (apN mkT (consW (ret (.str "at")) (consW (ret (.str "b")) (nilW)))) (consW (apN mkT (consW (ret (.str "then")) (consW (ret (.str "a")) (nilW)))) (nilW))))) (nilW))) (apN mkT (consW (ret (.str "cycle")) (consW (ret (.int 199)) (nilW)))))) (retS (ret (.bl false))) (skipS)) <|
  retS (andV (ap2 gIsN (callW (f_check_tale C) (consW (apN mkT (nilW)) (nilW))) (ret (.non))) (ap2 (gEqA false) (callW (f_check_tale C) (consW (apN mkT (consW (apN mkT (consW (ret (.str "then")) (consW (ret (.str "a")) (nilW)))) (nilW))) (nilW))) (apN mkT (consW (ret (.str "sentence")) (consW (ret (.int 0)) (nilW))))))
def f_law (C : Nat → Addr) : PF := fnP 1 15 (d_law C)
theorem fn_law (T : Txt K mg) (A : Wds K mg) (B : Kls K mg C) (G__law_purse : Df P w K mg base "_law_purse" 2 ["script", "at"] (spPurse K)) (G_check_tale : Df P w K mg base "check_tale" 6 ["thing"] (spP K 1 (f_check_tale C))) (G__law_drawn : Df P w K mg base "_law_drawn" 3 ["purse"] (spU K 0 (f__law_drawn C))) (G__law_due : Df P w K mg base "_law_due" 4 ["value"] (spP K 1 (f__law_due C))) (G__law_bent : Df P w K mg base "_law_bent" 12 ["purse", "value"] (spU K 1 (f__law_bent C))) (G__law_draw : Df P w K mg base "_law_draw" 2 ["purse", "out_of"] spDraw) (GK_check_tale : DfK P w K mg base "check_tale" 6 ["thing"] ["thing"] (spP K 1 (f_check_tale C)) (permL [0])) {f : Addr} {fd : FuncData} (F : Fun K "law" "law" s_law f fd) : FnG P w K mg base 13 f fd ["script"] (spP K 1 (f_law C)) :=
  f_okG F sc_law (fun cdv AA outer s H E hr hg => have hu := Nat.lt_of_le_of_lt (Nat.add_le_add_left (by decide : 1 ≤ 64) _) hr.units
    s_seq (pss_cons (s_for (ps_for PassesOwn.never rfl (i_rng1 (pi_range1 (by rfl) T.m_range (m_cons (pa_cons (m_op (pe_op o_plus (m_c pe_int (fun _ => .int _)) (m_cb (pe_callB (call_min2 rfl) (by rfl) T.m_min (by decide +kernel) (m_cons (pa_cons (m_c pe_int (fun _ => .int _)) (m_cons (pa_cons (m_cb (pe_callB o_len (by rfl) T.m_len (by decide +kernel) (m_cons (pa_cons (m_vr (pv 0)) (m_nil pa_nil)))) p_lenA) (m_nil pa_nil)))))) p_min2)) p_plus) (m_nil pa_nil))))) (g_name (pg_name (i := 1) sc_law.nd rfl (by first | exact Or.inl rfl | exact Or.inr rfl)) not_false) (s_seq (pss_cons (s_pur (ps_set (i := 2) sc_law.nd rfl (by first | exact Or.inl rfl | exact Or.inr rfl) (pe_df G__law_purse (hr.mono (by decide)) (by rfl) (m_cons (pa_cons (m_vr (pv 0)) (m_cons (pa_cons (m_vr (pv 1)) (m_nil pa_nil))))))) not_false)
    (s_one (s_for (ps_for PassesOwn.never rfl (i_rng1 (pi_range1 (by rfl) T.m_range (m_cons (pa_cons (m_c pe_int (fun _ => .int _)) (m_nil pa_nil))))) (g_name (pg_name (i := 3) sc_law.nd rfl (by first | exact Or.inl rfl | exact Or.inr rfl)) not_false) (s_seq (pss_cons (s_set (ps_set (i := 4) sc_law.nd rfl (by first | exact Or.inl rfl | exact Or.inr rfl) (m_callU (pe_df G__law_drawn (hr.mono (by decide)) (by rfl) (pa_cons (pv 2) (m_nil pa_nil))) fnU_len)) not_false)
    (s_seq (pss_cons (s_for (ps_for PassesOwn.never rfl (i_rng1 (pi_range1 (by rfl) T.m_range (m_cons (pa_cons (m_op (pe_ix o_ix (m_lst (pe_lst (m_cons (pa_cons (m_c pe_int (fun _ => .int _)) (m_cons (pa_cons (m_c pe_int (fun _ => .int _)) (m_cons (pa_cons (m_c pe_int (fun _ => .int _)) (m_nil pa_nil))))))))) (m_draw (pe_df G__law_draw (hr.mono (by decide)) (by rfl) (pa_cons (pv 2) (pa_cons (m_c pe_int (fun _ => .int _)) pa_nil)))) (fun _ _ => rfl)) p_ixA) (m_nil pa_nil))))) (g_name (pg_name (i := 5) sc_law.nd rfl (by first | exact Or.inl rfl | exact Or.inr rfl)) not_false) (s_one (s_set (ps_set (i := 4) sc_law.nd rfl (by first | exact Or.inl rfl | exact Or.inr rfl) (m_callU (pe_df G__law_bent (hr.mono (by decide)) (by rfl) (pa_cons (pv 2) (m_cons (pa_cons (m_vr (pv 4)) (m_nil pa_nil))))) len__law_bent)) not_false))))
    (s_seq (pss_cons (s_set (ps_set (i := 6) sc_law.nd rfl (by first | exact Or.inl rfl | exact Or.inr rfl) (m_cb (pe_callTy (call_strD hg hr.units) (by rfl) T.m_str (by decide +kernel) (m_cons (pa_cons (m_vr (pv 4)) (m_nil pa_nil)))) p_str)) not_false)
    (s_seq (pss_cons (s_set (ps_set (i := 7) sc_law.nd rfl (by first | exact Or.inl rfl | exact Or.inr rfl) (m_call (pe_df G__law_due (hr.mono (by decide)) (by rfl) (m_cons (pa_cons (m_vr (pv 4)) (m_nil pa_nil)))) fnP_len)) not_false)
    (s_seq (pss_cons (s_set (ps_set (i := 8) sc_law.nd rfl (by first | exact Or.inl rfl | exact Or.inr rfl) (m_lst (pe_lst (m_cons (pa_cons (m_call (pe_df G_check_tale (hr.mono (by decide)) (by rfl) (m_cons (pa_cons (m_vr (pv 4)) (m_nil pa_nil)))) fnP_len) (m_cons (pa_cons (m_callK (ks := ["thing"]) (pe_dfK GK_check_tale (hr.mono (by decide)) (by rfl) (m_kcons (pk_cons (m_vr (pv 4)) (m_knil pk_nil)))) rfl fnP_len) (m_nil pa_nil)))))))) not_false)
    (s_one (s_if (ps_if (PW.pt (m_or (pw_or (m_tst (pt_cmpR (o_ne hr.units) (m_vr (pv 8)) (m_lst (pe_lst (m_cons (pa_cons (m_vr (pv 7)) (m_cons (pa_cons (m_vr (pv 7)) (m_nil pa_nil))))))) (nomark _)) p_neA) (pw_or1 (m_tst (pt_cmpR (o_ne hr.units) (m_cb (pe_callTy (call_strD hg hr.units) (by rfl) T.m_str (by decide +kernel) (m_cons (pa_cons (m_vr (pv 4)) (m_nil pa_nil)))) p_str) (m_vr (pv 6)) (nomark _)) p_neA))))) (s_one (s_ret (ps_ret (m_c pe_bl (fun _ => .bl _))))) (s_nil pss_nil)))))))))))))))))))))
    (s_seq (pss_cons (s_set (ps_set (i := 9) sc_law.nd rfl (by first | exact Or.inl rfl | exact Or.inr rfl) (m_lst (pe_lst (m_nil pa_nil)))) not_false)
    (s_seq (pss_cons (s_for (ps_for PassesOwn.never rfl (i_str (pi_str (m_c pe_str (fun _ => .str _)))) (g_name (pg_name (i := 10) sc_law.nd rfl (by first | exact Or.inl rfl | exact Or.inr rfl)) not_false) (s_one (s_set (ps_set (i := 9) sc_law.nd rfl (by first | exact Or.inl rfl | exact Or.inr rfl) (m_op (pe_op o_plus (m_vr (pv 9)) (m_lc (pe_lc (own := [("other", 11)]) rfl sc_law.nd (i_str (pi_str (m_c pe_str (fun _ => .str _)))) (blkOk_by (N := ["script", "at", "purse", "turn", "value", "bend", "held", "due", "told", "names", "one", "other", "line", "name", "long"]) (sc := defScope s_law) (by decide +kernel)) (fun _ _ _ _ _ => g_name (pg_name (i := 11) sc_law.nd rfl (by first | exact Or.inl rfl | exact Or.inr rfl)) (by decide)) (fun _ _ _ _ _ => m_yes pts_nil) (fun _ _ _ _ _ => m_op (pe_op o_plus (m_vr (pv 10)) (m_vr (pv 11))) p_plus)) (by decide))) p_plus)) not_false))))
    (s_seq (pss_cons (s_set (ps_set (i := 12) sc_law.nd rfl (by first | exact Or.inl rfl | exact Or.inr rfl) (m_op (pe_op o_plus (m_tup (pe_tup (m_cons (pa_cons (m_tup (pe_tup (m_cons (pa_cons (m_c pe_str (fun _ => .str _)) (m_cons (pa_cons (m_op (pe_ix o_ix (m_vr (pv 9)) (m_c pe_int (fun _ => .int _)) (fun _ _ => rfl)) p_ixA) (m_nil pa_nil))))))) (m_nil pa_nil))))) (m_cb (pe_callTy (show CallR _ _ (rTupL K) from cl_tupL) (by rfl) T.m_tuple (by decide +kernel) (m_cons (pa_cons (m_lc (pe_lc (own := [("name", 13)]) rfl sc_law.nd (i_list (pi_list (m_sl (pe_slice o_sl (m_vr (pv 9)) (m_po (po_some (m_c pe_int (fun _ => .int _)))) (m_poN po_none)) p_cutA))) (blkOk_by (N := ["script", "at", "purse", "turn", "value", "bend", "held", "due", "told", "names", "one", "other", "line", "name", "long"]) (sc := defScope s_law) (by decide +kernel)) (fun _ _ _ _ _ => g_name (pg_name (i := 13) sc_law.nd rfl (by first | exact Or.inl rfl | exact Or.inr rfl)) (by decide)) (fun _ _ _ _ _ => m_yes pts_nil) (fun _ _ _ _ _ => m_tup (pe_tup (m_cons (pa_cons (m_c pe_str (fun _ => .str _)) (m_cons (pa_cons (m_vr (pv 13)) (m_nil pa_nil)))))))) (by decide)) (m_nil pa_nil)))) p_tup)) p_plus)) not_false)
    (s_seq (pss_cons (s_if (ps_if (PW.pt (m_or (pw_or (m_tst (pt_cmpR op_notN (m_call (pe_df G_check_tale (hr.mono (by decide)) (by rfl) (m_cons (pa_cons (m_vr (pv 12)) (m_nil pa_nil)))) fnP_len) (m_c pe_non (fun _ => .non)) (nomark _)) p_notN) (pw_or1 (m_tst (pt_cmpR (o_ne hr.units) (m_call (pe_df G_check_tale (hr.mono (by decide)) (by rfl) (m_cons (pa_cons (m_op (pe_op o_plus (m_vr (pv 12)) (m_tup (pe_tup (m_cons (pa_cons (m_tup (pe_tup (m_cons (pa_cons (m_c pe_str (fun _ => .str _)) (m_cons (pa_cons (m_op (pe_ix o_ix (m_vr (pv 9)) (m_c pe_int (fun _ => .int _)) (fun _ _ => rfl)) p_ixA) (m_nil pa_nil))))))) (m_nil pa_nil)))))) p_plus) (m_nil pa_nil)))) fnP_len) (m_tup (pe_tup (m_cons (pa_cons (m_c pe_str (fun _ => .str _)) (m_cons (pa_cons (m_c pe_int (fun _ => .int _)) (m_nil pa_nil))))))) (nomark _)) p_neA))))) (s_one (s_ret (ps_ret (m_c pe_bl (fun _ => .bl _))))) (s_nil pss_nil)))
    (s_seq (pss_cons (s_set (ps_set (i := 14) sc_law.nd rfl (by first | exact Or.inl rfl | exact Or.inr rfl) (m_op (pe_op o_times (m_tup (pe_tup (m_cons (pa_cons (m_tup (pe_tup (m_cons (pa_cons (m_c pe_str (fun _ => .str _)) (m_cons (pa_cons (m_c pe_str (fun _ => .str _)) (m_nil pa_nil))))))) (m_cons (pa_cons (m_tup (pe_tup (m_cons (pa_cons (m_c pe_str (fun _ => .str _)) (m_cons (pa_cons (m_c pe_str (fun _ => .str _)) (m_nil pa_nil))))))) (m_nil pa_nil))))))) (m_c pe_int (fun _ => .int _))) p_times)) not_false)
    (s_seq (pss_cons (s_if (ps_if (m_tst (pt_cmpR op_notN (m_call (pe_df G_check_tale (hr.mono (by decide)) (by rfl) (m_cons (pa_cons (m_op (pe_op o_plus (m_vr (pv 14)) (m_tup (pe_tup (m_cons (pa_cons (m_tup (pe_tup (m_cons (pa_cons (m_c pe_str (fun _ => .str _)) (m_cons (pa_cons (m_c pe_str (fun _ => .str _)) (m_nil pa_nil))))))) (m_cons (pa_cons (m_tup (pe_tup (m_cons (pa_cons (m_c pe_str (fun _ => .str _)) (m_cons (pa_cons (m_c pe_str (fun _ => .str _)) (m_nil pa_nil))))))) (m_nil pa_nil)))))))) p_plus) (m_nil pa_nil)))) fnP_len) (m_c pe_non (fun _ => .non)) (nomark _)) p_notN) (s_one (s_ret (ps_ret (m_c pe_bl (fun _ => .bl _))))) (s_nil pss_nil)))
    (s_seq (pss_cons (s_if (ps_if (m_tst (pt_cmpR (o_ne hr.units) (m_call (pe_df G_check_tale (hr.mono (by decide)) (by rfl) (m_cons (pa_cons (m_op (pe_op o_plus (m_vr (pv 14)) (m_tup (pe_tup (m_cons (pa_cons (m_tup (pe_tup (m_cons (pa_cons (m_c pe_str (fun _ => .str _)) (m_cons (pa_cons (m_c pe_str (fun _ => .str _)) (m_nil pa_nil))))))) (m_cons (pa_cons (m_tup (pe_tup (m_cons (pa_cons (m_c pe_str (fun _ => .str _)) (m_cons (pa_cons (m_c pe_str (fun _ => .str _)) (m_nil pa_nil))))))) (m_nil pa_nil)))))))) p_plus) (m_nil pa_nil)))) fnP_len) (m_tup (pe_tup (m_cons (pa_cons (m_c pe_str (fun _ => .str _)) (m_cons (pa_cons (m_c pe_int (fun _ => .int _)) (m_nil pa_nil))))))) (nomark _)) p_neA) (s_one (s_ret (ps_ret (m_c pe_bl (fun _ => .bl _))))) (s_nil pss_nil)))
    (s_one (s_ret (ps_ret (m_andV (pe_and (m_op (pe_cmpR op_isN (m_call (pe_df G_check_tale (hr.mono (by decide)) (by rfl) (m_cons (pa_cons (m_tup (pe_tup (m_nil pa_nil))) (m_nil pa_nil)))) fnP_len) (m_c pe_non (fun _ => .non)) (nomark _)) p_isN) (pe_one (m_op (pe_cmpR (o_eq hr.units) (m_call (pe_df G_check_tale (hr.mono (by decide)) (by rfl) (m_cons (pa_cons (m_tup (pe_tup (m_cons (pa_cons (m_tup (pe_tup (m_cons (pa_cons (m_c pe_str (fun _ => .str _)) (m_cons (pa_cons (m_c pe_str (fun _ => .str _)) (m_nil pa_nil))))))) (m_nil pa_nil))))) (m_nil pa_nil)))) fnP_len) (m_tup (pe_tup (m_cons (pa_cons (m_c pe_str (fun _ => .str _)) (m_cons (pa_cons (m_c pe_int (fun _ => .int _)) (m_nil pa_nil))))))) (nomark _)) p_eqA)))))))))))))))))))))))
end
end Lw
set_option Elab.async false
set_option linter.all false
set_option maxRecDepth 100000
set_option maxHeartbeats 4000000
namespace Lw
open PySem PySem.Spec PyProof.Rows L2 TKS DN
variable {C : Nat → Addr}
/-- what both look at, drawn and bent -/
theorem thing_of {L n : Nat} {v : D} (h : Sv L n v) (hn : n ≤ 40) (hL : L ≤ 60) : Thing txts v := by
  refine ⟨h.flat, by decide +kernel, fun items e => ?_⟩
  subst e
  cases h with
  | tup n xs hl hx =>
    have txt : ∀ {n : Nat} {z : Str}, Sv L n (.str z) → z ∈ txts := fun q => by cases q with | str _ _ m => exact m
    have two : ∀ {a b : D}, D.tup [a, b] ∈ items → ∃ m, Sv L m a ∧ Sv L m b ∧ m ≤ 40 := fun {a b} m => by
      have q := hx _ m
      cases q with
      | tup k ys _ hy => exact ⟨k, hy a List.mem_cons_self, hy b (List.mem_cons_of_mem _ List.mem_cons_self), by omega⟩
    refine ⟨fun x m => ⟨⟨(hx x m).flat, fun a b e => ?_⟩, fun a b e => ?_, fun a z e => ?_⟩, fun s m => ?_, by omega⟩
    · subst e
      obtain ⟨k, ha, hb, hk⟩ := two m
      refine ⟨ha.pl txts_ok (by omega), hb.flat, fun z ez => ?_⟩
      subst ez
      have all : (txts.all fun z => decide (z.length ≤ 1000)) = true := by decide +kernel
      exact szl (of_decide_eq_true (List.all_eq_true.mp all z (txt hb)))
    · subst e
      obtain ⟨k, ha, hb, hk⟩ := two m
      exact ha.flat
    · subst e
      obtain ⟨k, ha, hb, hk⟩ := two m
      exact txts_ok.ok z (txt hb)
    · obtain ⟨k, ha, hb, hk⟩ := two m
      exact txt hb
theorem Due.pl {d r : D} (h : Due d r) : Pl r := by
  have two : ∀ (z : Str) (k : Nat), PySem.PyData.strOk z = true → Pl (.tup [.str z, nD k]) := fun z k hz => by
    unfold Pl SeqAt.shaped nD pyD pyL pyD pyL pyD pyL PyData.canLay0 PyData.canLayAll0 PyData.canLay0 PyData.canLayAll0 PyData.canLay0 PyData.canLayAll0
    rw [hz]
    rfl
  cases h with
  | form _ => unfold Pl; decide +kernel
  | sen _ _ _ => exact two _ _ (by decide +kernel)
  | cyc _ _ _ => exact two _ _ (by decide +kernel)
  | fit _ _ _ => unfold Pl; decide +kernel
theorem pl_pair {r : D} (h : Pl r) (hd : (pyD r).depth ≤ 8) : Pl (.lst [r, r]) := by
  have c := h.lay
  unfold Pl SeqAt.shaped
  simp only [pyD, pyL, PyData.canLay0, PyData.canLayAll0, PyData.depth, PyData.depthAll, c, Bool.true_and, Bool.and_true]
  rw [decide_eq_true_eq]
  omega
theorem Due.dep {d r : D} (h : Due d r) : (pyD r).depth ≤ 8 := by
  cases h <;> simp [nD, pyD, pyL, PyData.depth, PyData.depthAll]
theorem eqD_refl {x : D} (h : Pl x) : eqD x x = true := SeqAt.eqv_refl _ h.lay
abbrev tnB (C : Nat → Addr) : DN.S := seqS (setS 4 (callU (f__law_drawn C) 2 (nilW))) <|
  seqS (forS (itR1 (consW (ap2 gIxA (apN mkL (consW (ret (.int 0)) (consW (ret (.int 1)) (consW (ret (.int 2)) (nilW))))) (drawW 2 (ret (.int 3)))) (nilW))) (nameT 5) (setS 4 (callU (f__law_bent C) 2 (consW (vr 4) (nilW)))) [5]) <|
  seqS (setS 6 (apN gStr (consW (vr 4) (nilW)))) <|
  seqS (setS 7 (callW (f__law_due C) (consW (vr 4) (nilW)))) <|
  seqS (setS 8 (apN mkL (consW (callW (f_check_tale C) (consW (vr 4) (nilW))) (consW (callKW (f_check_tale C) 1 [0] (consW (vr 4) (nilW))) (nilW))))) <|
  ifS (orT (tst (ap2 (gEqA true) (vr 8) (apN mkL (consW (vr 7) (consW (vr 7) (nilW)))))) (tst (ap2 (gEqA true) (apN gStr (consW (vr 4) (nilW))) (vr 6)))) (retS (ret (.bl false))) (skipS)
abbrev En (ns : List Int) (a : Sl) (k : Nat) (t v b : Sl) : DN.Env := [.sh (.scr ns), a, .ow (.pur k), t, v, b, .no, .no, .no, .no, .no, .no, .no, .no, .no]
theorem bend_loop {ns : List Int} {a t : Sl} {K0 : Nat} (hK : K0 < 2 ^ 30) {P0 : Outs} : ∀ (l : List D) (k L n : Nat) (v : D), Sv L n v → 3 ≤ L → L + l.length ≤ 17 → n + l.length ≤ 4 → k + 30 * l.length ≤ K0 →
    (∀ k' v', Sv 17 4 v' → k' ≤ K0 → P0.nx (En ns a k' t (.sh v') .no)) → ∀ δ, clr [5] δ = En ns a k t (.sh v) .no → forL (nameT 5) (setS 4 (callU (f__law_bent C) 2 (consW (vr 4) (nilW)))) [5] P0 l δ
  | [], k, L, n, v, hv, h3, hl, hn, hk, h, δ, e => by
    show P0.nx (clr [5] δ)
    rw [e]
    exact h k v (hv.mono (by rw [List.length_nil] at hl; omega) (by rw [List.length_nil] at hn; omega)) (by rw [List.length_nil] at hk; omega)
  | d :: r, k, L, n, v, hv, h3, hl, hn, hk, h, δ, e => by
    rw [List.length_cons] at hl hn hk
    show nameT 5 d (clr [5] δ) _
    rw [e]
    refine ⟨n, by omega, v, L, rfl, hv, h3, by omega, by omega, by omega, fun d' k' hd' hk' => ?_⟩
    exact bend_loop hK r k' (L + 1) (n + 1) d' hd' (by omega) (by omega) (by omega) (by omega) h _ rfl
theorem turn_end {ns : List Int} {a t : Sl} {k : Nat} {v : D} (hv : Sv 17 4 v) {P0 : Outs} (h : ∀ δ, clr [3, 4, 5, 6, 7, 8] δ = En ns a k .no .no .no → P0.nx δ) :
    (seqS (setS 6 (apN gStr (consW (vr 4) (nilW)))) <|
  seqS (setS 7 (callW (f__law_due C) (consW (vr 4) (nilW)))) <|
  seqS (setS 8 (apN mkL (consW (callW (f_check_tale C) (consW (vr 4) (nilW))) (consW (callKW (f_check_tale C) 1 [0] (consW (vr 4) (nilW))) (nilW))))) <|
  ifS (orT (tst (ap2 (gEqA true) (vr 8) (apN mkL (consW (vr 7) (consW (vr 7) (nilW)))))) (tst (ap2 (gEqA true) (apN gStr (consW (vr 4) (nilW))) (vr 6)))) (retS (ret (.bl false))) (skipS) : DN.S) (En ns a k t (.sh v) .no) P0 := by
  have th := thing_of hv (by decide) (by decide)
  have sz : bdT 17 30 4 ≤ sizeLine := by rw [sizeLine_eq]; decide
  refine ⟨hv.lay txts_ok, hv.shw, Nat.le_trans hv.depth (by decide), Nat.le_trans (hv.len txts_ok) sz, ?_⟩
  have l60 : ∀ xs, v = .tup xs → xs.length ≤ 60 := fun xs e => by
    subst e
    cases hv with
    | tup n xs hl hx => omega
  refine spec__law_due th l60 fun r hr => ?_
  refine spec_check th fun r1 h1 => ?_
  rw [h1.uniq hr]
  refine ⟨rfl, ?_⟩
  refine spec_check th fun r2 h2 => ?_
  rw [h2.uniq hr]
  have pp := pl_pair hr.pl hr.dep
  refine ⟨szl (show 2 ≤ 1000 by decide), szl (show 2 ≤ 1000 by decide), pp, pp, ?_⟩
  show if (!eqD (.lst [r, r]) (.lst [r, r])) = true then _ else _
  rw [eqD_refl pp, Bool.not_true, if_neg nofun]
  refine ⟨hv.lay txts_ok, hv.shw, Nat.le_trans hv.depth (by decide), Nat.le_trans (hv.len txts_ok) sz, ?_⟩
  show if (!decide (strT (pyD v) = strT (pyD v))) = true then _ else _
  rw [decide_eq_true rfl, Bool.not_true, if_neg nofun]
  exact h _ rfl
theorem turn_loop {ns : List Int} {a : Sl} {K0 : Nat} (hK : K0 < 2 ^ 30) {P0 : Outs} (hnx : ∀ k', P0.nx (En ns a k' .no .no .no)) : ∀ (l : List D) (k : Nat), k + 100 * l.length ≤ K0 → ∀ δ, clr [3, 4, 5, 6, 7, 8] δ = En ns a k .no .no .no → forL (nameT 3) (tnB C) [3, 4, 5, 6, 7, 8] P0 l δ
  | [], k, hk, δ, e => by
    show P0.nx (clr [3, 4, 5, 6, 7, 8] δ)
    rw [e]
    exact hnx k
  | d :: r, k, hk, δ, e => by
    rw [List.length_cons] at hk
    show nameT 3 d (clr [3, 4, 5, 6, 7, 8] δ) _
    rw [e]
    refine spec__law_drawn (by omega) fun v k1 hv hk1 => ?_
    refine ⟨szl (show 3 ≤ 1000 by decide), ⟨show (1 : Int) ≤ 3 by decide, show (3 : Int) < 2 ^ 62 by decide⟩, by omega, fun j j0 j1 => ?_⟩
    obtain ⟨j, rfl⟩ := Int.eq_ofNat_of_zero_le j0
    have j1 : ((j : Nat) : Int) < 3 := j1
    show optD (atI ([.int 0, .int 1, .int 2] : List D) ((j : Nat) : Int)) _
    obtain ⟨x, ex, hx⟩ := atI_mem (xs := ([.int 0, .int 1, .int 2] : List D)) (j := j) (show j < 3 by omega)
    rw [ex]
    have hx : ∃ i : Nat, i ≤ 2 ∧ x = .int ((i : Nat) : Int) := by
      rcases List.mem_cons.mp hx with rfl | hx
      · exact ⟨0, by decide, rfl⟩
      rcases List.mem_cons.mp hx with rfl | hx
      · exact ⟨1, by decide, rfl⟩
      rw [List.mem_singleton.mp hx]
      exact ⟨2, by decide, rfl⟩
    obtain ⟨i, hi, rfl⟩ := hx
    refine ⟨⟨show -(2 ^ 62) ≤ ((i : Nat) : Int) by omega, show ((i : Nat) : Int) < 2 ^ 62 by omega⟩, ?_⟩
    have len : (rngD 0 (((i : Nat) : Int)).toNat).length = i := by
      unfold rngD
      rw [List.length_map, List.length_range, Int.toNat_natCast]
    refine bend_loop (ns := ns) (a := a) (t := .sh d) (K0 := k1 + 62) (by omega) _ (k1 + 1) 15 2 v hv (by decide) (by rw [len]; omega) (by rw [len]; omega) (by rw [len]; omega) (fun k' v' hv' hk' => ?_) _ rfl
    exact turn_end hv' fun δ2 e2 => turn_loop hK hnx r k' (by omega) δ2 e2
abbrev atB (C : Nat → Addr) : DN.S := seqS (purS (consW (vr 0) (consW (vr 1) (nilW))) 2) <|
  forS (itR1 (consW (ret (.int 8)) (nilW))) (nameT 3) (tnB C) [3, 4, 5, 6, 7, 8]
theorem at_loop {ns : List Int} {P0 : Outs} (hnx : P0.nx (.sh (.scr ns) :: List.replicate 14 .no)) : ∀ (l : List D), (∀ d ∈ l, ∃ i : Nat, d = .int ((i : Nat) : Int) ∧ i ≤ 63) → ∀ δ, clr [1, 2, 3, 4, 5, 6, 7, 8] δ = .sh (.scr ns) :: List.replicate 14 .no → forL (nameT 1) (atB C) [1, 2, 3, 4, 5, 6, 7, 8] P0 l δ
  | [], _, δ, e => by
    show P0.nx (clr [1, 2, 3, 4, 5, 6, 7, 8] δ)
    rw [e]
    exact hnx
  | d :: r, hl, δ, e => by
    obtain ⟨i, rfl, hi⟩ := hl d List.mem_cons_self
    show nameT 1 _ (clr [1, 2, 3, 4, 5, 6, 7, 8] δ) _
    rw [e]
    refine ⟨show (0 : Int) ≤ ((i : Nat) : Int) by omega, show ((i : Nat) : Int) ≤ 63 by omega, show 2 < 15 by decide, ⟨show -(2 ^ 62) ≤ (8 : Int) by decide, show (8 : Int) < 2 ^ 62 by decide⟩, ?_⟩
    refine turn_loop (ns := ns) (a := .sh (.int ((i : Nat) : Int))) (K0 := 63800) (by decide) (fun k' => ?_) (rngD 0 8) 63000 (by show 63000 + 100 * 8 ≤ 63800; decide) _ rfl
    exact at_loop hnx r (fun z hz => hl z (List.mem_cons_of_mem _ hz)) _ rfl
end Lw
set_option Elab.async false
set_option linter.all false
set_option maxRecDepth 100000
set_option maxHeartbeats 4000000
namespace Lw
open PySem PySem.Spec PyProof.Rows L2 TKS DN
variable {C : Nat → Addr}
theorem check_fitV {v : D} {N : List Str} {S : List Sen} {P : D → Prop} {R : Er → Prop} (ev : v = taleD S) (so : ∀ s ∈ S, SenOk s) (few : N.length ≤ 60) (all : ∀ s ∈ S, s.2 ∈ N) (len : S.length ≤ 999) (at_ : FirstAt S) (n : ¬ Loop S) (h : P .non) : f_check_tale C [v] P R := by
  subst ev
  exact check_fit so few all len at_ n h
theorem check_cycV {v : D} {N : List Str} {S : List Sen} {k : Nat} {P : D → Prop} {R : Er → Prop} (ev : v = taleD S) (so : ∀ s ∈ S, SenOk s) (few : N.length ≤ 60) (all : ∀ s ∈ S, s.2 ∈ N) (len : S.length ≤ 999) (at_ : FirstAt S) (hk : S.length = k + 1) (lp : Loop S) (n : ¬ Loop (S.take k)) (h : P (.tup [.str "cycle", nD k])) : f_check_tale C [v] P R := by
  subst ev
  exact check_cyc so few all len at_ hk lp n h
theorem pl_cyc (k : Nat) : Pl (.tup [.str "cycle", nD k]) := by
  have hz : PySem.PyData.strOk ("cycle" : Str) = true := by decide +kernel
  unfold Pl SeqAt.shaped nD pyD pyL pyD pyL pyD pyL PyData.canLay0 PyData.canLayAll0 PyData.canLay0 PyData.canLayAll0 PyData.canLay0 PyData.canLayAll0
  rw [hz]
  rfl
theorem if_same {x : D} (p : Pl x) {A B : Prop} (h : B) : if (!eqD x x) = true then A else B := by
  rw [eqD_refl p, Bool.not_true, if_neg nofun]
  exact h
abbrev strs0 (L : List Str) : List D := L.map D.str
/-- behind the names -/
abbrev lwE (C : Nat → Addr) : DN.S := seqS (setS 14 (ap2 gTimes (apN mkT (consW (apN mkT (consW (ret (.str "at")) (consW (ret (.str "a")) (nilW)))) (consW (apN mkT (consW (ret (.str "then")) (consW (ret (.str "b")) (nilW)))) (nilW)))) (ret (.int 99)))) <|
  seqS (ifS (tst (ap2 gNotN (callW (f_check_tale C) (consW (ap2 gPlus (vr 14) (apN mkT (consW (apN mkT (consW (ret (.str "at")) (consW (ret (.str "a")) (nilW)))) (consW (apN mkT (consW (ret (.str "then")) (consW (ret (.str "b")) (nilW)))) (nilW))))) (nilW))) (ret (.non)))) (retS (ret (.bl false))) (skipS)) <|
  seqS (ifS (tst (ap2 (gEqA true) (callW (f_check_tale C) (consW (ap2 gPlus (vr 14) (apN mkT (consW (apN mkT (consW (ret (.str "at")) (consW (ret (.str "b")) (nilW)))) (consW (apN mkT (consW (ret (.str "then")) (consW (ret (.str "a")) (nilW)))) (nilW))))) (nilW))) (apN mkT (consW (ret (.str "cycle")) (consW (ret (.int 199)) (nilW)))))) (retS (ret (.bl false))) (skipS)) <|
  retS (andV (ap2 gIsN (callW (f_check_tale C) (consW (apN mkT (nilW)) (nilW))) (ret (.non))) (ap2 (gEqA false) (callW (f_check_tale C) (consW (apN mkT (consW (apN mkT (consW (ret (.str "then")) (consW (ret (.str "a")) (nilW)))) (nilW))) (nilW))) (apN mkT (consW (ret (.str "sentence")) (consW (ret (.int 0)) (nilW))))))
theorem two_few : (["a", "b"] : List Str).length ≤ 60 := by decide
theorem law_end {x0 x9 x12 : Sl} {P : D → Prop} {R : Er → Prop} {n0 : DN.Env → Prop} (h : P (.bl true)) : lwE C [x0, .no, .no, .no, .no, .no, .no, .no, .no, x9, .no, .no, x12, .no, .no] { nx := n0, rt := fun d _ => P d, er := R } := by
  refine ⟨szl (show 2 ≤ 1000 by decide), szl (show 2 ≤ 1000 by decide), szl (show 2 ≤ 1000 by decide), ?_⟩
  refine ⟨nofun, show (2 : Int) ≤ 99 by decide, show (99 : Int) ≤ 1000 by decide, show 2 ≤ 1000 by decide, ?_⟩
  have el : (repL [D.tup [.str "at", .str "a"], .tup [.str "then", .str "b"]] 99).length = 198 := rfl
  refine ⟨szl (show 2 ≤ 1000 by decide), szl (show 2 ≤ 1000 by decide), szl (show 2 ≤ 1000 by decide), szl (show (repL [D.tup [.str "at", .str "a"], .tup [.str "then", .str "b"]] 99).length + 2 ≤ 1000 by rw [el]; decide), ?_⟩
  have e1 : D.tup (repL [D.tup [.str "at", .str "a"], .tup [.str "then", .str "b"]] 99 ++ [.tup [.str "at", .str "a"], .tup [.str "then", .str "b"]]) = taleD long1 := by
    show D.tup (repL ([(("at", "a") : Sen), ("then", "b")].map sD) 99 ++ [(("at", "a") : Sen), ("then", "b")].map sD) = D.tup (long1.map sD)
    rw [repL_map, ← List.map_append]
    rfl
  have e2 : D.tup (repL [D.tup [.str "at", .str "a"], .tup [.str "then", .str "b"]] 99 ++ [.tup [.str "at", .str "b"], .tup [.str "then", .str "a"]]) = taleD long2 := by
    show D.tup (repL ([(("at", "a") : Sen), ("then", "b")].map sD) 99 ++ [(("at", "b") : Sen), ("then", "a")].map sD) = D.tup (long2.map sD)
    rw [repL_map, ← List.map_append]
    rfl
  refine check_fitV e1 long1_so two_few long1_all (by rw [long1_len]; decide) long_at long1_fit ?_
  refine ⟨szl (show 2 ≤ 1000 by decide), szl (show 2 ≤ 1000 by decide), szl (show 2 ≤ 1000 by decide), szl (show (repL [D.tup [.str "at", .str "a"], .tup [.str "then", .str "b"]] 99).length + 2 ≤ 1000 by rw [el]; decide), ?_⟩
  refine check_cycV (k := 199) e2 long2_so two_few long2_all (by rw [long2_len]; decide) long_at (by rw [long2_len]) long2_lp long2_fit ?_
  refine ⟨szl (show 2 ≤ 1000 by decide), pl_cyc 199, pl_cyc 199, ?_⟩
  refine ⟨szl (Nat.zero_le _), ?_⟩
  refine check_fitV (S := []) (N := []) rfl nofun (by decide) nofun (by decide) nofun (no_loop (fun _ => 0) rfl) ?_
  refine ⟨szl (show 2 ≤ 1000 by decide), szl (show 1 ≤ 1000 by decide), ?_⟩
  refine spec_check (N := ["a"]) (d := .tup [.tup [.str "then", .str "a"]]) (thing_tale (S := [("then", "a")]) (senOk_of (by decide +kernel)) (by decide) (by decide +kernel) (by decide)) fun r hr => ?_
  have hd : Due (.tup [.tup [.str "then", .str "a"]]) (.tup [.str "sentence", nD 0]) := .sen (k := 0) (x := .tup [.str "then", .str "a"]) rfl (by decide +kernel) fun j _ hj => absurd hj (Nat.not_lt_zero j)
  rw [hr.uniq hd]
  have pls : Pl (.tup [.str "sentence", nD 0]) := by unfold Pl; decide +kernel
  refine ⟨szl (show 2 ≤ 1000 by decide), pls, pls, ?_⟩
  show P (.bl (eqD (.tup [.str "sentence", nD 0]) (.tup [.str "sentence", nD 0])))
  rw [eqD_refl pls]
  exact h
/-- the law's line of 60 -/
abbrev lwD (C : Nat → Addr) : DN.S := seqS (setS 12 (ap2 gPlus (apN mkT (consW (apN mkT (consW (ret (.str "at")) (consW (ap2 gIxA (vr 9) (ret (.int 0))) (nilW)))) (nilW))) (apN qTup (consW (lcW (itL (slW gCutA (vr 9) (partW (ret (.int 1))) (ret none))) (nameT 13) (ret true) (apN mkT (consW (ret (.str "then")) (consW (vr 13) (nilW)))) [13]) (nilW))))) <|
  seqS (ifS (orT (tst (ap2 gNotN (callW (f_check_tale C) (consW (vr 12) (nilW))) (ret (.non)))) (tst (ap2 (gEqA true) (callW (f_check_tale C) (consW (ap2 gPlus (vr 12) (apN mkT (consW (apN mkT (consW (ret (.str "then")) (consW (ap2 gIxA (vr 9) (ret (.int 0))) (nilW)))) (nilW)))) (nilW))) (apN mkT (consW (ret (.str "cycle")) (consW (ret (.int 60)) (nilW))))))) (retS (ret (.bl false))) (skipS)) <| lwE C
def thenD (d : D) : D := .tup [.str "then", d]
theorem nms_ix : atI (nmsL.map D.str) ((0 : Nat) : Int) = some (.str "aa") := by
  refine atI_nat ?_
  rw [nms_eq]
  rfl
theorem law_lineV {ns : List D} (e0 : atI ns ((0 : Nat) : Int) = some (.str "aa")) (e60 : ns.length ≤ 60) (e1 : D.tup ([.tup [.str "at", .str "aa"]] ++ (ns.drop 1).map thenD) = taleD lineS) (e2 : D.tup (([.tup [.str "at", .str "aa"]] ++ (ns.drop 1).map thenD) ++ [.tup [.str "then", .str "aa"]]) = taleD line2)
    {x0 : Sl} {P : D → Prop} {R : Er → Prop} {n0 : DN.Env → Prop} (h : P (.bl true)) : lwD C [x0, .no, .no, .no, .no, .no, .no, .no, .no, .sh (.lst ns), .no, .no, .no, .no, .no] { nx := n0, rt := fun d _ => P d, er := R } := by
  show optD (atI ns ((0 : Nat) : Int)) _
  rw [e0]
  refine ⟨szl (show 2 ≤ 1000 by decide), szl (show 1 ≤ 1000 by decide), ?_⟩
  show cL (nameT 13) (ret true) (DN.sL _) [13] _ (DN.cutD ns (some ((1 : Nat) : Int)) none) [] _
  rw [cut_from]
  refine lc_map thenD rfl (szl (by rw [List.length_drop]; omega)) (fun d hd acc N hl hN => ⟨szl (show 2 ≤ 1000 by decide), hl, hN⟩) ?_
  have el : ((ns.drop 1).map thenD).length ≤ 60 := by rw [List.length_map, List.length_drop]; omega
  refine ⟨szl (by show 1 + _ ≤ _; omega), ?_⟩
  refine check_fitV e1 line_so nms_few line_all (by rw [line_len]; decide) (at_cons rfl) line_fit ?_
  show optD (atI ns ((0 : Nat) : Int)) _
  rw [e0]
  refine ⟨szl (show 2 ≤ 1000 by decide), szl (show 1 ≤ 1000 by decide), szl (by rw [List.length_append]; show 1 + _ + 1 ≤ _; omega), ?_⟩
  refine check_cycV (k := 60) e2 line2_so nms_few line2_all (by rw [line2_len]; decide) (at_cons rfl) (by rw [line2_len]) line2_lp (by rw [line2_take]; exact line_fit) ?_
  refine ⟨szl (show 2 ≤ 1000 by decide), pl_cyc 60, pl_cyc 60, ?_⟩
  exact law_end h
theorem law_line {x0 : Sl} {P : D → Prop} {R : Er → Prop} {n0 : DN.Env → Prop} (h : P (.bl true)) : lwD C [x0, .no, .no, .no, .no, .no, .no, .no, .no, .sh (.lst (nmsL.map D.str)), .no, .no, .no, .no, .no] { nx := n0, rt := fun d _ => P d, er := R } := by
  have e1 : D.tup ([.tup [.str "at", .str "aa"]] ++ ((nmsL.map D.str).drop 1).map thenD) = taleD lineS := by
    show D.tup (.tup [.str "at", .str "aa"] :: ((nmsL.map D.str).drop 1).map thenD) = D.tup (lineS.map sD)
    unfold lineS
    rw [← List.map_drop, List.map_map, List.map_cons, List.map_map]
    rfl
  have e2 : D.tup (([.tup [.str "at", .str "aa"]] ++ ((nmsL.map D.str).drop 1).map thenD) ++ [.tup [.str "then", .str "aa"]]) = taleD line2 := by
    injection e1 with e1
    rw [e1]
    show D.tup (lineS.map sD ++ [(("then", "aa") : Sen)].map sD) = D.tup (line2.map sD)
    rw [← List.map_append]
    rfl
  exact law_lineV nms_ix (by rw [List.length_map]; exact nms_few) e1 e2 h
/-- the names, one letter after another -/
def nmF (acc : List D) (d : D) : List D := acc ++ (chs "abcdefghij").map fun o => .str (strOf d ++ strOf o)
theorem nmF_len : ∀ (l acc : List D), (l.foldl nmF acc).length = acc.length + 10 * l.length
  | [], acc => by rw [List.foldl_nil, List.length_nil]; omega
  | d :: r, acc => by
    have e : (nmF acc d).length = acc.length + 10 := by
      unfold nmF
      rw [List.length_append, List.length_map]
      rfl
    rw [List.foldl_cons, nmF_len r, e, List.length_cons]
    omega
theorem nms_is : (chs "abcdef").foldl nmF [] = nmsL.map D.str := by kernel_rfl
abbrev nmB (z : Str) : DN.S := setS 9 (ap2 gPlus (vr 9) (lcW (itS (ret (.str z))) (nameT 11) (ret true) (ap2 gPlus (vr 10) (vr 11)) [11]))
abbrev nmE (x0 : Sl) (l : List D) : DN.Env := [x0, .no, .no, .no, .no, .no, .no, .no, .no, .sh (.lst l), .no, .no, .no, .no, .no]
theorem chs_one {z : Str} {d : D} (h : d ∈ chs z) : ∃ c, d = .str ⟨#[c]⟩ := by
  obtain ⟨c, _, rfl⟩ := List.mem_map.mp h
  exact ⟨c, rfl⟩
theorem names_step {z : Str} {c : Nat} {x0 : Sl} {l : List D} {P0 : Outs} (hz : (chs z).length ≤ 20) (hl : l.length ≤ 100) (h : P0.nx [x0, .no, .no, .no, .no, .no, .no, .no, .no, .sh (.lst (l ++ (chs z).map fun o => .str ((⟨#[c]⟩ : Str) ++ strOf o))), .sh (.str ⟨#[c]⟩), .no, .no, .no, .no]) :
    nmB z [x0, .no, .no, .no, .no, .no, .no, .no, .no, .sh (.lst l), .sh (.str ⟨#[c]⟩), .no, .no, .no, .no] P0 := by
  show cL (nameT 11) (ret true) (DN.sL (ap2 gPlus (vr 10) (vr 11))) [11] _ (chs z) [] _
  refine lc_map (fun o => .str ((⟨#[c]⟩ : Str) ++ strOf o)) rfl (szl (by omega)) (fun o ho acc M hl hM => ?_) ?_
  · obtain ⟨b, rfl⟩ := chs_one ho
    exact ⟨szl (show 1 + 1 ≤ 1000 by decide), hl, hM⟩
  · exact ⟨szl (by rw [List.length_map]; omega), h⟩
theorem names_loop {x0 : Sl} {P0 : Outs} (h : P0.nx (nmE x0 (nmsL.map D.str))) : forL (nameT 10) (nmB "abcdefghij") [10] P0 (chs "abcdef") (nmE x0 []) := by
  refine forL_inv (nmE x0) nmF (fun _ => rfl) (chs "abcdef") [] (fun pre d r e N hN => ?_) (by rw [nms_is]; exact h) _ rfl
  have hp : pre.length < 6 := by
    have : (chs "abcdef").length = 6 := rfl
    rw [e, List.length_append, List.length_cons] at this
    omega
  obtain ⟨c, rfl⟩ := chs_one (z := "abcdef") (d := d) (by rw [e]; exact List.mem_append_right _ List.mem_cons_self)
  exact names_step (z := "abcdefghij") (l := pre.foldl nmF []) (by decide) (by rw [nmF_len, List.length_nil]; omega) (hN _ rfl)
theorem spec_law {ns : List Int} {P : D → Prop} {R : Er → Prop} (h : P (.bl true)) : f_law C [.scr ns] P R := by
  refine ⟨rfl, ?_⟩
  have em : ∃ m : Nat, (1 : Int) + (if ((ns.length : Nat) : Int) < 4 then ((ns.length : Nat) : Int) else 4) = ((m : Nat) : Int) ∧ m ≤ 5 := by
    by_cases c : ((ns.length : Nat) : Int) < 4
    · exact ⟨1 + ns.length, by rw [if_pos c]; omega, by omega⟩
    · exact ⟨5, by rw [if_neg c]; rfl, by decide⟩
  obtain ⟨m, em, m5⟩ := em
  show (-(2 ^ 62) ≤ (1 : Int) + (if ((ns.length : Nat) : Int) < 4 then ((ns.length : Nat) : Int) else 4) ∧ _) ∧ forL (nameT 1) (atB C) [1, 2, 3, 4, 5, 6, 7, 8] _ (rngD 0 ((1 : Int) + (if ((ns.length : Nat) : Int) < 4 then ((ns.length : Nat) : Int) else 4)).toNat) (.sh (.scr ns) :: List.replicate 14 .no)
  rw [em]
  refine ⟨⟨by omega, show ((m : Nat) : Int) < 2 ^ 62 by omega⟩, at_loop ?_ _ (fun d hd => ?_) _ rfl⟩
  · refine ⟨szl (Nat.zero_le _), ?_⟩
    refine names_loop (x0 := .sh (.scr ns)) ?_
    exact law_line h
  · obtain ⟨i, hi, rfl⟩ := List.mem_map.mp hd
    have := List.mem_range.mp hi
    rw [Int.toNat_natCast] at this
    exact ⟨i, by rw [Int.zero_add], by omega⟩
end Lw
set_option Elab.async false
set_option linter.all false
set_option maxRecDepth 100000
set_option maxHeartbeats 4000000
namespace PySem
namespace HandSPX
open Builtin Builtin.ObjectAttr
section
variable {M : Model} {A : Around} {E : Value → Shared → Prop} {h : Heap} {g : Array GenState} {d : Drawn} {t : Nat} {os : OsState}
variable {cn q : Str} {C N : Addr} {bas tl tlB : List Value} {hdd : Bool} {sls : List Str} {sbs : List Value} {abst : Bool} {cll : Option Bool} {dcp : Option Addr} {e0 e1 e2 e3 e5 : Option Value} {B mk ini : String}
theorem kx_check (F : ExcBaseFacts B mk ini tlB) (htl : ∀ X : String, tl.contains (.type X) = tlB.contains (.type X)) {given : List Value} {kws : List (Str × Value)} {Q : Unit → Shared → Prop} (hcl : h.get? C = some (excClassObj cn q C N bas tl hdd sls sbs abst cll dcp e0 e1 e2 e3 e5 mk)) (hq : Q () ⟨h, g, d, t, os⟩) : wpAny M A (checkBuiltinCall mk ⟨.ref C :: given, kws⟩) Q E ⟨h, g, d, t, os⟩ := by
  have hin : (Value.ref C :: tl).contains (.type B) = true := by rw [List.contains_cons, htl, F.hasB, Bool.or_true]
  have hst := F.noStar
  simp only [checkBuiltinCall, F.newKind, F.newSplit, F.newRow]
  repeat (first | refine wpAny_loadPart_at hcl ?_ | (refine wpAny_isSubtype_exc hcl ?_; rw [hin]) | refine wpAny_staticBase_exc hcl ?_ | refine wpAny_madeBy_exc hcl ?_ | simp only [bne_self_eq_false, Bool.false_eq_true, if_false] | wp_step)
  exact hq
end
section
variable {pg : Program} {w : World} {A : Around} {E : Value → Shared → Prop} {R : Result → Shared → Prop} {h : Heap} {g : Array GenState} {d : Drawn} {t : Nat} {os : OsState}
variable {cn q : Str} {C N : Addr} {bas tl tlB : List Value} {hdd : Bool} {sls : List Str} {sbs : List Value} {abst : Bool} {cll : Option Bool} {dcp : Option Addr} {e0 e1 e2 e3 e5 : Option Value} {B mk ini : String}
theorem kx_new (F : ExcBaseFacts B mk ini tlB) (htl : ∀ X : String, tl.contains (.type X) = tlB.contains (.type X)) {given : List Value} {kws : List (Str × Value)} (hcl : h.get? C = some (excClassObj cn q C N bas tl hdd sls sbs abst cll dcp e0 e1 e2 e3 e5 mk)) (hq : R (.ok (.ret (.ref (h.objs.size + 1)))) ⟨(h.push { cls := .type "tuple", data := .seq given.toArray }).push
      { cls := .ref C, data := .fields #[.ref h.objs.size, .none, .none, .none, .bool false, .none] }, g, d, t, os⟩) (hfit : given.length ≤ sizeLine) :
    codeAny (model pg w) A (.builtin mk ⟨.ref C :: given, kws⟩) R ⟨h, g, d, t, os⟩ := by
  have hen := F.ends
  have hinB : (Value.ref C :: tl).contains (.type B) = true := by rw [List.contains_cons, htl, F.hasB, Bool.or_true]
  have hinA : (Value.ref C :: tl).contains (.type "AttributeError") = false := by rw [List.contains_cons, htl, F.noAttr]; rfl
  have hinN : (Value.ref C :: tl).contains (.type "NameError") = false := by rw [List.contains_cons, htl, F.noName]; rfl
  refine codeAny_builtinAt F.entry ?_; unfold Builtin.«BaseException.__new__»
  refine wpAt_bind ?_; show wpAt _ _ _ (stack >>= _) _ _ _; refine wpAt_bind (wpAt_stack fun at1 under1 => wpAt_of_wpAny ?_); wp_walk; refine wpAt_of_wpAny ?_
  rw [F.owner]
  repeat (first | with_reducible refine wpAny_madeHere_exc F.canon hcl ?_ | with_reducible refine wpAny_loadPart_at hcl ?_ | (with_reducible refine wpAny_isSubtype_exc hcl ?_; first | rw [hinB] | rw [hinA] | rw [hinN]) | wp_step)
  show R _ _
  rw [Heap.size_push]
  exact hq
theorem kx_type_call (F : ExcBaseFacts B mk ini tlB) (htl : ∀ X : String, tl.contains (.type X) = tlB.contains (.type X)) {given : List Value} {kws : List (Str × Value)} {fI : Addr} {Q : Fin → Shared → Prop} (hcl : h.get? C = some (excClassObj cn q C N bas tl hdd sls sbs abst cll dcp e0 e1 e2 e3 e5 mk)) (hi : W.Looks (model pg w) h (typeLookup (.ref C) "__init__") (some (.ref fI))) (hb : ∀ self, W.Looks (model pg w) h (bindSpecial (.ref fI) self) (.ref fI, [self])) (hfit : given.length ≤ sizeLine) (hq : codeAny (model pg w) A (.call (.ref fI) ⟨.ref (h.objs.size + 1) :: given, kws⟩)
      (fun r s' => match r with | .ok (.ret v) => v = .none ∧ Q (.done (.ret (.ref (h.objs.size + 1)))) s' | .ok _ => False | .error e => E e s')
      ⟨(h.push (W.kdv_tup given)).push (excO C h.objs.size), g, d, t, os⟩) :
    wpAny (model pg w) A (Builtin.«type.__call__» ⟨.ref C :: given, kws⟩) Q E ⟨h, g, d, t, os⟩ := by
  repeat (first | with_reducible refine wpAny_loadPart_at hcl ?_ | with_reducible refine wpAny_madeBy_exc hcl ?_ | wp_step)
  refine codeAny_call_builtin_code (Code.quiet_builtin _ F.quiet) (kx_check F htl hcl ?_)
  refine kx_new F htl hcl ?_ hfit
  show wpAny _ _ _ _ _ _
  have k : ∀ b o, h.get? b = some o → ((h.push (W.kdv_tup given)).push (excO C h.objs.size)).get? b = some o := fun b o e => Heap.get?_push_of_some _ (Heap.get?_push_of_some _ e)
  have hcl' := k _ _ hcl
  have hgot : ((h.push (W.kdv_tup given)).push (excO C h.objs.size)).get? (h.objs.size + 1) = some (excO C h.objs.size) := by heap_get
  have hinC : (Value.ref C :: tl).contains (.ref C) = true := by simp
  have li := hi.keeps k
  have lb := (hb (.ref (h.objs.size + 1))).keeps k
  unfold isInstance
  repeat (first | with_reducible refine wpAny_loadPart_at hgot ?_ | (with_reducible refine wpAny_isSubtype_exc hcl' ?_; rw [hinC]) | wp_step)
  show wpAny _ _ (typeLookup (.ref C) _) _ _ _
  refine li.at ?_
  refine wpAny_holding (wpAny_bind (lb.at ?_))
  refine wpAny_bind (wpAny_call (codeAny_mono hq fun r s' z => ?_))
  rcases r with e | (v | _ | _ | _) <;> first | exact z | exact z.elim | skip
  obtain ⟨rfl, z⟩ := z
  first
    | exact wpAny_pure (wpAny_pure z)
    | (wp_walk; exact z)
theorem kx_call (F : ExcBaseFacts B mk ini tlB) (htl : ∀ X : String, tl.contains (.type X) = tlB.contains (.type X)) {given : List Value} {kws : List (Str × Value)} {fI : Addr} (hcl : h.get? C = some (excClassObj cn q C N bas tl hdd sls sbs abst cll dcp e0 e1 e2 e3 e5 mk)) (hi : W.Looks (model pg w) h (typeLookup (.ref C) "__init__") (some (.ref fI))) (hb : ∀ self, W.Looks (model pg w) h (bindSpecial (.ref fI) self) (.ref fI, [self])) (hfit : given.length ≤ sizeLine) (hq : codeAny (model pg w) (A.under (.builtin "type.__call__" ⟨.ref C :: given, kws⟩)) (.call (.ref fI) ⟨.ref (h.objs.size + 1) :: given, kws⟩) (W.InitBack (h.objs.size + 1) R)
      ⟨(h.push (W.kdv_tup given)).push (excO C h.objs.size), g, d, t, os⟩) :
    codeAny (model pg w) A (.call (.ref C) ⟨given, kws⟩) R ⟨h, g, d, t, os⟩ := by
  have t1 := tc_lookup
  have t2 := tc_bind (.ref C)
  have hty : (⟨h, g, d, t, os⟩ : Shared).TypeIs (.ref C) "type" := ⟨_, hcl, rfl⟩
  refine codeAny_of_tree ?_
  show wpAny _ _ (callAny (.ref C) _) _ _ _
  repeat (any_goals (first | assumption | with_reducible refine wpAny_loadPart_at hcl ?_ | wp_step))
  refine ⟨rfl, ?_⟩
  refine codeAny_call_builtin_at (Code.quiet_builtin _ (by decide +kernel)) entry_typeCall (wpAny_check_type_call_sub hcl (kx_type_call F htl hcl hi hb hfit ?_))
  refine codeAny_mono hq fun r s' z => ?_
  rcases r with e | (v | _ | _ | _) <;> exact z
end
end HandSPX
end PySem
set_option Elab.async false
set_option linter.all false
set_option maxRecDepth 100000
set_option maxHeartbeats 4000000
namespace L2
open PySem PySem.Spec PyProof.Rows
section
variable {X : Cx} {CX : CXT} {k n : Nat} {C fI : Addr} {fd : FuncData} {ps ks : List Str} {sp : Sp} {E : XK} {x f : Str} {p pos : Pos} {e : Expr} {es : List Expr} {kws : List Keyword} {t tk : TA} {te : TE} {g : List Value → List Value → List Value} {gV : List V → List V → List V}
theorem run_exk {pins : List (Addr × Obj)} {σ : St} {H : Hp} {s : Shared} {Q : VK} {us ws : List Value} {vs zs : List V} (T : OexC X.K C) (iC : PySem.W.findIn X.K (.ref C) "__init__" = some (some (.ref fI))) (tI : PySem.W.typeIn X.K (.ref fI) = some (.type "function"))
    (F : FnOk X.prog X.w X.K X.mg X.base CX k fI fd ps sp) (hr : Room (k + 1) X.A) (hb : KBn X.K fd ps (n + 1) ks g gV)
    (hx : Passes CX X E) (I : Inv X pins σ H s) (r : Vals vs us) (rz : Vals zs ws) (l1 : vs.length = n) (l2 : zs.length = ks.length) (lz : vs.length ≤ 1000)
    (h : ∀ a, H a = none → sp (gV (.ref a :: vs) zs) (upd H a (exo a C none)) (fun v H2 => v = .non ∧ Q (.ref a) H2) E) :
    wpAny (model X.prog X.w) X.A (call (.ref C) us (ks.zip ws)) (EP X pins σ Q) X.xe s := by
  obtain ⟨nm, q, N, bs, bm, sn, sub, ab, col, dd, k0, k1, k2, k3, k5, hC, hbm⟩ := T.cls
  obtain ⟨hp, gg, dr, tk, os⟩ := s
  have hsz : hp.objs.size ≤ hp.objs.size + 1 := Nat.le_succ _
  have hn : H (hp.objs.size + 1) = none := I.hok.fresh hsz
  have hq := h (hp.objs.size + 1) hn
  have kk : ∀ b o, hp.get? b = some o → ((hp.push (PySem.W.kdv_tup us)).push (PySem.HandSPX.excO C hp.objs.size)).get? b = some o := fun b o e => Heap.get?_push_of_some _ (Heap.get?_push_of_some _ e)
  have hget : ((hp.push (PySem.W.kdv_tup us)).push (PySem.HandSPX.excO C hp.objs.size)).get? (hp.objs.size + 1) = some (PySem.HandSPX.excO C hp.objs.size) := by heap_get
  have I2 : Inv X pins σ (upd H (hp.objs.size + 1) (exo (hp.objs.size + 1) C none)) ⟨(hp.push (PySem.W.kdv_tup us)).push (PySem.HandSPX.excO C hp.objs.size), gg, dr, tk, os⟩ :=
    I.laid (t' := tk) (a := hp.objs.size + 1) (o := exo (hp.objs.size + 1) C none) (h' := (hp.push (PySem.W.kdv_tup us)).push (PySem.HandSPX.excO C hp.objs.size)) kk hsz (exo_ok hget)
  have r1 : Vals (V.ref (hp.objs.size + 1) :: vs) (Value.ref (hp.objs.size + 1) :: us) := .cons rfl r
  have r2 := hb.rel r1 rz
  have e1 : (Value.ref (hp.objs.size + 1) :: us).length = n + 1 := r1.length.symm.trans (congrArg Nat.succ l1)
  have e2 : ws.length = ks.length := rz.length.symm.trans l2
  have hus : us.length ≤ sizeLine := by
    rw [← Paired.length r, sizeLine_eq]
    omega
  refine wpAny_call (PySem.HandSPX.kx_call PySem.F.excBase_ValueError (fun Y => PySem.HandSPX.refsVE_contains Y bm hbm) (I.kIn _ _ hC) (PySem.W.looks_findIn I.kIn iC) (fun self => PySem.W.bind_fn I.kIn self tI) hus
    (codeAny_mono (F.run _ X.stack _ _ ⟨Value.ref (hp.objs.size + 1) :: us, ks.zip ws⟩ (g (Value.ref (hp.objs.size + 1) :: us) ws) _ _ E (hr.make C us (ks.zip ws)) (I2.env0.make C us (ks.zip ws)) (hb.to _ (Value.ref (hp.objs.size + 1) :: us) ws I2.kIn e1 e2) r2 hq) fun r s' hq' => ?_))
  cases r with
  | error er => exact hx pins σ _ _ er s' I2 hq'
  | ok fl =>
    cases fl with
    | ret u =>
      obtain ⟨v, H', I3, rv, ev, q3⟩ := I2.after hq'
      subst ev
      exact ⟨rv, ⟨V.ref (hp.objs.size + 1), H', I3, rfl, q3⟩⟩
    | next => exact False.elim hq'
    | brk => exact False.elim hq'
    | cont => exact False.elim hq'
/-- C(e, .., k = v, ..), C an own exception class with its own __init__ -/
def tExk (C : Addr) (n m : Nat) (sp : Sp) (gV : List V → List V → List V) (E : XK) (t tk : TA) : TE := fun σ H Q => t σ H fun vs H1 => tk σ H1 fun zs H2 => vs.length = n ∧ zs.length = m ∧
  ∀ a, H2 a = none → sp (gV (.ref a :: vs) zs) (upd H2 a (exo a C none)) (fun v H3 => v = .non ∧ Q (.ref a) H3) E
/-- one positional argument -/
theorem pe_exp (T : OexC X.K C) (iC : PySem.W.findIn X.K (.ref C) "__init__" = some (some (.ref fI))) (tI : PySem.W.typeIn X.K (.ref fI) = some (.type "function"))
    (F : FnOk X.prog X.w X.K X.mg X.base CX k fI fd ps sp) (hr : Room (k + 1) X.A) (hb : KBn X.K fd ps 2 [] g gV) (hx : Passes CX X E) (hg : Gl X x) (hm : X.mg x = some (.ref C)) (ha : PE X e te)
    (hdb : (x == ("__debug__" : Str)) = false := by decide) (he : starEach [e] X.env = (false, eval e X.env) :: starEach [] X.env := by rfl) (hpl : (backTo pos (starEach ([] : List Expr) X.env)).any (·.1) = false := by rfl) :
    PE X (.Call (.Name x p) [e] [] pos) (tExk C 1 0 sp gV E (tCons te tNil) tNil) := by
  refine ⟨fun pins s σ H Q I h => ?_⟩
  refine wpAny_Call_Name_kw (ld_glob I hg hm ?_ hdb)
  refine PySem.W.callWith_K (h₀ := X.base) I.ok.mod.kin T.kC (thn ((pa_cons ha pa_nil he).run pos pins s σ H _ I h) fun us s1 ⟨vs, H1, I1, r1, l1, l2, q1⟩ => ⟨I1.kIn, ?_⟩) he hpl
  exact run_exk (ks := []) (ws := []) (zs := []) T iC tI F hr hb hx I1 r1 .nil l1 l2 (by omega) q1
/-- no argument -/
theorem pe_ex0 (T : OexC X.K C) (iC : PySem.W.findIn X.K (.ref C) "__init__" = some (some (.ref fI))) (tI : PySem.W.typeIn X.K (.ref fI) = some (.type "function"))
    (F : FnOk X.prog X.w X.K X.mg X.base CX k fI fd ps sp) (hr : Room (k + 1) X.A) (hb : KBn X.K fd ps 1 [] g gV) (hx : Passes CX X E) (hg : Gl X x) (hm : X.mg x = some (.ref C))
    (hdb : (x == ("__debug__" : Str)) = false := by decide) :
    PE X (.Call (.Name x p) [] [] pos) (tExk C 0 0 sp gV E tNil tNil) := by
  refine ⟨fun pins s σ H Q I h => ?_⟩
  refine wpAny_Call_Name_kw (ld_glob I hg hm ?_ hdb)
  obtain ⟨l1, l2, q1⟩ := h
  exact PySem.W.callWith_K0 I.kIn T.kC (run_exk (us := []) (vs := []) (ks := []) (ws := []) (zs := []) T iC tI F hr hb hx I .nil .nil l1 l2 (by omega) q1)
/-- keywords alone -/
theorem pe_exkw (T : OexC X.K C) (iC : PySem.W.findIn X.K (.ref C) "__init__" = some (some (.ref fI))) (tI : PySem.W.typeIn X.K (.ref fI) = some (.type "function"))
    (F : FnOk X.prog X.w X.K X.mg X.base CX k fI fd ps sp) (hr : Room (k + 1) X.A) (hb : KBn X.K fd ps 1 ks g gV) (hx : Passes CX X E) (hg : Gl X x) (hm : X.mg x = some (.ref C)) (hkw : PK X kws tk)
    (hall : (backToKw pos (keywordEach kws X.env)).all (·.1.isSome) = true := by rfl) (hks : (backToKw pos (keywordEach kws X.env)).filterMap (·.1) = ks := by rfl)
    (hdb : (x == ("__debug__" : Str)) = false := by decide)
    (hpl : ((backTo pos (starEach ([] : List Expr) X.env)).any (·.1) || (backToKw pos (keywordEach kws X.env)).any (·.1.isNone)) = false := by rfl) :
    PE X (.Call (.Name x p) [] kws pos) (tExk C 0 ks.length sp gV E tNil tk) := by
  refine ⟨fun pins s σ H Q I h => ?_⟩
  refine wpAny_Call_Name_kw (ld_glob I hg hm ?_ hdb)
  refine PySem.W.callWith_KW0 (h₀ := X.base) I.ok.mod.kin T.kC hall ?_ hpl
  refine thn (hkw.run pos pins s σ H _ I h) fun ws s2 ⟨zs, H2, I2, rz, l1, l2, q2⟩ => ⟨I2.kIn, ?_⟩
  rw [hks]
  exact run_exk (us := []) (vs := []) T iC tI F hr hb hx I2 .nil rz l1 l2 (by omega) q2
/-- X(), an own exception class without own __init__ -/
theorem pe_exn {bmB : List Value} {B newId initId : String} (F : ExcBaseFacts B newId initId bmB) (q : PySem.W.excIn X.K C bmB newId = true) (gC : X.mg x = some (.ref C)) (kC : PySem.W.keepIn X.K (.ref C) = true) (hg : Gl X x)
    (hdb : (x == ("__debug__" : Str)) = false := by decide) :
    PE X (.Call (.Name x p) [] [] pos) (fun σ H Q => ∀ a, H a = none → Q (.ref a) (upd H a (ExO (.ref C) a))) := by
  refine ⟨fun pins s σ H Q I h => ?_⟩
  refine wpAny_Call_Name_kw (ld_glob I hg gC ?_ hdb)
  refine PySem.W.callWith_K0 I.kIn kC ?_
  obtain ⟨bm, N, nm, qn, bs, hdct, sn, sub, ab, col, dd, k0, k1, k2, k3, k5, mN, hC, hN, hni, T⟩ := exc_obj I.kIn q
  obtain ⟨hp, gg, dr, tk, os⟩ := s
  refine wpAny_call_exc_subT F T hC hN hni (fun h' a hm => ?_) (by show 0 ≤ sizeLine; exact Nat.zero_le _)
  have hn : H a = none := I.hok.gone hm.new
  obtain ⟨t, ht, _, _⟩ := hm.there
  exact ⟨.ref a, upd H a (ExO (.ref C) a), I.laidN hm.keeps hm.new hn (exO_ok ht ⟨rfl, rfl⟩ rfl rfl rfl (show 4 < 6 by decide)), rfl, h a hn⟩
/-- T(), a built-in exception as a value -/
theorem pe_exb {T N I : String} (F : ExcB T N I) (hg : Gl X x) (hm : X.mg x = none) (hv : bootBuiltins x = some (.type T)) (hn : x ≠ "__name__" := by decide) (hdb : (x == ("__debug__" : Str)) = false := by decide) :
    PE X (.Call (.Name x p) [] [] pos) (fun σ H Q => ∀ a, H a = none → Q (.ref a) (upd H a (ExO (.type T) a))) := by
  refine ⟨fun pins s σ H Q I h => ?_⟩
  refine wpAny_Call_Name_kw (ld_blt I hg hm hv ?_ hn hdb)
  obtain ⟨hp1, g1, d1, tk1, os1⟩ := s
  refine PyProof.Rows.callWith_type0 (wpAny_call_exc F.call (fun h' a mk => ?_) (Nat.zero_le _))
  have hm := PySem.Heap.MadeExc.of mk
  have hn : H a = none := I.hok.gone hm.new
  obtain ⟨t, ht, _, _⟩ := hm.there
  exact ⟨.ref a, upd H a (ExO (.type T) a), I.laidN hm.keeps hm.new hn (exO_ok ht ⟨rfl, rfl⟩ rfl rfl rfl (show 4 < 6 by decide)), rfl, h a hn⟩
/-- what the written part says of an own class of exceptions -/
structure XcA (K : PySem.W.Frag) (C : Addr) : Prop where
  hg : PySem.W.findIn K (.ref C) "__getattribute__" = some (some (.builtin "BaseException.__getattribute__"))
  hk : PySem.W.findIn K (.ref C) "__getattr__" = some none
  hs : PySem.W.subIn K (.ref C) (.type "BaseException") = some true
  hd : PySem.W.hasDictIn K C = true
  ha : PySem.W.findIn K (.ref C) "__class__" = some (some (.builtin "object.__class__"))
  hn : PySem.W.specialIn K (.builtin "object.__class__") "__get__" = some (some (.builtin "getset_descriptor.__get__"))
  ht : PySem.W.takesIn K (.builtin "object.__class__") = some true
  hm : PySem.W.mroIn K C (.type "object") = some true
/-- at a: an exception, an instance of cls -/
inductive ExV (K : PySem.W.Frag) (H : Hp) (a : Addr) : Value → Prop where
  | dict {C d : Addr} {fs : List (Str × V)} (e : H a = some (exo a C (some d))) (e2 : H d = some (exd d fs)) (A : XcA K C) : ExV K H a (.ref C)
  | own {C : Addr} (e : H a = some (ExO (.ref C) a)) (A : XcA K C) : ExV K H a (.ref C)
  | blt {T : String} (e : H a = some (ExO (.type T) a)) (FX : ExcAttrFacts T) (lk : typeLookup (.type T) "__class__" = pure (some (.builtin "object.__class__"))) (so : isSubtype (.type T) (.type (".".intercalate ("object.__class__".cutAt '.').dropLast)) = pure true) (nb : (Value.type T == Value.type "builtin_function_or_method") = false) : ExV K H a (.type T)
theorem exO_at {P : Program} {w : World} {H : Hp} {h : Heap} {a : Addr} {cls : Value} (hok : HOk P w H h) (e : H a = some (ExO cls a)) : ∃ (oe : Obj) (vs : Array Value), h.get? a = some oe ∧ Zc cls none oe ∧ oe.data = .fields vs := by
  have z : ObjOk P w H h a (.ext fun h => ∃ (oe : Obj) (vs : Array Value), h.get? a = some oe ∧ Zc cls none oe ∧ oe.data = .fields vs ∧ vs[1]? = some .none ∧ vs[2]? = some .none ∧ 4 < vs.size) := hok a _ e
  obtain ⟨oe, vs, h1, h2, h3, _⟩ := z.1
  exact ⟨oe, vs, h1, h2, h3⟩
def rIsX (K : PySem.W.Frag) : List V → Hp → VK → Prop := fun xs H Q => ∃ (a : Addr) (c : V) (t u : Value) (b : Bool), xs = [.ref a, c] ∧ ClsV c u ∧ ExV K H a t ∧ PySem.W.kitOne K t u = some b ∧ Q (.bl b) H
theorem XcA.cls {K : PySem.W.Frag} (A : XcA K C) : (PySem.W.clsIn K C).isSome = true := by
  obtain ⟨cd, hc, _⟩ := PySem.W.any_some A.hd
  rw [hc]; rfl
theorem call_isX : CallR X (.builtin "isinstance") (rIsX X.K) := by
  intro pins s σ H xs us Q I r h
  obtain ⟨a, c, t, u, b, rfl, k, ty, e, q⟩ := h
  obtain ⟨u1, u2, rfl, r1, r2⟩ := vals2 r
  have e2 := k.eq r2
  subst e2
  cases (show u1 = Value.ref a from r1)
  cases ty with
  | @dict C d fs e1 e3 A =>
    obtain ⟨t1, ho⟩ := exo_at I.hok e1
    obtain ⟨mA, hns, rel⟩ := exd_at I.hok e3
    obtain ⟨oD, _, _, hoD, _, _⟩ := hns
    have J : PySem.W.InstAt s.heap a { cls := .ref C, dict := some d, data := .fields #[.ref t1, .none, .none, .none, .bool false, .none] } C (some oD) := ⟨ho, rfl, rfl, hoD⟩
    exact PySem.W.kia_one (PySem.W.kitx_exc A.cls A.hg A.hk A.hs A.ha A.hn A.ht A.hm) I.kIn J e (fun z => nomatch z) fun tk => ⟨.bl b, H, I.tok tk, rfl, q⟩
  | @own C e1 A =>
    obtain ⟨oe, vs, ho, hz, hd⟩ := exO_at I.hok e1
    have J : PySem.W.InstAt s.heap a oe C none := by
      obtain ⟨oc, od, oda, osl⟩ := oe
      obtain ⟨h1, h2⟩ := hz
      dsimp only at h1 h2 hd
      subst h1 h2 hd
      exact ⟨ho, rfl, rfl, trivial⟩
    exact PySem.W.kia_one (PySem.W.kitx_exc A.cls A.hg A.hk A.hs A.ha A.hn A.ht A.hm) I.kIn J e (fun z => nomatch z) fun tk => ⟨.bl b, H, I.tok tk, rfl, q⟩
  | @blt T e1 FX lk so nb =>
    obtain ⟨oe, vs, ho, hz, hd⟩ := exO_at I.hok e1
    exact PySem.W.kia_one (PySem.W.kitx_bexc FX lk so nb) I.kIn ⟨oe, ho, hz.1⟩ e (fun z => nomatch z) fun tk => ⟨.bl b, H, I.tok tk, rfl, q⟩
/-- e.f of an exception held as a value -/
def tExF (K : PySem.W.Frag) (f : Str) (te : TE) : TE := fun σ H Q => te σ H fun x H1 => ∃ (a C d : Addr) (fs : List (Str × V)) (v : V), x = .ref a ∧ H1 a = some (exo a C (some d)) ∧ H1 d = some (exd d fs) ∧ XcA K C ∧ PySem.W.findIn K (.ref C) f = some none ∧ fs.lookup f = some v ∧ Q v H1
theorem pe_exf (he : PE X e te) (hb : attributeBase e f X.env (eval e X.env) = eval e X.env := by rfl) : PE X (.Attribute e f pos) (tExF X.K f te) := by
  refine ⟨fun pins s σ H Q I h => ?_⟩
  refine attr_of hb (thn (he.run pins s σ H _ I h) fun u s1 hh => ?_)
  obtain ⟨x, H1, I1, rx, a, C, d, fs, v, ex, e1, e2, A, hno, hl, q⟩ := hh
  subst ex
  obtain rfl : u = Value.ref a := rx
  obtain ⟨t1, ho⟩ := exo_at I1.hok e1
  obtain ⟨mA, hns, rel⟩ := exd_at I1.hok e2
  obtain ⟨u, hu, ru⟩ := RelO.some_of (v := v) (o := mA f) (by rw [← hl]; exact rel f)
  obtain ⟨od, hod, hlk⟩ := lookIn_ns hns
  have J : PySem.W.InstAt s1.heap a { cls := .ref C, dict := some d, data := .fields #[.ref t1, .none, .none, .none, .bool false, .none] } C (some od) := ⟨ho, rfl, rfl, hod⟩
  exact HandSPX.exc_get I1.kIn J A.hg A.hk A.hs (PySem.W.findObj_own A.hd hno rfl (by rw [hlk, hu])) (handed_of ru) ⟨v, H1, I1.tok _, ru, q⟩
/-- the __init__ that keeps its one argument as the field f -/
def spInit (K : PySem.W.Frag) (f : Str) : Sp := fun vs H Q _ => ∃ (a C : Addr) (v : V), vs = [.ref a, v] ∧ OexC K C ∧ PySem.W.findIn K (.ref C) f = some none ∧ H a = some (exo a C none) ∧
  ∀ dx, H dx = none → dx ≠ a → Q .non (upd (upd H dx (exd dx [(f, v)])) a (exo a C (some dx)))
end
end L2
set_option Elab.async false
set_option linter.all false
set_option maxRecDepth 100000
set_option maxHeartbeats 4000000
namespace L2
open PySem PySem.Spec PyProof.Rows
/-- the class at C has an __init__ that keeps one argument as the field f; how its calls bind -/
structure Ini (P : Program) (w : World) (K : PySem.W.Frag) (mg : Str → Option Value) (base : Heap) (C : Addr) (f : Str) : Prop where
  ex : ∃ (fI : Addr) (fd : FuncData), FnOk P w K mg base CX0 1 fI fd ["self", f] (spInit K f) ∧ PySem.W.findIn K (.ref C) "__init__" = some (some (.ref fI)) ∧ PySem.W.typeIn K (.ref fI) = some (.type "function") ∧
    (∃ g, KBn K fd ["self", f] 2 [] g (fun us _ => us)) ∧ (∃ g, KBn K fd ["self", f] 1 [f] g (fun us zs => us ++ zs)) ∧ (∃ g, KBn K fd ["self", f] 1 [] g (fun us _ => us ++ [.non]))
  no : PySem.W.findIn K (.ref C) f = some none
/-- at a, d: an instance of C that holds f = v -/
def Err (H : Hp) (C : Addr) (f : Str) (v x : V) : Prop := ∃ a d, x = .ref a ∧ H a = some (exo a C (some d)) ∧ H d = some (exd d [(f, v)])
theorem Err.same {H H' : Hp} {C : Addr} {f : Str} {v x : V} (s : Same H H') (h : Err H C f v x) : Err H' C f v x := by
  obtain ⟨a, d, e, h1, h2⟩ := h
  exact ⟨a, d, e, s _ _ h1, s _ _ h2⟩
def newOk (C : Addr) (f : Str) (v : V) (H : Hp) (Q : VK) : Prop := ∀ x H', Same H H' → Err H' C f v x → Q x H'
theorem newOk.init {K : PySem.W.Frag} {C : Addr} {f : Str} {v : V} {H : Hp} {Q : VK} (O : OexC K C) (no : PySem.W.findIn K (.ref C) f = some none) (q : newOk C f v H Q) (a : Addr) (ha : H a = none) :
    spInit K f [.ref a, v] (upd H a (exo a C none)) (fun u H2 => u = .non ∧ Q (.ref a) H2) E0 := by
  refine ⟨a, C, v, rfl, O, no, upd_same, fun d hd ne => ⟨rfl, q _ _ (fun b o e => ?_) ⟨a, d, rfl, upd_same, ?_⟩⟩⟩
  · have hb : b ≠ a := ne_of_none e ha
    have hd' : b ≠ d := fun z => by
      rw [z] at e hb
      rw [upd_ne hb, e] at hd
      cases hd
    rw [upd_ne hb, upd_ne hd', upd_ne hb]
    exact e
  · rw [upd_ne ne, upd_same]
section
variable {X : Cx} {x : Str} {C : Addr} {f : Str} {p pos : Pos} {e : Expr} {te : TE}
def tNewP (C : Addr) (f : Str) (te : TE) : TE := fun σ H Q => te σ H fun v H1 => newOk C f v H1 Q
theorem PE.to {t u : TE} (h : PE X e t) (i : ∀ σ H Q, u σ H Q → t σ H Q) : PE X e u := ⟨fun pins s σ H Q I hw => h.run pins s σ H Q I (i σ H Q hw)⟩
theorem pe_iniP (J : Ini X.prog X.w X.K X.mg X.base C f) (O : OexC X.K C) (hr : Room 2 X.A) (hg : Gl X x) (hm : X.mg x = some (.ref C)) (ha : PE X e te) (mono : ∀ {σ H} {Q Q' : VK}, te σ H Q → (∀ v H1, Q v H1 → Q' v H1) → te σ H Q' := by exact fun h i => by first | exact i _ _ h | exact ⟨_, h.choose_spec.1, i _ _ h.choose_spec.2⟩)
    (hdb : (x == ("__debug__" : Str)) = false := by decide) (he : starEach [e] X.env = (false, eval e X.env) :: starEach [] X.env := by rfl) (hpl : (backTo pos (starEach ([] : List Expr) X.env)).any (·.1) = false := by rfl) :
    PE X (.Call (.Name x p) [e] [] pos) (tNewP C f te) := by
  obtain ⟨fI, fd, F, iC, tI, ⟨g, b⟩, _⟩ := J.ex
  refine (pe_exp O iC tI F hr b pass0 hg hm ha hdb he hpl).to fun σ H Q h => ?_
  exact mono h fun v H1 q => ⟨rfl, rfl, newOk.init O J.no q⟩
theorem pe_ini0 (J : Ini X.prog X.w X.K X.mg X.base C f) (O : OexC X.K C) (hr : Room 2 X.A) (hg : Gl X x) (hm : X.mg x = some (.ref C)) (hdb : (x == ("__debug__" : Str)) = false := by decide) :
    PE X (.Call (.Name x p) [] [] pos) (fun _ H Q => newOk C f .non H Q) := by
  obtain ⟨fI, fd, F, iC, tI, _, _, ⟨g, b⟩⟩ := J.ex
  exact (pe_ex0 O iC tI F hr b pass0 hg hm hdb).to fun σ H Q h => ⟨rfl, rfl, newOk.init O J.no h⟩
theorem pe_iniK {kpos : Pos} (J : Ini X.prog X.w X.K X.mg X.base C f) (O : OexC X.K C) (hr : Room 2 X.A) (hg : Gl X x) (hm : X.mg x = some (.ref C)) (ha : PE X e te) (mono : ∀ {σ H} {Q Q' : VK}, te σ H Q → (∀ v H1, Q v H1 → Q' v H1) → te σ H Q' := by exact fun h i => by first | exact i _ _ h | exact ⟨_, h.choose_spec.1, i _ _ h.choose_spec.2⟩)
    (hall : (backToKw pos (keywordEach [⟨some f, e, kpos⟩] X.env)).all (·.1.isSome) = true := by rfl) (hks : (backToKw pos (keywordEach [⟨some f, e, kpos⟩] X.env)).filterMap (·.1) = [f] := by rfl)
    (hdb : (x == ("__debug__" : Str)) = false := by decide)
    (hpl : ((backTo pos (starEach ([] : List Expr) X.env)).any (·.1) || (backToKw pos (keywordEach [⟨some f, e, kpos⟩] X.env)).any (·.1.isNone)) = false := by rfl) :
    PE X (.Call (.Name x p) [] [⟨some f, e, kpos⟩] pos) (tNewP C f te) := by
  obtain ⟨fI, fd, F, iC, tI, _, ⟨g, b⟩, _⟩ := J.ex
  refine (pe_exkw O iC tI F hr b pass0 hg hm (pk_cons ha pk_nil) hall hks hdb hpl).to fun σ H Q h => ?_
  exact mono h fun v H1 q => ⟨rfl, rfl, newOk.init O J.no q⟩
end
/-- several new errors, one after another, all of them with v -/
def tNews (te : TE) : List (Addr × Str) → TA
  | [] => tNil
  | c :: l => tCons (tNewP c.1 c.2 te) (tNews te l)
inductive Errs (H : Hp) (v : V) : List (Addr × Str) → List V → Prop
  | nil : Errs H v [] []
  | cons {c : Addr × Str} {l : List (Addr × Str)} {x : V} {xs : List V} (h : Err H c.1 c.2 v x) (t : Errs H v l xs) : Errs H v (c :: l) (x :: xs)
theorem Errs.same {H H' : Hp} {v : V} (s : Same H H') : ∀ {l xs}, Errs H v l xs → Errs H' v l xs
  | _, _, .nil => .nil
  | _, _, .cons h t => .cons (h.same s) (t.same s)
theorem Errs.append {H : Hp} {v : V} : ∀ {l l' xs ys}, Errs H v l xs → Errs H v l' ys → Errs H v (l ++ l') (xs ++ ys)
  | _, _, _, _, .nil, b => b
  | _, _, _, _, .cons h t, b => .cons h (t.append b)
theorem Errs.length {H : Hp} {v : V} : ∀ {l xs}, Errs H v l xs → xs.length = l.length
  | _, _, .nil => rfl
  | _, _, .cons h t => congrArg Nat.succ t.length
theorem Errs.get {H : Hp} {v : V} : ∀ {l xs} {i : Nat} {c : Addr × Str}, Errs H v l xs → l[i]? = some c → ∃ x, xs[i]? = some x ∧ Err H c.1 c.2 v x
  | _, _, 0, _, .cons h t, e => ⟨_, rfl, by cases (Option.some.inj e); exact h⟩
  | _, _, i + 1, _, .cons h t, e => t.get (i := i) e
theorem news_run {te : TE} {σ : St} {v : V} (hv : ∀ H (Q : VK), Q v H → te σ H Q) : ∀ (l : List (Addr × Str)) {H : Hp} {Q : List V → Hp → Prop}, (∀ xs H', Same H H' → Errs H' v l xs → Q xs H') → tNews te l σ H Q
  | [], H, Q, h => h [] H (Same.refl H) .nil
  | c :: l, H, Q, h => hv _ _ fun x H1 s1 e1 => news_run hv l fun xs H2 s2 e2 => h (x :: xs) H2 (s1.trans s2) (.cons (e1.same s2) e2)
end L2
set_option Elab.async false
set_option linter.all false
set_option maxRecDepth 100000
set_option maxHeartbeats 4000000
namespace L2
open PySem PySem.Spec PyProof.Rows
theorem ExV.same {K : PySem.W.Frag} {H H' : Hp} {a : Addr} {t : Value} (s : Same H H') : ExV K H a t → ExV K H' a t
  | .dict e e2 A => .dict (s _ _ e) (s _ _ e2) A
  | .own e A => .own (s _ _ e) A
  | .blt e FX lk so nb => .blt (s _ _ e) FX lk so nb
/-- isinstance(x, C) for several classes, x the value of slot 0 -/
def tIss (K : PySem.W.Frag) : List V → TA
  | [] => tNil
  | c :: l => tCons (tCB (rIsX K) (tCons (tVar 0) (tCons (tC c) tNil))) (tIss K l)
theorem iss_run {K : PySem.W.Frag} {σ : St} {a : Addr} {t : Value} {H : Hp} (hσ : σ[0]? = some (some (.ref a))) (hx : ExV K H a t) : ∀ (l : List (Addr × Bool)) {Q : List V → Hp → Prop}, (∀ p ∈ l, PySem.W.kitOne K t (.ref p.1) = some p.2) → Q (l.map fun p => V.bl p.2) H → tIss K (l.map fun p => V.ref p.1) σ H Q
  | [], _, _, q => q
  | p :: l, Q, hk, q => ⟨.ref a, hσ, a, .ref p.1, t, .ref p.1, p.2, rfl, .own _, hx, hk p (List.mem_cons_self ..), iss_run hσ hx l (fun p' hp => hk p' (List.mem_cons_of_mem _ hp)) q⟩
/-- xs + [..]: the end -/
theorem cat_end {H H1 : Hp} {p : Addr} {xs ys : List V} {Q : VK} (h : H1 p = some (.lst xs)) (hx : xs.length ≤ 500) (hy : ys.length ≤ 500) (q : ∀ p2 H2, Same H1 H2 → H2 p2 = some (.lst (xs ++ ys)) → Q (.ref p2) H2) :
    ys.length ≤ sizeLine ∧ ∀ l, H1 l = none → rCat (.ref p) (.ref l) (upd H1 l (.lst ys)) Q := by
  refine ⟨Nat.le_of_lt (small1000 (by omega)), fun l n => ⟨p, l, xs, ys, rfl, rfl, ?_, upd_same, Nat.le_of_lt (small1000 (by omega)), fun p2 n2 => q _ _ ((same_upd n).trans (same_upd n2)) upd_same⟩⟩
  rw [upd_ne (ne_of_none h n)]
  exact h
theorem lst_end {H1 : Hp} {ys : List V} {Q : VK} (hy : ys.length ≤ 500) (q : ∀ p2 H2, Same H1 H2 → H2 p2 = some (.lst ys) → Q (.ref p2) H2) :
    ys.length ≤ sizeLine ∧ ∀ l, H1 l = none → Q (.ref l) (upd H1 l (.lst ys)) :=
  ⟨Nat.le_of_lt (small1000 (by omega)), fun l n => q _ _ (same_upd n) upd_same⟩
/-- at a: a new exception of a class without own __init__ -/
def Bare (H : Hp) (C : Addr) (x : V) : Prop := ∃ a, x = .ref a ∧ H a = some (ExO (.ref C) a)
theorem Bare.same {H H' : Hp} {C : Addr} {x : V} (s : Same H H') (h : Bare H C x) : Bare H' C x := by
  obtain ⟨a, e, h⟩ := h
  exact ⟨a, e, s _ _ h⟩
def tNewB (C : Addr) : TE := fun σ H Q => ∀ a, H a = none → Q (.ref a) (upd H a (ExO (.ref C) a))
def tBares : List Addr → TA
  | [] => tNil
  | c :: l => tCons (tNewB c) (tBares l)
inductive Bares (H : Hp) : List Addr → List V → Prop
  | nil : Bares H [] []
  | cons {c : Addr} {l : List Addr} {x : V} {xs : List V} (h : Bare H c x) (t : Bares H l xs) : Bares H (c :: l) (x :: xs)
theorem Bares.same {H H' : Hp} (s : Same H H') : ∀ {l xs}, Bares H l xs → Bares H' l xs
  | _, _, .nil => .nil
  | _, _, .cons h t => .cons (h.same s) (t.same s)
theorem Bares.append {H : Hp} : ∀ {l l' xs ys}, Bares H l xs → Bares H l' ys → Bares H (l ++ l') (xs ++ ys)
  | _, _, _, _, .nil, b => b
  | _, _, _, _, .cons h t, b => .cons h (t.append b)
theorem Bares.length {H : Hp} : ∀ {l xs}, Bares H l xs → xs.length = l.length
  | _, _, .nil => rfl
  | _, _, .cons h t => congrArg Nat.succ t.length
theorem Bares.get {H : Hp} : ∀ {l xs} {i : Nat} {c : Addr}, Bares H l xs → l[i]? = some c → ∃ x, xs[i]? = some x ∧ Bare H c x
  | _, _, 0, _, .cons h t, e => ⟨_, rfl, by cases (Option.some.inj e); exact h⟩
  | _, _, i + 1, _, .cons h t, e => t.get (i := i) e
theorem bares_run {σ : St} : ∀ (l : List Addr) {H : Hp} {Q : List V → Hp → Prop}, (∀ xs H', Same H H' → Bares H' l xs → Q xs H') → tBares l σ H Q
  | [], H, Q, h => h [] H (Same.refl H) .nil
  | c :: l, H, Q, h => fun a n => bares_run l fun xs H2 s2 e2 => h (.ref a :: xs) H2 ((same_upd n).trans s2) (.cons ⟨a, rfl, s2 _ _ upd_same⟩ e2)
section
variable {i j : Nat} {rest : TS} {D : Ends} {σ : St} {H : Hp} {p : Addr} {zs : List V} {te : TE} {v : V}
theorem iss_lst {K : PySem.W.Frag} {a : Addr} {t : Value} (hσ : σ[0]? = some (some (.ref a))) (hx : ExV K H a t) (l : List (Addr × Bool)) (hk : ∀ p ∈ l, PySem.W.kitOne K t (.ref p.1) = some p.2) (hl : l.length ≤ 500)
    (q : ∀ p2 H2, Same H H2 → H2 p2 = some (.lst (l.map fun p => V.bl p.2)) → rest D (σ.set i (some (.ref p2))) H2) : tSeq (tAsg (tLst (tIss K (l.map fun p => V.ref p.1))) (gName i)) rest D σ H :=
  iss_run hσ hx l hk (lst_end (Q := fun y H2 => rest D (σ.set i (some y)) H2) (by rw [List.length_map]; exact hl) q)
theorem iss_cat {K : PySem.W.Frag} {a : Addr} {t : Value} (hp : σ[j]? = some (some (.ref p))) (hσ : σ[0]? = some (some (.ref a))) (hx : ExV K H a t) (l : List (Addr × Bool)) (hk : ∀ p ∈ l, PySem.W.kitOne K t (.ref p.1) = some p.2) (hl : l.length ≤ 500)
    (h : H p = some (.lst zs)) (hz : zs.length ≤ 500) (q : ∀ p2 H2, Same H H2 → H2 p2 = some (.lst (zs ++ l.map fun p => V.bl p.2)) → rest D (σ.set i (some (.ref p2))) H2) : tSeq (tAsg (tOp rCat (tVar j) (tLst (tIss K (l.map fun p => V.ref p.1)))) (gName i)) rest D σ H :=
  ⟨_, hp, iss_run hσ hx l hk (cat_end (H := H) (Q := fun y H2 => rest D (σ.set i (some y)) H2) h hz (by rw [List.length_map]; exact hl) q)⟩
theorem news_lst (hv : ∀ H (Q : VK), Q v H → te σ H Q) (l : List (Addr × Str)) (hl : l.length ≤ 500)
    (q : ∀ p2 xs H2, Same H H2 → H2 p2 = some (.lst xs) → Errs H2 v l xs → rest D (σ.set i (some (.ref p2))) H2) : tSeq (tAsg (tLst (tNews te l)) (gName i)) rest D σ H :=
  news_run hv l fun xs H1 s1 e1 => lst_end (Q := fun y H2 => rest D (σ.set i (some y)) H2) (by rw [e1.length]; exact hl) fun p2 H2 s2 h2 => q p2 xs H2 (s1.trans s2) h2 (e1.same s2)
theorem news_cat (hp : σ[j]? = some (some (.ref p))) (hv : ∀ H (Q : VK), Q v H → te σ H Q) (l : List (Addr × Str)) (hl : l.length ≤ 500) (h : H p = some (.lst zs)) (hz : zs.length ≤ 500)
    (q : ∀ p2 xs H2, Same H H2 → H2 p2 = some (.lst (zs ++ xs)) → Errs H2 v l xs → rest D (σ.set i (some (.ref p2))) H2) : tSeq (tAsg (tOp rCat (tVar j) (tLst (tNews te l))) (gName i)) rest D σ H :=
  ⟨_, hp, news_run hv l fun xs H1 s1 e1 => cat_end (H := H) (Q := fun y H2 => rest D (σ.set i (some y)) H2) (s1 _ _ h) hz (by rw [e1.length]; exact hl) fun p2 H2 s2 h2 => q p2 xs H2 (s1.trans s2) h2 (e1.same s2)⟩
theorem news_ret (hp : σ[j]? = some (some (.ref p))) (hv : ∀ H (Q : VK), Q v H → te σ H Q) (l : List (Addr × Str)) (hl : l.length ≤ 500) (h : H p = some (.lst zs)) (hz : zs.length ≤ 500)
    (q : ∀ p2 xs H2, Same H H2 → H2 p2 = some (.lst (zs ++ xs)) → Errs H2 v l xs → D.rt (.ref p2) H2) : tRet (tOp rCat (tVar j) (tLst (tNews te l))) D σ H :=
  ⟨_, hp, news_run hv l fun xs H1 s1 e1 => cat_end (H := H) (Q := D.rt) (s1 _ _ h) hz (by rw [e1.length]; exact hl) fun p2 H2 s2 h2 => q p2 xs H2 (s1.trans s2) h2 (e1.same s2)⟩
theorem bares_lst (l : List Addr) (hl : l.length ≤ 500) (q : ∀ p2 xs H2, Same H H2 → H2 p2 = some (.lst xs) → Bares H2 l xs → rest D (σ.set i (some (.ref p2))) H2) : tSeq (tAsg (tLst (tBares l)) (gName i)) rest D σ H :=
  bares_run l fun xs H1 s1 e1 => lst_end (Q := fun y H2 => rest D (σ.set i (some y)) H2) (by rw [e1.length]; exact hl) fun p2 H2 s2 h2 => q p2 xs H2 (s1.trans s2) h2 (e1.same s2)
theorem bares_ret (hp : σ[j]? = some (some (.ref p))) (l : List Addr) (hl : l.length ≤ 500) (h : H p = some (.lst zs)) (hz : zs.length ≤ 500)
    (q : ∀ p2 xs H2, Same H H2 → H2 p2 = some (.lst (zs ++ xs)) → Bares H2 l xs → D.rt (.ref p2) H2) : tRet (tOp rCat (tVar j) (tLst (tBares l))) D σ H :=
  ⟨_, hp, bares_run l fun xs H1 s1 e1 => cat_end (H := H) (Q := D.rt) (s1 _ _ h) hz (by rw [e1.length]; exact hl) fun p2 H2 s2 h2 => q p2 xs H2 (s1.trans s2) h2 (e1.same s2)⟩
end
theorem dp_bools {K : PySem.W.Frag} {H : Hp} : ∀ bs : List Bool, DpAll K H (bs.map V.bl) (bs.map PyData.bool)
  | [] => .nil
  | b :: bs => .cons (.bl b) (dp_bools bs)
theorem dp_all_map {K : PySem.W.Frag} {H : Hp} {v : V} {d : PyData} (h : Dp K H v d) : ∀ n : Nat, DpAll K H (List.replicate n v) (List.replicate n d)
  | 0 => .nil
  | n + 1 => .cons h (dp_all_map h n)
theorem take_more {α : Type} {l : List α} {i : Nat} {x : α} (h : l[i]? = some x) : l.take (i + 1) = l.take i ++ [x] := by
  rw [List.take_add_one, h]
  rfl
end L2
set_option Elab.async false
set_option linter.all false
set_option maxRecDepth 100000
set_option maxHeartbeats 4000000
namespace Lw
open PySem PySem.Spec PyProof.Rows L2 TKS
section
variable {P : Program} {w : World} {K : PySem.W.Frag} {mg : Str → Option Value} {base : Heap}
theorem ok__law_at (T : Txt K mg) (F : Fn K mg "_law_at" s__law_at) : Df P w K mg base "_law_at" 1 ["script", "k"] (spAt K) := by
  refine F.df (fun _ _ _ _ _ _ us hl => match us, hl with | [_, _], _ => rfl) fun f fd F => F.ok sc__law_at (fun vs H Q E h => ?_) (fun cdv A outer s H vs Q E hr h => ?_)
  · obtain ⟨a, ns, k, rfl, _⟩ := h
    rfl
  · obtain ⟨a, ns, k, rfl, hS, q⟩ := h
    refine ⟨_, pss_cons (ps_if (pt_cmpR op_lt (pv 1) (pe_callB call_len_seq (by rfl) T.m_len (by decide +kernel) (pa_cons (pv 0) (pa_nil))) (nomark _)) (pss_one (ps_ret (pe_ix ix_list (pv 0) (pv 1) (fun _ _ => rfl)))) (pss_nil))
    (pss_one (ps_ret (pe_int))), ?_⟩
    refine ⟨.int k, rfl, .ref a, rfl, a, _, rfl, .inl hS, _, _, rfl, rfl, _, rfl, ite2 (fun c => ?_) (fun c => ?_)⟩
    · have hc := of_decide_eq_true c
      have hk : k < ns.length := by
        rw [List.length_map] at hc
        omega
      refine ⟨.ref a, rfl, .int k, rfl, a, _, _, .int ns[k], rfl, rfl, hS, atI_nat (j := k) ?_, q _⟩
      rw [List.getElem?_map, List.getElem?_eq_getElem hk]
      rfl
    · exact q 0
theorem ok__law_mixed (T : Txt K mg) (F : Fn K mg "_law_mixed" s__law_mixed) : Df P w K mg base "_law_mixed" 1 ["cell", "k"] spMixed := by
  refine F.df (fun _ _ _ _ _ _ us hl => match us, hl with | [_, _], _ => rfl) fun f fd F => F.ok sc__law_mixed (fun vs H Q E h => ?_) (fun cdv A outer s H vs Q E hr h => ?_)
  · obtain ⟨c, k, rfl, _⟩ := h
    rfl
  · obtain ⟨c, k, rfl, c0, c1, k0, k1, q⟩ := h
    refine ⟨_, pss_cons (ps_set (i := 2) sc__law_mixed.nd rfl (by first | exact Or.inl rfl | exact Or.inr rfl) (pe_op op_mod (pe_op op_add (pe_op op_add (pe_op op_add (pe_op op_mul (pv 0) (pe_int)) (pe_op op_mul (pe_op op_mul (pe_int) (pv 1)) (pv 1))) (pv 1)) (pe_int)) (pe_int)))
    (pss_cons (ps_set (i := 2) sc__law_mixed.nd rfl (by first | exact Or.inl rfl | exact Or.inr rfl) (pe_op op_mod (pe_op op_add (pe_op op_mul (pv 2) (pv 2)) (pe_int)) (pe_int)))
    (pss_one (ps_ret (pe_op op_mod (pe_op op_mul (pv 2) (pe_int)) (pe_int))))), ?_⟩
    refine ⟨_, rfl, _, _, rfl, rfl, .inr (by decide), _, rfl, _, _, rfl, rfl, .inl (by decide), _, rfl, _, _, rfl, rfl, .inr ⟨by omega, by omega⟩, _, _, rfl, rfl, _, rfl, _, _, rfl, rfl, _, _, rfl, rfl, _, _, rfl, rfl, (show (0 : Int) < 2147483647 by decide), ?_⟩
    generalize hm : (c * 1103515245 + 7919 * k * k + k + 1) % 2147483647 = m
    have m0 : 0 ≤ m := by rw [← hm]; exact Int.emod_nonneg _ (by decide)
    have m1 : m < 2147483647 := by rw [← hm]; exact Int.emod_lt_of_pos _ (by decide)
    refine ⟨_, rfl, _, rfl, _, _, rfl, rfl, .inl ⟨by omega, by omega⟩, _, _, rfl, rfl, _, _, rfl, rfl, (show (0 : Int) < 2147483629 by decide), ?_⟩
    exact ⟨_, rfl, _, _, rfl, rfl, .inr (by decide), _, _, rfl, rfl, (show (0 : Int) < 2147483587 by decide), q _ (Int.emod_nonneg _ (by decide)) (Int.emod_lt_of_pos _ (by decide))⟩
theorem ok__law_purse (T : Txt K mg) (F : Fn K mg "_law_purse" s__law_purse) (FA : Fn K mg "_law_at" s__law_at) : Df P w K mg base "_law_purse" 2 ["script", "at"] (spPurse K) := by
  have G__law_at : Df P w K mg base "_law_at" 1 ["script", "k"] (spAt K) := ok__law_at T FA
  refine F.df (fun _ _ _ _ _ _ us hl => match us, hl with | [_, _], _ => rfl) fun f fd F => F.ok sc__law_purse (fun vs H Q E h => ?_) (fun cdv A outer s H vs Q E hr h => ?_)
  · obtain ⟨a, ns, k, rfl, _⟩ := h
    rfl
  · obtain ⟨a, ns, k, rfl, hS, hk, q⟩ := h
    refine ⟨_, pss_cons (ps_set (i := 2) sc__law_purse.nd rfl (by first | exact Or.inl rfl | exact Or.inr rfl) (pe_df G__law_at (hr.mono (by decide)) (by rfl) (pa_cons (pv 0) (pa_cons (pv 1) (pa_nil)))))
    (pss_one (ps_ret (pe_lst (pa_cons (pe_op op_mod (pe_callB (call_max2 rfl) (by rfl) T.m_max (by decide +kernel) (pa_cons (pe_op op_sub (pv 2) (pe_op op_powB (pe_int) (pe_int))) (pa_cons (pe_int) (pa_nil)))) (pe_op op_powB (pe_op op_powB (pe_int) (pe_int)) (pe_int))) (pa_cons (pe_op op_mod (pv 2) (pe_int)) (pa_cons (pe_op op_mul (pe_int) (pv 1)) (pa_nil))))))), ?_⟩
    refine ⟨.ref a, rfl, .int k, rfl, a, ns, k, rfl, hS, fun c => ?_⟩
    refine ⟨_, rfl, _, _, rfl, rfl, ⟨by decide, by decide +kernel⟩, _, _, rfl, rfl, _, _, rfl, _, _, rfl, rfl, ⟨by decide, by decide +kernel⟩, _, _, rfl, rfl, ⟨by decide, by decide +kernel⟩, _, _, rfl, rfl, (by rw [pow600]; exact pow600_pos), ?_⟩
    refine ⟨_, rfl, _, _, rfl, rfl, (show (0 : Int) < 2147483647 by decide), _, rfl, _, _, rfl, rfl, .inl (by decide), (by show 3 ≤ sizeLine; decide), fun p hp => q p _ _ _ hp ?_⟩
    rw [pow600]
    exact ⟨Int.emod_nonneg _ (Int.ne_of_gt pow600_pos), Int.emod_lt_of_pos _ pow600_pos, Int.emod_nonneg _ (by decide), Int.emod_lt_of_pos _ (by decide), by omega, by omega⟩
theorem ok__law_draw (T : Txt K mg) (F : Fn K mg "_law_draw" s__law_draw) (FM : Fn K mg "_law_mixed" s__law_mixed) : Df P w K mg base "_law_draw" 2 ["purse", "out_of"] spDraw := by
  have G__law_mixed : Df P w K mg base "_law_mixed" 1 ["cell", "k"] spMixed := ok__law_mixed T FM
  refine F.df (fun _ _ _ _ _ _ us hl => match us, hl with | [_, _], _ => rfl) fun f fd F => F.ok sc__law_draw (fun vs H Q E h => ?_) (fun cdv A outer s H vs Q E hr h => ?_)
  · obtain ⟨p, p0, p1, p2, n, m, rfl, _⟩ := h
    rfl
  · obtain ⟨p, p0, p1, p2, n, m, rfl, hp, B, hn, m1, m2, q⟩ := h
    refine ⟨_, pss_cons (ps_if (pt_cmpR op_gt (pe_ix ix_list (pv 0) (pe_int) (fun _ _ => rfl)) (pe_int) (nomark _)) (pss_cons (ps_set (i := 2) sc__law_draw.nd rfl (by first | exact Or.inl rfl | exact Or.inr rfl) (pe_op op_mod (pe_ix ix_list (pv 0) (pe_int) (fun _ _ => rfl)) (pv 1)))
    (pss_cons (ps_asg (pe_op op_fdivW (pe_ix ix_list (pv 0) (pe_int) (fun _ _ => rfl)) (pv 1)) (pg_sub (pv 0) (pe_int) set_list))
    (pss_one (ps_ret (pv 2))))) (pss_nil))
    (pss_cons (ps_asg (pe_op op_add (pe_ix ix_list (pv 0) (pe_int) (fun _ _ => rfl)) (pe_int)) (pg_sub (pv 0) (pe_int) set_list))
    (pss_one (ps_ret (pe_op op_mod (pe_df G__law_mixed (hr.mono (by decide)) (by rfl) (pa_cons (pe_ix ix_list (pv 0) (pe_int) (fun _ _ => rfl)) (pa_cons (pe_ix ix_list (pv 0) (pe_int) (fun _ _ => rfl)) (pa_nil)))) (pv 1))))), ?_⟩
    have e600 : p0.natAbs < 2 ^ 2000 := by
      have := B.b0
      have := B.a0
      have h2 : (10 : Int) ^ 600 < 2 ^ 2000 := by decide +kernel
      omega
    refine ⟨.ref p, rfl, p, _, _, .int p0, rfl, rfl, SqL.of hp, rfl, _, _, rfl, rfl, _, rfl, ite2 (fun c => ?_) (fun c => ?_)⟩
    · have hc := of_decide_eq_true c
      refine ⟨.ref p, rfl, p, _, _, .int p0, rfl, rfl, SqL.of hp, rfl, _, rfl, _, _, rfl, rfl, (by omega), ?_⟩
      refine ⟨.ref p, rfl, p, _, _, .int p0, rfl, rfl, SqL.of hp, rfl, _, rfl, _, _, rfl, rfl, wide_div (b := 63) (by omega) (by omega) (by decide) (by decide), ?_⟩
      refine ⟨.ref p, rfl, p, _, _, 0, rfl, rfl, hp, rfl, ?_⟩
      refine ⟨_, rfl, q _ _ _ _ (Int.emod_nonneg _ (by omega)) (Int.emod_lt_of_pos _ (by omega)) ?_⟩
      have hle : p0 / m ≤ p0 := Int.ediv_le_self _ B.a0
      exact ⟨Int.ediv_nonneg B.a0 (by omega), Int.lt_of_le_of_lt hle B.b0, B.a1, B.b1, B.a2, by have := B.b2; omega⟩
    · refine ⟨.ref p, rfl, p, _, _, .int p2, rfl, rfl, SqL.of hp, rfl, _, _, rfl, rfl, ?_⟩
      refine ⟨.ref p, rfl, p, _, _, 2, rfl, rfl, hp, rfl, ?_⟩
      have hp2 : (upd H p (.lst [.int p0, .int p1, .int (p2 + 1)])) p = some (.lst [.int p0, .int p1, .int (p2 + 1)]) := upd_same
      refine ⟨.ref p, rfl, p, _, _, .int p1, rfl, rfl, SqL.of hp2, rfl, .ref p, rfl, p, _, _, .int (p2 + 1), rfl, rfl, SqL.of hp2, rfl, ?_⟩
      refine ⟨p1, p2 + 1, rfl, B.a1, B.b1, by have := B.a2; omega, by have := B.b2; omega, fun d d0 d1 => ?_⟩
      exact ⟨_, rfl, _, _, rfl, rfl, (by omega), q _ _ _ _ (Int.emod_nonneg _ (by omega)) (Int.emod_lt_of_pos _ (by omega)) ⟨B.a0, B.b0, B.a1, B.b1, by have := B.a2; omega, by have := B.b2; omega⟩⟩
end

end Lw
set_option Elab.async false
set_option linter.all false
set_option maxRecDepth 100000
set_option maxHeartbeats 4000000
namespace Lw
open PySem PySem.Spec PyProof.Rows L2 TKS DN
structure Defs (K : PySem.W.Frag) (mg : Str → Option Value) : Prop where
  d__law_draw : Fn K mg "_law_draw" s__law_draw
  d__law_mixed : Fn K mg "_law_mixed" s__law_mixed
  d__law_bent : Fn K mg "_law_bent" s__law_bent
  d__law_odd : Fn K mg "_law_odd" s__law_odd
  d__law_due : Fn K mg "_law_due" s__law_due
  d__law_is_sentence : Fn K mg "_law_is_sentence" s__law_is_sentence
  d__law_is_name : Fn K mg "_law_is_name" s__law_is_name
  d__law_fits : Fn K mg "_law_fits" s__law_fits
  d__law_model : Fn K mg "_law_model" s__law_model
  d__law_links : Fn K mg "_law_links" s__law_links
  d__law_names : Fn K mg "_law_names" s__law_names
  d__law_order : Fn K mg "_law_order" s__law_order
  d__law_drawn : Fn K mg "_law_drawn" s__law_drawn
  d_check_tale : Fn K mg "check_tale" s_check_tale
  d_tale_links : Fn K mg "tale_links" s_tale_links
  d_tale_stands : Fn K mg "tale_stands" s_tale_stands
  d_sentence_link : Fn K mg "sentence_link" s_sentence_link
  d_closed : Fn K mg "closed" s_closed
  d_joined : Fn K mg "joined" s_joined
  d_is_sentence : Fn K mg "is_sentence" s_is_sentence
  d_is_name : Fn K mg "is_name" s_is_name
  d_is_pair : Fn K mg "is_pair" s_is_pair
  d_closing_index : Fn K mg "closing_index" s_closing_index
  d__law_purse : Fn K mg "_law_purse" s__law_purse
  d__law_at : Fn K mg "_law_at" s__law_at
structure Mths (K : PySem.W.Frag) (C : Nat → Addr) : Prop where
  i_0 : ∃ (f : Addr) (fd : FuncData), Mk K (C 0) f ∧ Fun K "__init__" "Order.__init__" s_Order_init f fd
  m_Order_is_consistent : ∃ (f : Addr) (fd : FuncData), Meth K (C 0) "is_consistent" f ∧ Fun K "is_consistent" "Order.is_consistent" s_Order_is_consistent f fd
  m_Order_precedes : ∃ (f : Addr) (fd : FuncData), Meth K (C 0) "precedes" f ∧ Fun K "precedes" "Order.precedes" s_Order_precedes f fd
section
variable {P : Program} {w : World} {K : PySem.W.Frag} {mg : Str → Option Value} {base : Heap} {C : Nat → Addr}
theorem law_of (T : Txt K mg) (A : Wds K mg) (B : Kls K mg C) (O : Mths K C) (D : Defs K mg) {f : Addr} {fd : FuncData} (F : Fun K "law" "law" s_law f fd) : FnG P w K mg base 13 f fd ["script"] (spScr K) := by
  obtain ⟨xf_Order_init, xd_Order_init, K_Order_init, F_Order_init⟩ := O.i_0
  obtain ⟨xf_Order_is_consistent, xd_Order_is_consistent, K_Order_is_consistent, F_Order_is_consistent⟩ := O.m_Order_is_consistent
  obtain ⟨xf_Order_precedes, xd_Order_precedes, K_Order_precedes, F_Order_precedes⟩ := O.m_Order_precedes
  have G__law_order : Df P w K mg base "_law_order" 1 ["names", "links"] (spP K 2 (f__law_order C)) := df__law_order T D.d__law_order
  have M_Order_precedes : Mt P w K mg base (C 0) "precedes" 1 ["self", "one", "other"] (spP K 3 (f_Order_precedes C)) := ⟨xf_Order_precedes, xd_Order_precedes, fn_Order_precedes T A B  F_Order_precedes, K_Order_precedes, F_Order_precedes.binds fun _ _ _ _ _ _ us hl => match us, hl with | [_, _, _], _ => rfl⟩
  have G__law_is_name : Df P w K mg base "_law_is_name" 1 ["value"] (spP K 1 (f__law_is_name C)) := D.d__law_is_name.df (fun _ _ _ _ _ _ us hl => match us, hl with | [_], _ => rfl) fun _ _ F => fn__law_is_name T A B  F
  have G__law_links : Df P w K mg base "_law_links" 1 ["sentences"] (spP K 1 (f__law_links C)) := D.d__law_links.df (fun _ _ _ _ _ _ us hl => match us, hl with | [_], _ => rfl) fun _ _ F => fn__law_links T A B  F
  have G__law_names : Df P w K mg base "_law_names" 1 ["sentences"] (spP K 1 (f__law_names C)) := D.d__law_names.df (fun _ _ _ _ _ _ us hl => match us, hl with | [_], _ => rfl) fun _ _ F => fn__law_names T A B  F
  have G_closed : Df P w K mg base "closed" 1 ["masks"] (spP K 1 (f_closed C)) := D.d_closed.df (fun _ _ _ _ _ _ us hl => match us, hl with | [_], _ => rfl) fun _ _ F => fn_closed T A B  F
  have G_is_name : Df P w K mg base "is_name" 1 ["thing"] (spP K 1 (f_is_name C)) := D.d_is_name.df (fun _ _ _ _ _ _ us hl => match us, hl with | [_], _ => rfl) fun _ _ F => fn_is_name T A B  F
  have G_is_pair : Df P w K mg base "is_pair" 1 ["thing"] (spP K 1 (f_is_pair C)) := D.d_is_pair.df (fun _ _ _ _ _ _ us hl => match us, hl with | [_], _ => rfl) fun _ _ F => fn_is_pair T A B  F
  have G_joined : Df P w K mg base "joined" 1 ["things", "pairs"] (spP K 2 (f_joined C)) := D.d_joined.df (fun _ _ _ _ _ _ us hl => match us, hl with | [_, _], _ => rfl) fun _ _ F => fn_joined T A B  F
  have G_sentence_link : Df P w K mg base "sentence_link" 1 ["stand", "word", "moment"] (spP K 3 (f_sentence_link C)) := D.d_sentence_link.df (fun _ _ _ _ _ _ us hl => match us, hl with | [_, _, _], _ => rfl) fun _ _ F => fn_sentence_link T A B  F
  have G_tale_stands : Df P w K mg base "tale_stands" 1 ["tale"] (spP K 1 (f_tale_stands C)) := D.d_tale_stands.df (fun _ _ _ _ _ _ us hl => match us, hl with | [_], _ => rfl) fun _ _ F => fn_tale_stands T A B  F
  have G__law_draw : Df P w K mg base "_law_draw" 2 ["purse", "out_of"] spDraw := ok__law_draw T D.d__law_draw D.d__law_mixed
  have G__law_purse : Df P w K mg base "_law_purse" 2 ["script", "at"] (spPurse K) := ok__law_purse T D.d__law_purse D.d__law_at
  have M_Order_is_consistent : Mt P w K mg base (C 0) "is_consistent" 2 ["self"] (spP K 1 (f_Order_is_consistent C)) := ⟨xf_Order_is_consistent, xd_Order_is_consistent, fn_Order_is_consistent T A B M_Order_precedes F_Order_is_consistent, K_Order_is_consistent, F_Order_is_consistent.binds fun _ _ _ _ _ _ us hl => match us, hl with | [_], _ => rfl⟩
  have G__law_is_sentence : Df P w K mg base "_law_is_sentence" 2 ["value"] (spP K 1 (f__law_is_sentence C)) := D.d__law_is_sentence.df (fun _ _ _ _ _ _ us hl => match us, hl with | [_], _ => rfl) fun _ _ F => fn__law_is_sentence T A B G__law_is_name F
  have G__law_model : Df P w K mg base "_law_model" 2 ["sentences"] (spP K 1 (f__law_model C)) := D.d__law_model.df (fun _ _ _ _ _ _ us hl => match us, hl with | [_], _ => rfl) fun _ _ F => fn__law_model T A B G__law_order G__law_names G__law_links F
  have G_is_sentence : Df P w K mg base "is_sentence" 2 ["thing"] (spP K 1 (f_is_sentence C)) := D.d_is_sentence.df (fun _ _ _ _ _ _ us hl => match us, hl with | [_], _ => rfl) fun _ _ F => fn_is_sentence T A B G_is_pair G_is_name F
  have G_tale_links : Df P w K mg base "tale_links" 2 ["tale"] (spP K 1 (f_tale_links C)) := D.d_tale_links.df (fun _ _ _ _ _ _ us hl => match us, hl with | [_], _ => rfl) fun _ _ F => fn_tale_links T A B G_sentence_link G_tale_stands F
  have I_Order : Mke P w K mg base (C 0) 3 ["self", "tale"] (spI K (C 0) 1 (f_Order_init C)) := ⟨xf_Order_init, xd_Order_init, fn_Order_init T A B G_joined G_closed G_tale_links F_Order_init, K_Order_init, F_Order_init.binds fun _ _ _ _ _ _ us hl => match us, hl with | [_, _], _ => rfl⟩
  have G__law_drawn : Df P w K mg base "_law_drawn" 3 ["purse"] (spU K 0 (f__law_drawn C)) := D.d__law_drawn.df (fun _ _ _ _ _ _ us hl => match us, hl with | [_], _ => rfl) fun _ _ F => fn__law_drawn T A B G__law_draw F
  have G__law_fits : Df P w K mg base "_law_fits" 3 ["sentences"] (spP K 1 (f__law_fits C)) := D.d__law_fits.df (fun _ _ _ _ _ _ us hl => match us, hl with | [_], _ => rfl) fun _ _ F => fn__law_fits T A B G__law_model F
  have G__law_odd : Df P w K mg base "_law_odd" 3 ["purse"] (spU K 0 (f__law_odd C)) := D.d__law_odd.df (fun _ _ _ _ _ _ us hl => match us, hl with | [_], _ => rfl) fun _ _ F => fn__law_odd T A B G__law_draw F
  have G__law_due : Df P w K mg base "_law_due" 4 ["value"] (spP K 1 (f__law_due C)) := D.d__law_due.df (fun _ _ _ _ _ _ us hl => match us, hl with | [_], _ => rfl) fun _ _ F => fn__law_due T A B G__law_fits G__law_is_sentence F
  have G_closing_index : Df P w K mg base "closing_index" 5 ["tale"] (spP K 1 (f_closing_index C)) := D.d_closing_index.df (fun _ _ _ _ _ _ us hl => match us, hl with | [_], _ => rfl) fun _ _ F => fn_closing_index T A B M_Order_is_consistent I_Order F
  have G_check_tale : Df P w K mg base "check_tale" 6 ["thing"] (spP K 1 (f_check_tale C)) := D.d_check_tale.df (fun _ _ _ _ _ _ us hl => match us, hl with | [_], _ => rfl) fun _ _ F => fn_check_tale T A B M_Order_is_consistent G_closing_index G_is_sentence I_Order F
  have GK_check_tale : DfK P w K mg base "check_tale" 6 ["thing"] ["thing"] (spP K 1 (f_check_tale C)) (permL [0]) := dfK_perm D.d_check_tale (fun _ _ _ _ _ _ us ws l1 l2 => match us, ws, l1, l2 with | [], [_], _, _ => rfl) fun _ _ F => fn_check_tale T A B M_Order_is_consistent G_closing_index G_is_sentence I_Order F
  have G__law_bent : Df P w K mg base "_law_bent" 12 ["purse", "value"] (spU K 1 (f__law_bent C)) := df__law_bent T A B G__law_draw G__law_odd D.d__law_bent
  exact (fn_law T A B G__law_purse G_check_tale G__law_drawn G__law_due G__law_bent G__law_draw GK_check_tale F).imp (spScr_of fun ns hl P h => spec_law h)
end
def Cof (C0 : Addr) : Nat → Addr
  | 0 => C0
  | _ => C0
section
variable {P : Program} {w : World} {K : PySem.W.Frag} {mg : Str → Option Value} {h : Heap}
theorem kls_at {C0 : Addr} (X : K.In h) (G : h.Ns mainGlobals mg) (g0 : PySem.W.nsIn K mainGlobals "Order" = some (some (.ref C0))) (c0 : Cls K C0) (n0_groups : PySem.W.findIn K (.ref C0) "groups" = some none) (n0_number : PySem.W.findIn K (.ref C0) "number" = some none) (n0_after : PySem.W.findIn K (.ref C0) "after" = some none) : Kls K mg (Cof C0) := ⟨fun i hi => match i, hi with | 0, _ => c0 | n + 1, hi => absurd hi (by omega), PySem.W.mg_of X G g0, n0_groups, n0_number, n0_after⟩
theorem mths_at {C0 : Addr} (_X : K.In h) (_g0 : PySem.W.nsIn K mainGlobals "Order" = some (some (.ref C0))) (i_0 : ∃ (f : Addr) (fd : FuncData), Mk K C0 f ∧ Fun K "__init__" "Order.__init__" s_Order_init f fd) (m_Order_is_consistent : ∃ (f : Addr) (fd : FuncData), Meth K C0 "is_consistent" f ∧ Fun K "is_consistent" "Order.is_consistent" s_Order_is_consistent f fd) (m_Order_precedes : ∃ (f : Addr) (fd : FuncData), Meth K C0 "precedes" f ∧ Fun K "precedes" "Order.precedes" s_Order_precedes f fd) : Mths K (Cof C0) := ⟨i_0, m_Order_is_consistent, m_Order_precedes⟩
theorem g_at_MOVING_WORDS {a : Addr} {od : Option Addr} {n : Nat} {sl : Array (Option Value)} {t0 t1 t2 : Tok} (X : K.In h) (G : h.Ns mainGlobals mg) (g : PySem.W.nsIn K mainGlobals "MOVING_WORDS" = some (some (.ref a))) (l : K.lookup a = some ⟨.type "tuple", od, .seq #[.str "at" t0, .str "then" t1, .str "back" t2] n, sl⟩) : GlobD K mg "MOVING_WORDS" k_MOVING_WORDS :=
  glob_tup ["at", "then", "back"] X G g l (by show 3 ≤ sizeLine; decide) (.cons ⟨_, rfl⟩ (.cons ⟨_, rfl⟩ (.cons ⟨_, rfl⟩ (.nil))))
theorem g_at_FORWARD_WORDS {a : Addr} {od : Option Addr} {n : Nat} {sl : Array (Option Value)} {t0 t1 : Tok} (X : K.In h) (G : h.Ns mainGlobals mg) (g : PySem.W.nsIn K mainGlobals "FORWARD_WORDS" = some (some (.ref a))) (l : K.lookup a = some ⟨.type "tuple", od, .seq #[.str "then" t0, .str "later" t1] n, sl⟩) : GlobD K mg "FORWARD_WORDS" k_FORWARD_WORDS :=
  glob_tup ["then", "later"] X G g l (by show 2 ≤ sizeLine; decide) (.cons ⟨_, rfl⟩ (.cons ⟨_, rfl⟩ (.nil)))
theorem g_at_BACKWARD_WORDS {a : Addr} {od : Option Addr} {n : Nat} {sl : Array (Option Value)} {t0 t1 : Tok} (X : K.In h) (G : h.Ns mainGlobals mg) (g : PySem.W.nsIn K mainGlobals "BACKWARD_WORDS" = some (some (.ref a))) (l : K.lookup a = some ⟨.type "tuple", od, .seq #[.str "back" t0, .str "earlier" t1] n, sl⟩) : GlobD K mg "BACKWARD_WORDS" k_BACKWARD_WORDS :=
  glob_tup ["back", "earlier"] X G g l (by show 2 ≤ sizeLine; decide) (.cons ⟨_, rfl⟩ (.cons ⟨_, rfl⟩ (.nil)))
theorem g_at_WORDS {a : Addr} {od : Option Addr} {n : Nat} {sl : Array (Option Value)} {t0 t1 t2 t3 t4 t5 : Tok} (X : K.In h) (G : h.Ns mainGlobals mg) (g : PySem.W.nsIn K mainGlobals "WORDS" = some (some (.ref a))) (l : K.lookup a = some ⟨.type "tuple", od, .seq #[.str "at" t0, .str "then" t1, .str "back" t2, .str "later" t3, .str "earlier" t4, .str "with" t5] n, sl⟩) : GlobD K mg "WORDS" k_WORDS :=
  glob_tup ["at", "then", "back", "later", "earlier", "with"] X G g l (by show 6 ≤ sizeLine; decide) (.cons ⟨_, rfl⟩ (.cons ⟨_, rfl⟩ (.cons ⟨_, rfl⟩ (.cons ⟨_, rfl⟩ (.cons ⟨_, rfl⟩ (.cons ⟨_, rfl⟩ (.nil)))))))
end
section
variable {P : Program} {w : World} {K : PySem.W.Frag} {mg : Str → Option Value} {h : Heap} {C : Nat → Addr}
theorem law_at {f fa : Addr} {oc : Value} {od an : Option Addr} {osl : Array (Option Value)} {kV doc pm cdv ct : Value} (X : K.In h) (G : h.Ns mainGlobals mg) (hfa : mg "law" = some (.ref fa)) (a : PySem.W.nsIn K mainGlobals "law" = some (some (.ref f)))
    (l : K.lookup f = some ⟨oc, od, .func (PySem.W.fnOf "law" "law" (defArgs s_law) (defBody s_law) (defScope s_law) .none kV doc pm an cdv ct), osl⟩) (c : PySem.W.codeIn K cdv "law" = true) (k : PySem.W.keepIn K (.ref f) = true)
    (T : Txt K mg) (A : Wds K mg) (B : Kls K mg C) (O : Mths K C) (D : Defs K mg) :
    ∃ fd : FuncData, (∀ (s : Shared) (v : Value), BindsTo s fd ⟨[v], []⟩ [("script", v)]) ∧ ∀ base : Heap, K.In base → base.Ns mainGlobals mg → FnG P w K mg base 13 fa fd ["script"] (spScr K) := by
  have e := hfa.symm.trans (PySem.W.mg_of X G a)
  cases e
  exact ⟨_, fun s v => .of_eq rfl, fun base _ _ => law_of T A B O D (fun_mk l c k)⟩
end
end Lw
set_option Elab.async false
set_option linter.all false
set_option maxRecDepth 100000
open PySem PySem.W PyProof.Rows
set_option maxHeartbeats 0 in
theorem PySem.Challenge.cw_backthen_k01_tales_checked_holds : PySem.Challenge.rw_backthen_k01_tales_checked.Holds := by
  w_on; o_law; k_head; (case hw => w_witness2)
  k_fill
  refine L2.walkG (l := PySem.Challenge.rw_backthen_k01_tales_checked) (n := 63) (k := 13) (x := "script") (sp := fun w => DN.spScr _) rfl (by decide) rfl ⟨rfl, by decide, by decide⟩ (fun w h Y => PySem.W.kIn_of Y) ?F (fun _ _ a ns hl _ hS => ⟨a, ns, rfl, hS, hl, fun _ => rfl⟩) (fun _ _ _ _ _ h => h)
  case F =>
    intro w mg fa h KX G hmg
    have T : Lw.Txt (L2.KOf KX) mg := ⟨PySem.W.mg_none_of KX G (by k_is), PySem.W.mg_none_of KX G (by k_is), PySem.W.mg_none_of KX G (by k_is), PySem.W.mg_none_of KX G (by k_is), PySem.W.mg_none_of KX G (by k_is), PySem.W.mg_none_of KX G (by k_is), PySem.W.mg_none_of KX G (by k_is), PySem.W.mg_none_of KX G (by k_is), PySem.W.mg_none_of KX G (by k_is), PySem.W.mg_none_of KX G (by k_is), PySem.W.mg_none_of KX G (by k_is), PySem.W.mg_none_of KX G (by k_is), PySem.W.mg_none_of KX G (by k_is), PySem.W.mg_none_of KX G (by k_is), PySem.W.mg_none_of KX G (by k_is), PySem.W.mg_none_of KX G (by k_is), PySem.W.mg_none_of KX G (by k_is), PySem.W.mg_none_of KX G (by k_is), PySem.W.mg_none_of KX G (by k_is)⟩
    have B := Lw.kls_at KX G (by k_is) (DN.cls_at KX (by k_is) (by k_is) (by k_is) (by k_is)) (by k_is) (by k_is) (by k_is)
    have O := Lw.mths_at KX (by k_is) (DN.init_at KX (by k_is) (by k_is) (by k_is) (by k_is) (by k_is) (by k_is) (by k_is)) (DN.meth_at KX (by k_is) (by k_is) (by k_is) (by k_is) (by k_is)) (DN.meth_at KX (by k_is) (by k_is) (by k_is) (by k_is) (by k_is))
    have A := Lw.Wds.mk (Lw.g_at_MOVING_WORDS KX G (by k_is) (by k_is)) (Lw.g_at_FORWARD_WORDS KX G (by k_is) (by k_is)) (Lw.g_at_BACKWARD_WORDS KX G (by k_is) (by k_is)) (Lw.g_at_WORDS KX G (by k_is) (by k_is)) (DN.glob_str KX G (by k_is)) (DN.glob_int KX G (by k_is))
    have D := Lw.Defs.mk (DN.fn_at KX G (by k_is) (by k_is) (by k_is) (by k_is)) (DN.fn_at KX G (by k_is) (by k_is) (by k_is) (by k_is)) (DN.fn_at KX G (by k_is) (by k_is) (by k_is) (by k_is)) (DN.fn_at KX G (by k_is) (by k_is) (by k_is) (by k_is)) (DN.fn_at KX G (by k_is) (by k_is) (by k_is) (by k_is)) (DN.fn_at KX G (by k_is) (by k_is) (by k_is) (by k_is)) (DN.fn_at KX G (by k_is) (by k_is) (by k_is) (by k_is)) (DN.fn_at KX G (by k_is) (by k_is) (by k_is) (by k_is)) (DN.fn_at KX G (by k_is) (by k_is) (by k_is) (by k_is)) (DN.fn_at KX G (by k_is) (by k_is) (by k_is) (by k_is)) (DN.fn_at KX G (by k_is) (by k_is) (by k_is) (by k_is)) (DN.fn_at KX G (by k_is) (by k_is) (by k_is) (by k_is)) (DN.fn_at KX G (by k_is) (by k_is) (by k_is) (by k_is)) (DN.fn_at KX G (by k_is) (by k_is) (by k_is) (by k_is)) (DN.fn_at KX G (by k_is) (by k_is) (by k_is) (by k_is)) (DN.fn_at KX G (by k_is) (by k_is) (by k_is) (by k_is)) (DN.fn_at KX G (by k_is) (by k_is) (by k_is) (by k_is)) (DN.fn_at KX G (by k_is) (by k_is) (by k_is) (by k_is)) (DN.fn_at KX G (by k_is) (by k_is) (by k_is) (by k_is)) (DN.fn_at KX G (by k_is) (by k_is) (by k_is) (by k_is)) (DN.fn_at KX G (by k_is) (by k_is) (by k_is) (by k_is)) (DN.fn_at KX G (by k_is) (by k_is) (by k_is) (by k_is)) (DN.fn_at KX G (by k_is) (by k_is) (by k_is) (by k_is)) (DN.fn_at KX G (by k_is) (by k_is) (by k_is) (by k_is)) (DN.fn_at KX G (by k_is) (by k_is) (by k_is) (by k_is))
    exact Lw.law_at KX G hmg (by k_is) (by k_is) (by k_is) (by k_is) T A B O D
