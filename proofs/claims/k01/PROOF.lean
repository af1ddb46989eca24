import PyProof.Rows.All
import Wide.All
import OpenK.AllK
import Wide.FinOn
import HandS.ForMost
import HandS.IsInst
import HandS.Conv
import HandS.ClsMeth
import HandS.TupAny
import HandS.Walk
import HandS.RevRange
import KE.KExcSuper
import HandS.ForExc
import HandS.ExcInit
import HandS.ExcIs
import HandS.ExcField
import HandS.TryMany
import HandS.FStr
import HandS.ExcSuper
import KE.KExcIs
import KE.GoesEnum
import KE.GoesMore
import KE.DataMinMax
import HandS.SortKw
import HandS.OwnIter
import HandS.IterVal
import HandS.TryOnly
import HandS.SlotsOwn
import HandS.RaiseMore
import HandS.Style
import HandS.TupSets
import HandS.Deep
import HandS.Iter
import HandS.TupMul
import HandS.Text
import HandS.SortInts
import HandS.Zip
import HandS.Dict
import HandS.Small
import OpenK.KMeth
import HandS.Rev
import HandS.Star
import HandS.Flt
import HandS.Ends
import HandS.Head0
import HandS.Head1
import HandS.Head2
import KE.OsRunLaw
import PySem.Challenge.RW_ladderreach_k01_web_and_game_refusals
set_option Elab.async false
set_option maxRecDepth 100000
set_option linter.all false
set_option maxHeartbeats 4000000
namespace LR
open PySem PySem.Spec PyProof.Rows L2
/-! ## defs, methods, classes that keep a promise -/
structure Cal (P : Program) (w : World) (K : PySem.W.Frag) (mg : Str → Option Value) (base : Heap) (k : Nat) (x : Str) (sp : Sp) : Prop where
  ex : ∃ (f : Addr) (fd : FuncData) (ps : List Str), FnOk P w K mg base CX0 k f fd ps sp ∧ mg x = some (.ref f) ∧ PySem.W.keepIn K (.ref f) = true ∧ Binds K fd ps []
structure Met (P : Program) (w : World) (K : PySem.W.Frag) (mg : Str → Option Value) (base : Heap) (k : Nat) (C : Addr) (m : Str) (sp : Sp) : Prop where
  ex : ∃ (f : Addr) (fd : FuncData) (ps : List Str), Cls K C ∧ Meth K C m f ∧ FnOk P w K mg base CX0 k f fd ps sp ∧ Binds K fd ps []
structure Mak (P : Program) (w : World) (K : PySem.W.Frag) (mg : Str → Option Value) (base : Heap) (k : Nat) (x : Str) (C : Addr) (sp : Sp) : Prop where
  ex : ∃ (f : Addr) (fd : FuncData) (ps : List Str), Mk K C f ∧ FnOk P w K mg base CX0 k f fd ps sp ∧ mg x = some (.ref C) ∧ Binds K fd ps []
section
variable {X : Cx} {k j : Nat} {C : Addr} {x m : Str} {sp : Sp} {p pos apos : Pos} {e o : Expr} {es : List Expr} {ta : TE} {t : TA}
theorem pe_c (c : Cal X.prog X.w X.K X.mg X.base k x sp) (hr : Room j X.A) (hk : k ≤ j) (hg : Gl X x) (ha : PA X (e :: es) t)
    (hdb : (x == ("__debug__" : Str)) = false := by decide) (he : starEach (e :: es) X.env = (false, eval e X.env) :: starEach es X.env := by rfl) (hpl : (backTo pos (starEach es X.env)).any (·.1) = false := by rfl) :
    PE X (.Call (.Name x p) (e :: es) [] pos) (tCall sp [] E0 t) := by
  obtain ⟨f, fd, ps, F, hm, kp, b⟩ := c.ex
  exact pe_call F (hr.mono hk) hg hm kp b .nil pass0 ha hdb he hpl
end
structure DefIn (K : PySem.W.Frag) (mg : Str → Option Value) (x : Str) (st : Stmt) (ps : List Str) : Prop where
  ex : ∃ (f : Addr) (fd : FuncData), Fun K x x st f fd ∧ mg x = some (.ref f) ∧ Binds K fd ps []
structure MetIn (K : PySem.W.Frag) (C : Addr) (m qual : Str) (st : Stmt) (ps : List Str) : Prop where
  ex : ∃ (f : Addr) (fd : FuncData), Fun K m qual st f fd ∧ Meth K C m f ∧ Binds K fd ps []
structure MakIn (K : PySem.W.Frag) (mg : Str → Option Value) (x : Str) (C : Addr) (qual : Str) (st : Stmt) (ps : List Str) : Prop where
  ex : ∃ (f : Addr) (fd : FuncData), Fun K "__init__" qual st f fd ∧ Mk K C f ∧ mg x = some (.ref C) ∧ Binds K fd ps []
section
variable {P : Program} {w : World} {K : PySem.W.Frag} {mg : Str → Option Value} {base : Heap}
theorem DefIn.cal {x : Str} {st : Stmt} {N ps : List Str} {k : Nat} {sp : Sp} (D : DefIn K mg x st ps) (S : FnScope N ps (defScope st)) (len : ∀ vs H Q E, sp vs H Q E → vs.length = ps.length)
    (hbody : ∀ (f : Addr) (cdv : Value) (A : Around) (outer : List Env) (s : Shared) (H : Hp) (vs : List V) (Q : VK) (E : XK), Room k (A.deeper (envOfC x (defScope st) s.heap.objs.size f cdv)) → sp vs H Q E →
      ∃ t, PSs (cxOf CX0 P w K mg base N x (defScope st) f cdv A outer s H E).nox (defBody st) t ∧ t { nx := fun _ H' => Q .non H', rt := Q } (start N vs) H) : Cal P w K mg base (k + 1) x sp := by
  obtain ⟨f, fd, F, hm, b⟩ := D.ex
  exact ⟨f, fd, ps, F.ok S len (hbody f), hm, F.kp, b⟩
theorem MetIn.met {C : Addr} {m qual : Str} {st : Stmt} {N ps : List Str} {k : Nat} {sp : Sp} (c : Cls K C) (D : MetIn K C m qual st ps) (S : FnScope N ps (defScope st)) (len : ∀ vs H Q E, sp vs H Q E → vs.length = ps.length)
    (hbody : ∀ (f : Addr) (cdv : Value) (A : Around) (outer : List Env) (s : Shared) (H : Hp) (vs : List V) (Q : VK) (E : XK), Room k (A.deeper (envOfC qual (defScope st) s.heap.objs.size f cdv)) → sp vs H Q E →
      ∃ t, PSs (cxOf CX0 P w K mg base N qual (defScope st) f cdv A outer s H E).nox (defBody st) t ∧ t { nx := fun _ H' => Q .non H', rt := Q } (start N vs) H) : Met P w K mg base (k + 1) C m sp := by
  obtain ⟨f, fd, F, hm, b⟩ := D.ex
  exact ⟨f, fd, ps, c, hm, F.ok S len (hbody f), b⟩
end
theorem Cal.mono {P w K mg base j k x sp} (c : Cal P w K mg base j x sp) (h : j ≤ k) : Cal P w K mg base k x sp := by
  obtain ⟨f, fd, ps, F, r⟩ := c.ex
  exact ⟨f, fd, ps, F.mono h, r⟩
theorem Cal.imp {P w K mg base k x sp sp'} (c : Cal P w K mg base k x sp) (h : ∀ vs H Q E, sp' vs H Q E → sp vs H Q E) : Cal P w K mg base k x sp' := by
  obtain ⟨f, fd, ps, F, r⟩ := c.ex
  exact ⟨f, fd, ps, F.imp h, r⟩
/-! ## what the built-in names stand for -/
theorem b_len : bootBuiltins "len" = some (.builtin "len") := by decide +kernel
theorem b_abs : bootBuiltins "abs" = some (.builtin "abs") := by decide +kernel
theorem b_max : bootBuiltins "max" = some (.builtin "max") := by decide +kernel
theorem b_min : bootBuiltins "min" = some (.builtin "min") := by decide +kernel
theorem b_isinstance : bootBuiltins "isinstance" = some (.builtin "isinstance") := by decide +kernel
theorem b_int : bootBuiltins "int" = some (.type "int") := by decide +kernel
theorem b_bool : bootBuiltins "bool" = some (.type "bool") := by decide +kernel
theorem b_str : bootBuiltins "str" = some (.type "str") := by decide +kernel
theorem b_list : bootBuiltins "list" = some (.type "list") := by decide +kernel
theorem b_tuple : bootBuiltins "tuple" = some (.type "tuple") := by decide +kernel
/-! ## heaps -/
/-- all that was tracked stands, but for what is at p -/
def Keep (p : Addr) (H H' : Hp) : Prop := ∀ b, b ≠ p → ∀ o, H b = some o → H' b = some o
theorem Keep.refl {p H} : Keep p H H := fun _ _ _ h => h
theorem Keep.trans {p H H1 H2} (a : Keep p H H1) (b : Keep p H1 H2) : Keep p H H2 := fun c n o h => b c n o (a c n o h)
theorem Keep.upd {p H H' o} (a : Keep p H H') : Keep p H (upd H' p o) := fun c n u h => by rw [upd_ne n]; exact a c n u h
theorem Keep.new {p H H' q o} (a : Keep p H H') (h : H' q = none) : Keep p H (L2.upd H' q o) := fun c n u h1 => by
  rw [upd_ne (ne_of_none (a c n u h1) h)]; exact a c n u h1
theorem Keep.same {p H H' H2} (a : Keep p H H') (b : Same H' H2) : Keep p H H2 := fun c n o h => b c o (a c n o h)
theorem _root_.L2.Same.keep {p H H'} (a : Same H H') : Keep p H H' := fun c _ o h => a c o h
theorem same_new {H q o} (h : H q = none) : Same H (upd H q o) := fun c u h1 => by rw [upd_ne (ne_of_none h1 h)]; exact h1
theorem _root_.L2.Same.new {H H' q o} (a : Same H H') (h : H' q = none) : Same H (upd H' q o) := a.trans (same_new h)
theorem Keep.seq {p a : Addr} {K H H' xs} (k : Keep p H H') (h : SqL K H a xs) (n : a ≠ p) : SqL K H' a xs := by
  rcases h with (h | ⟨o, h⟩) | h
  · exact .inl (.inl (k _ n _ h))
  · exact .inl (.inr ⟨o, k _ n _ h⟩)
  · exact .inr h
theorem Keep.seqT {p a : Addr} {K H H' xs} (k : Keep p H H') (h : SqT K H a xs) (n : a ≠ p) : SqT K H' a xs := by
  rcases h with (h | ⟨o, h⟩) | h
  · exact .inl (.inl (k _ n _ h))
  · exact .inl (.inr ⟨o, k _ n _ h⟩)
  · exact .inr h
theorem _root_.L2.Same.seqT {K H H' a xs} (e : Same H H') (h : SqT K H a xs) : SqT K H' a xs := by
  rcases h with (h | ⟨o, h⟩) | h
  · exact .inl (.inl (e _ _ h))
  · exact .inl (.inr ⟨o, e _ _ h⟩)
  · exact .inr h
/-- a pool of the law: a list of four ints -/
def IsPool (H : Hp) (p : Addr) : Prop := ∃ a b c d : Int, H p = some (.lst [.int a, .int b, .int c, .int d])
theorem IsPool.ne {H p b o} (h : IsPool H p) (hb : H b = some o) (ho : ∀ l, o ≠ .lst l) : b ≠ p := by
  obtain ⟨_, _, _, _, h⟩ := h
  exact ne_of hb h (ho _)
theorem IsPool.same {H H' p} (s : Same H H') (h : IsPool H p) : IsPool H' p := by
  obtain ⟨a, b, c, d, h⟩ := h; exact ⟨a, b, c, d, s _ _ h⟩
theorem IsPool.upd {H p a b c d} : IsPool (upd H p (.lst [.int a, .int b, .int c, .int d])) p := ⟨a, b, c, d, upd_same⟩
theorem Keep.free {p q H H'} (k : Keep p H H') (n : q ≠ p) (h : H' q = none) : H q = none := by
  cases e : H q with
  | none => rfl
  | some o => rw [k q n o e] at h; cases h
theorem IsPool.some {H p} (h : IsPool H p) : ∃ l, H p = some (.lst l) := by
  obtain ⟨_, _, _, _, h⟩ := h; exact ⟨_, h⟩
theorem IsPool.free {H p q} (h : IsPool H p) (hq : H q = none) : q ≠ p := by
  obtain ⟨_, _, _, _, h⟩ := h
  exact (ne_of_none h hq).symm
def spLaw (K : PySem.W.Frag) : Sp := fun vs H Q _ => ∃ (a : Addr) (ns : List Int), vs = [.ref a] ∧ SqL K H a (ns.map V.int) ∧ ∀ H', Q (.bl true) H'
theorem seq_after {K : PySem.W.Frag} {H H' : Hp} {a p : Addr} {xs : List V} (h : SqL K H a xs) (hp : H p = none) (k : Keep p H H') : SqL K H' a xs := by
  rcases h with (h | ⟨o, h⟩) | h
  · exact .inl (.inl (k _ (ne_of_none h hp) _ h))
  · exact .inl (.inr ⟨o, k _ (ne_of_none h hp) _ h⟩)
  · exact .inr h
theorem ite_b {c : Bool} {A B : Prop} (h1 : c = true → A) (h2 : c = false → B) : if c = true then A else B := by
  cases c with
  | true => exact h1 rfl
  | false => exact iteF (h2 rfl)
end LR
set_option Elab.async false
set_option maxRecDepth 100000
set_option linter.all false
set_option maxHeartbeats 4000000
namespace LR
open PySem PySem.Spec PyProof.Rows L2
/-! ## data of the law, as they lie in the heap -/
inductive Dt where
  | non | bl (b : Bool) | int (i : Int) | str (x : Str) | lst (l : List Dt) | tup (l : List Dt)
mutual
inductive At (H : Hp) : V → Dt → Prop
  | non : At H .non .non
  | bl (b : Bool) : At H (.bl b) (.bl b)
  | int (i : Int) : At H (.int i) (.int i)
  | str (x : Str) : At H (.str x) (.str x)
  | lst {p : Addr} {xs : List V} {ds : List Dt} (h : H p = some (.lst xs)) (a : Ats H xs ds) (z : xs.length ≤ 100000) : At H (.ref p) (.lst ds)
  | tup {p : Addr} {xs : List V} {ds : List Dt} (h : H p = some (.tup xs)) (a : Ats H xs ds) (z : xs.length ≤ 100000) : At H (.ref p) (.tup ds)
inductive Ats (H : Hp) : List V → List Dt → Prop
  | nil : Ats H [] []
  | cons {x : V} {d : Dt} {xs : List V} {ds : List Dt} (h : At H x d) (t : Ats H xs ds) : Ats H (x :: xs) (d :: ds)
end
theorem Ats.length {H : Hp} {xs ds} (h : Ats H xs ds) : xs.length = ds.length := by
  revert ds; induction xs with
  | nil => intro ds h; cases h; rfl
  | cons x xs ih => intro ds h; cases h with | cons a t => rw [List.length_cons, List.length_cons, ih t]
theorem Ats.get {H : Hp} : ∀ {xs ds} (h : Ats H xs ds) {i : Nat} {x : V}, xs[i]? = some x → ∃ d, ds[i]? = some d ∧ At H x d := by
  intro xs; induction xs with
  | nil => intro ds h i x e; simp at e
  | cons y xs ih => 
    intro ds h i x e
    cases h with
    | cons a t =>
      cases i with
      | zero => exact ⟨_, rfl, by simp at e; subst e; exact a⟩
      | succ i => exact ih t (by simpa using e)
theorem Ats.getD {H : Hp} {xs ds} (h : Ats H xs ds) {i : Nat} {d : Dt} (e : ds[i]? = some d) : ∃ x, xs[i]? = some x ∧ At H x d := by
  have hl := h.length
  have hi : i < xs.length := by rw [hl]; exact (List.getElem?_eq_some_iff.mp e).1
  obtain ⟨d', e', a⟩ := h.get (List.getElem?_eq_getElem hi)
  rw [e] at e'; cases e'
  exact ⟨_, List.getElem?_eq_getElem hi, a⟩
theorem ats_ints (H : Hp) : ∀ l : List Int, Ats H (l.map V.int) (l.map Dt.int)
  | [] => .nil
  | i :: r => .cons (.int i) (ats_ints H r)
mutual
theorem At.same {H H' : Hp} (s : Same H H') : ∀ {x d}, At H x d → At H' x d
  | _, _, .non => .non
  | _, _, .bl b => .bl b
  | _, _, .int i => .int i
  | _, _, .str x => .str x
  | _, _, .lst h a z => .lst (s _ _ h) (a.same s) z
  | _, _, .tup h a z => .tup (s _ _ h) (a.same s) z
theorem Ats.same {H H' : Hp} (s : Same H H') : ∀ {xs ds}, Ats H xs ds → Ats H' xs ds
  | _, _, .nil => .nil
  | _, _, .cons h t => .cons (h.same s) (t.same s)
end
def ty : Dt → String
  | .non => "NoneType" | .bl _ => "bool" | .int _ => "int" | .str _ => "str" | .lst _ => "list" | .tup _ => "tuple"
def isU : Dt → Bool | .tup _ => true | _ => false
def isB : Dt → Bool | .bl _ => true | _ => false
def isI : Dt → Bool | .int _ => true | .bl _ => true | _ => false
def isS : Dt → Bool | .str _ => true | _ => false
theorem kitU (d : Dt) : kitB (ty d) "tuple" = some (isU d) := by
  cases d with
  | non => exact (by decide +kernel : kitB "NoneType" "tuple" = some false)
  | bl b => exact (by decide +kernel : kitB "bool" "tuple" = some false)
  | int i => exact (by decide +kernel : kitB "int" "tuple" = some false)
  | str x => exact (by decide +kernel : kitB "str" "tuple" = some false)
  | lst l => exact (by decide +kernel : kitB "list" "tuple" = some false)
  | tup l => exact (by decide +kernel : kitB "tuple" "tuple" = some true)
theorem kitBo (d : Dt) : kitB (ty d) "bool" = some (isB d) := by
  cases d with
  | non => exact (by decide +kernel : kitB "NoneType" "bool" = some false)
  | bl b => exact (by decide +kernel : kitB "bool" "bool" = some true)
  | int i => exact (by decide +kernel : kitB "int" "bool" = some false)
  | str x => exact (by decide +kernel : kitB "str" "bool" = some false)
  | lst l => exact (by decide +kernel : kitB "list" "bool" = some false)
  | tup l => exact (by decide +kernel : kitB "tuple" "bool" = some false)
theorem kitI (d : Dt) : kitB (ty d) "int" = some (isI d) := by
  cases d with
  | non => exact (by decide +kernel : kitB "NoneType" "int" = some false)
  | bl b => exact (by decide +kernel : kitB "bool" "int" = some true)
  | int i => exact (by decide +kernel : kitB "int" "int" = some true)
  | str x => exact (by decide +kernel : kitB "str" "int" = some false)
  | lst l => exact (by decide +kernel : kitB "list" "int" = some false)
  | tup l => exact (by decide +kernel : kitB "tuple" "int" = some false)
theorem kitS (d : Dt) : kitB (ty d) "str" = some (isS d) := by
  cases d with
  | non => exact (by decide +kernel : kitB "NoneType" "str" = some false)
  | bl b => exact (by decide +kernel : kitB "bool" "str" = some false)
  | int i => exact (by decide +kernel : kitB "int" "str" = some false)
  | str x => exact (by decide +kernel : kitB "str" "str" = some true)
  | lst l => exact (by decide +kernel : kitB "list" "str" = some false)
  | tup l => exact (by decide +kernel : kitB "tuple" "str" = some false)
end LR
set_option Elab.async false
set_option maxRecDepth 100000
set_option linter.all false
set_option maxHeartbeats 4000000
namespace LR
open PySem PySem.Spec PyProof.Rows L2
/-! ## the mathematics of a ladder -/
def cnt (lv : Int) (l : List Int) : Int := ((l.filter (fun x => decide (lv ≤ x))).length : Int)
/-- levels of at least lv below step i -/
def cn (ls : List Int) (lv : Int) (i : Nat) : Int := cnt lv (ls.take i)
def cnL (ls : List Int) (lv : Int) (n : Nat) : List V := (List.range n).map fun i => V.int (cn ls lv i)
def lfs (h : Int) (tl : Addr) (n : Int) (tc : Addr) : List (Str × V) := [("height", .int h), ("levels", .ref tl), ("top", .int n), ("_counts", .ref tc)]
/-- what lies in the heap of the tuple of counts -/
def Counts (H : Hp) (ls : List Int) (tc : Addr) (h : Int) : Prop := ∃ cs : List Addr, H tc = some (.tup (cs.map V.ref)) ∧ cs.length = (h + 1).toNat ∧ ∀ (j : Nat) (a : Addr), cs[j]? = some a → H a = some (.tup (cnL ls (j + 1) (ls.length + 1)))
/-- a ladder of height h and row ls stands at x -/
def LadderAt (C : Addr) (H : Hp) (x : Addr) (h : Int) (ls : List Int) : Prop := ∃ dx tl tc, H x = some (.ins C dx (lfs h tl ls.length tc)) ∧ H tl = some (.tup (ls.map V.int)) ∧ Counts H ls tc h
theorem LadderAt.same {C H H' x h ls} (s : Same H H') (a : LadderAt C H x h ls) : LadderAt C H' x h ls := by
  obtain ⟨dx, tl, tc, h1, h2, cs, h3, h4, h5⟩ := a
  exact ⟨dx, tl, tc, s _ _ h1, s _ _ h2, cs, s _ _ h3, h4, fun j a e => s _ _ (h5 j a e)⟩
theorem LadderAt.keep {C H H' x h ls p} (s : Keep p H H') (hp : ∃ l, H p = some (.lst l)) (a : LadderAt C H x h ls) : LadderAt C H' x h ls := by
  obtain ⟨l, hp⟩ := hp
  obtain ⟨dx, tl, tc, h1, h2, cs, h3, h4, h5⟩ := a
  have k : ∀ b o, H b = some o → (∀ l, o ≠ .lst l) → H' b = some o := fun b o e n => s _ (ne_of e hp (n _)) _ e
  exact ⟨dx, tl, tc, k _ _ h1 (fun l z => by cases z), k _ _ h2 (fun l z => by cases z), cs, k _ _ h3 (fun l z => by cases z), h4, fun j a e => k _ _ (h5 j a e) (fun l z => by cases z)⟩
/-- what the ladder answers: an edge of rank p from u to w -/
def alw (ls : List Int) (u p w : Int) : Bool := if p % 2 = 0 then decide (cn ls (p / 2 + 1) w.toNat ≤ cn ls (p / 2 + 1) u.toNat) else decide (cn ls (p / 2 + 1) w.toNat < cn ls (p / 2 + 1) u.toNat)
/-! ## the mathematics of allowed edges -/
/-- g is the greatest level from place lo to hi, 0 if there is none -/
def IsGap (ls : List Int) (lo hi : Nat) (g : Int) : Prop := 0 ≤ g ∧ (∀ (m : Nat) (z : Int), lo ≤ m → m < hi → ls[m]? = some z → z ≤ g) ∧ (g = 0 ∨ ∃ m : Nat, lo ≤ m ∧ m < hi ∧ ls[m]? = some g)
theorem IsGap.le {ls : List Int} {lo hi : Nat} {g j : Int} (h : IsGap ls lo hi g) (hj : 0 ≤ j) : g ≤ j ↔ ∀ (m : Nat) (z : Int), lo ≤ m → m < hi → ls[m]? = some z → z < j + 1 := by
  constructor
  · intro c m z a b e
    have := h.2.1 m z a b e
    omega
  · intro c
    rcases h.2.2 with e | ⟨m, a, b, e⟩
    · omega
    · have := c m g a b e
      omega
end LR
set_option Elab.async false
set_option maxRecDepth 100000
set_option linter.all false
set_option maxHeartbeats 4000000
namespace LR
open PySem PySem.Spec PyProof.Rows L2
def oD : Option Int → Dt
  | none => .non
  | some k => .int k
/-- o is the least step from which rank p is allowed to w -/
def LeastIs (ls : List Int) (p w : Int) (o : Option Int) : Prop := (∀ k, o = some k → 0 ≤ k ∧ k ≤ ls.length) ∧ ∀ u : Int, 0 ≤ u → u ≤ ls.length → (alw ls u p w = true ↔ ∃ k, o = some k ∧ k ≤ u)
def GreatestIs (ls : List Int) (u p : Int) (o : Option Int) : Prop := (∀ k, o = some k → 0 ≤ k ∧ k ≤ ls.length) ∧ ∀ w : Int, 0 ≤ w → w ≤ ls.length → (alw ls u p w = true ↔ ∃ k, o = some k ∧ w ≤ k)
theorem LeastIs.one {ls p w o o'} (a : LeastIs ls p w o) (b : LeastIs ls p w o') : o = o' := by
  have key : ∀ {x y : Option Int}, LeastIs ls p w x → LeastIs ls p w y → ∀ k, x = some k → ∃ j, y = some j ∧ j ≤ k := fun a b k e => by
    obtain ⟨k0, k1⟩ := a.1 k e
    exact (b.2 k k0 k1).mp ((a.2 k k0 k1).mpr ⟨k, e, Int.le_refl _⟩)
  cases o with
  | none => cases o' with
    | none => rfl
    | some k => obtain ⟨j, e, _⟩ := key b a k rfl; cases e
  | some k => 
    obtain ⟨j, e, h⟩ := key a b k rfl
    subst e
    obtain ⟨i, e, h2⟩ := key b a j rfl
    cases e
    rw [Int.le_antisymm h h2]
theorem GreatestIs.one {ls u p o o'} (a : GreatestIs ls u p o) (b : GreatestIs ls u p o') : o = o' := by
  have key : ∀ {x y : Option Int}, GreatestIs ls u p x → GreatestIs ls u p y → ∀ k, x = some k → ∃ j, y = some j ∧ k ≤ j := fun a b k e => by
    obtain ⟨k0, k1⟩ := a.1 k e
    exact (b.2 k k0 k1).mp ((a.2 k k0 k1).mpr ⟨k, e, Int.le_refl _⟩)
  cases o with
  | none => cases o' with
    | none => rfl
    | some k => obtain ⟨j, e, _⟩ := key b a k rfl; cases e
  | some k =>
    obtain ⟨j, e, h⟩ := key a b k rfl
    subst e
    obtain ⟨i, e, h2⟩ := key b a j rfl
    cases e
    rw [Int.le_antisymm h h2]
end LR
set_option Elab.async false
set_option maxRecDepth 100000
set_option linter.all false
set_option maxHeartbeats 4000000
namespace LR
open PySem PySem.Spec PyProof.Rows L2
/-! ## defs that say super(): the cell __class__ stands in the written part -/
structure CScope (N P : List Str) (sc : Scope) : Prop where
  kind : sc.kind = .function
  co : sc.isCoroutine = false
  gen : sc.isGenerator = false
  nd : N.Nodup
  pre : N.take P.length = P
  par : ∀ x ∈ P, sc.names.lookup x = some .local
  nocell : ∀ y ∈ sc.names, y.2 ≠ .cell
  free : ∀ y ∈ sc.names, y.2 = .free → y.1 = "__class__"
def cxC (CX : CXT) (P : Program) (w : World) (K : PySem.W.Frag) (mg : Str → Option Value) (base : Heap) (N : List Str) (qual : Str) (scope : Scope) (f : Addr) (cd : Value) (cc : Addr) (A : Around) (outer : List Env) (s : Shared) (H : Hp) (E : XK) : Cx where
  prog := P
  w := w
  K := K
  mg := mg
  base := base
  A := A.deeper (PySem.W.ksEnv qual scope s.heap.objs.size f cd cc)
  N := N
  s_0 := s
  H_0 := H
  env := PySem.W.ksEnv qual scope s.heap.objs.size f cd cc
  outer := outer
  stack := PySem.W.ksEnv qual scope s.heap.objs.size f cd cc :: outer
  ex := []
  calm := true
  fn := fun _ => false
  pn := []
  xe := fun e s' => wpAny (model P w) (A.deeper (PySem.W.ksEnv qual scope s.heap.objs.size f cd cc)) (leaving (PySem.W.ksEnv qual scope s.heap.objs.size f cd cc) e) (fun _ s'' => CX outer H s E e s'') (fun e' s'' => CX outer H s E e' s'') s'
/-! ### statements at the def's own node -/
structure NE (X : Cx) (body : List Stmt) (e : Expr) (t : TE) : Prop where
  run : ∀ (pins : List (Addr × Obj)) (s : Shared) (σ : L2.St) (H : Hp) (Q : VK), Inv X pins σ H s → t σ H Q → PySem.wpAt (model X.prog X.w) X.A (.func body X.env) (eval e X.env) (EP X pins σ Q) X.xe s
structure NS (X : Cx) (body : List Stmt) (st : Stmt) (t : TS) : Prop where
  run : ∀ (pins : List (Addr × Obj)) (s : Shared) (σ : L2.St) (H : Hp) (D : Ends), Inv X pins σ H s → t D σ H → PySem.wpAt (model X.prog X.w) X.A (.func body X.env) (exec st X.env) (SP X pins D) X.xe s
structure NSs (X : Cx) (body : List Stmt) (st : List Stmt) (t : TS) : Prop where
  run : ∀ (pins : List (Addr × Obj)) (s : Shared) (σ : L2.St) (H : Hp) (D : Ends), Inv X pins σ H s → t D σ H → PySem.wpAt (model X.prog X.w) X.A (.func body X.env) (execs st X.env) (SP X pins D) X.xe s
section
variable {X : Cx} {body : List Stmt} {st : Stmt} {rest : List Stmt} {t u : TS} {e : Expr} {te : TE} {pos : Pos}
theorem nss_ps (h : PSs X rest t) : NSs X body rest t := ⟨fun pins s σ H D I q => wpAt_of_wpAny (h.run pins s σ H D I q)⟩
theorem ns_ps (h : PS X st t) : NS X body st t := ⟨fun pins s σ H D I q => wpAt_of_wpAny (h.run pins s σ H D I q)⟩
theorem nss_cons (h1 : NS X body st t) (h2 : NSs X body rest u) : NSs X body (st :: rest) (tSeq t u) := by
  refine ⟨fun pins s σ H D I h => ?_⟩
  refine PySem.ks_wpAt_execs_cons (PySem.ks_wpAt_mono (h1.run pins s σ H { D with nx := u D } I h) (fun f s1 q => ?_) fun _ _ z => z)
  cases f with
  | next =>
    obtain ⟨σ', H', I', q⟩ := q
    exact h2.run pins s1 σ' H' D I' q
  | ret v => exact q
  | brk => exact q
  | cont => exact q
theorem nss_nil : NSs X body [] tNext := nss_ps pss_nil
theorem nss_one (h : NS X body st t) : NSs X body [st] (tSeq t tNext) := nss_cons h nss_nil
theorem ns_expr (h : NE X body e te) (hi : interactive X.env = false := by rfl) (hs : swapsWith e none pos.line X.env = pure false := by rfl) : NS X body (.Expr e pos) (tDrop te) := by
  refine ⟨fun pins s σ H D I q => ?_⟩
  refine PySem.ks_wpAt_Expr_any (PySem.ks_wpAt_mono (h.run pins s σ H _ I q) (fun v s1 hh => ?_) fun _ _ z => z) hi hs
  obtain ⟨x, H1, I1, r1, q1⟩ := hh
  exact ⟨σ, H1, I1, q1⟩
end
theorem lk_mem {l : List (Str × Value)} {y : Str} {u : Value} (nd : (l.map (·.1)).Nodup) (h : (y, u) ∈ l) : l.lookup y = some u := by
  induction l with
  | nil => cases h
  | cons p r ih =>
    obtain ⟨z, v⟩ := p
    have hz : ((z, v) :: r).map (·.1) = z :: r.map (·.1) := rfl
    rw [hz] at nd
    obtain ⟨n1, n2⟩ := List.nodup_cons.mp nd
    rcases List.mem_cons.mp h with q | q
    · cases q
      simp [List.lookup]
    · have ne : (y == z) = false := by
        simp only [beq_eq_false_iff_ne, ne_eq]
        intro e; subst e
        exact n1 (List.mem_map_of_mem (f := (·.1)) q)
      simp only [List.lookup, ne]
      exact ih n2 q
theorem nodup_rev {α : Type} : ∀ {l : List α}, l.Nodup → l.reverse.Nodup := fun {l} h => by
  unfold List.Nodup at h ⊢
  rw [List.pairwise_reverse]
  exact h.imp fun a b => a b.symm
theorem zip_lk {ps : List Str} {us : List Value} {i : Nat} {y : Str} {u : Value} (nd : ps.Nodup) (hl : us.length = ps.length) (h1 : ps[i]? = some y) (h2 : us[i]? = some u) : (ps.zip us).reverse.lookup y = some u := by
  refine lk_mem ?_ ?_
  · rw [List.map_reverse]
    refine nodup_rev ?_
    have : (ps.zip us).map (·.1) = ps := List.map_fst_zip (by omega)
    rw [this]; exact nd
  · rw [List.mem_reverse]
    refine List.mem_of_getElem? (i := i) ?_
    rw [List.getElem?_zip_eq_some]; exact ⟨h1, h2⟩
section
variable {CX : CXT} {P : Program} {w : World} {K : PySem.W.Frag} {mg : Str → Option Value} {base : Heap} {k : Nat} {f cc D : Addr} {name qual : Str} {params : Arguments} {body : List Stmt} {scope : Scope} {dV kV doc pm cdv ct oc cl : Value} {an od cld : Option Addr}
    {osl csl : Array (Option Value)} {N ps : List Str} {sp : Sp}
theorem fn_ofC (lk : K.lookup f = some ⟨oc, od, .func (PySem.W.ksFn name qual params body scope dV kV doc pm an cdv ct cc), osl⟩) (lc : K.lookup cc = some ⟨cl, cld, .cell (some (.ref D)), csl⟩) (hcd : PySem.W.codeIn K cdv qual = true) (S : CScope N ps scope)
    (len : ∀ vs H Q E, sp vs H Q E → vs.length = ps.length)
    (hbody : ∀ (A : Around) (outer : List Env) (s : Shared) (H : Hp) (vs : List V) (Q : VK) (E : XK), Room k (A.deeper (PySem.W.ksEnv qual scope s.heap.objs.size f cdv cc)) → sp vs H Q E →
      ∃ t, NSs (cxC CX P w K mg base N qual scope f cdv cc A outer s H E) body body t ∧ t { nx := fun _ H' => Q .non H', rt := Q } (L2.start N vs) H) :
    FnOk P w K mg base CX (k + 1) f (PySem.W.ksFn name qual params body scope dV kV doc pm an cdv ct cc) ps sp := by
  refine ⟨len, fun A outer s H args us vs Q E hr e0 hb r hsp => ?_⟩
  have hl := len _ _ _ _ hsp
  have hlu : us.length = ps.length := by rw [← hl]; exact r.length.symm
  have KX : K.In s.heap := e0.mod.kin.keeps fun b o e => (e0.bs b o e).1
  have lim : s.heap.NoLimit := e0.mod.nolimit.keeps fun b o e => (e0.bs b o e).1
  have hloc : ∀ y ∈ ps.zip us, scope.names.lookup y.1 = some .local := fun ⟨n, v⟩ hy => S.par n (List.of_mem_zip hy).1
  have ndP : ps.Nodup := by rw [← S.pre]; exact S.nd.sublist (List.take_sublist _ _)
  have hpl : ps.length ≤ N.length := by have := congrArg List.length S.pre; rw [List.length_take] at this; omega
  refine PySem.ks_codeAny_call_defAt (fd := PySem.W.ksFn name qual params body scope dV kV doc pm an cdv ct cc) (body := body) (binds := ps.zip us) hr.depth (KX _ _ lk) rfl lim (PySem.W.codeRec_of KX hcd) rfl hb S.nocell hloc (fun h₀ hns hk => ?_) S.co S.gen S.kind
  obtain ⟨t, ht, hq⟩ := hbody A outer s H vs Q E (hr.deeper _) hsp
  have noA : ∀ b : Addr, b ∉ (cxC CX P w K mg base N qual scope f cdv cc A outer s H E).ex := fun b z => absurd (show b ∈ ([] : List Addr) from z) (by simp)
  have hcells : ∀ (x : Str) (c : Addr), (cxC CX P w K mg base N qual scope f cdv cc A outer s H E).env.cells.lookup x = some c → x = "__class__" ∧ c = cc := fun x c h => by
    have h : List.lookup x [(("__class__" : Str), cc)] = some c := h
    simp only [List.lookup] at h
    split at h
    · rename_i e
      exact ⟨by simpa using e, (Option.some.inj h).symm⟩
    · cases h
  have hcc : base.get? cc = some ⟨cl, cld, .cell (some (.ref D)), csl⟩ := e0.mod.kin _ _ lc
  have I : Inv (cxC CX P w K mg base N qual scope f cdv cc A outer s H E) [] (start N vs) H { s with heap := h₀, toks := s.toks + (ps.zip us).length } := by
    refine ⟨⟨e0.mod, S.kind, rfl, rfl, Nat.le_refl _, fun y z c h1 h2 => ?_, fun y hy => ?_, fun y c hf _ => absurd hf (by show ¬ false = true; decide), fun _ => hr.hd, Around.frames_deeper e0.frames, .inr ⟨rfl, rfl⟩, fun b z => absurd z (noA b), e0.bs, e0.bsz, fun b _ _ => noA b, fun b z => absurd z (noA b), e0.funs, e0.frf⟩,
      rfl, e0.bare, Un.kept hk, ⟨_, hns, fun i y v h1 h2 h3 => ?_⟩, fun y c h => ?_, e0.hok.fresh (Nat.le_refl _), fun y c h => ?_, fun p hp => absurd (show p ∈ ([] : List (Addr × Obj)) from hp) (by simp), e0.hok.kept hk, ?_⟩
    · rw [(hcells _ _ h1).1, (hcells _ _ h2).1]
    · have hy : scope.names.lookup y = some .cell ∨ scope.names.lookup y = some .free := hy
      rcases hy with hy | hy
      · exact absurd rfl (S.nocell _ (PySem.mem_of_lookup hy))
      · have e := S.free _ (PySem.mem_of_lookup hy) rfl
        have e : y = "__class__" := e
        subst e
        exact ⟨cc, rfl⟩
    · have hi : i < vs.length := by
        unfold L2.start at h2
        by_cases hi : i < vs.length
        · exact hi
        · rw [List.getElem?_append_right (by simpa using hi)] at h2
          rw [List.getElem?_replicate] at h2
          split at h2 <;> cases h2
      have ha : vs[i]? = some v := by
        unfold L2.start at h2
        rw [List.getElem?_append_left (by simpa using hi), List.getElem?_map] at h2
        cases e : vs[i]? with
        | none => rw [e] at h2; cases h2
        | some a => rw [e] at h2; cases h2; rfl
      obtain ⟨u, hu, rv⟩ := r.get ha
      have hp : ps[i]? = some y := by
        rw [← S.pre, List.getElem?_take_of_lt (by omega)]; exact h1
      exact ⟨u, rv, .inl ⟨S.par y (List.mem_of_getElem? hp), zip_lk ndP hlu hp hu⟩⟩
    · rw [(hcells _ _ h).2]
      exact ⟨_, _, hk _ _ (KX _ _ lc), rfl⟩
    · rw [(hcells _ _ h).2]
      exact (e0.bs _ _ hcc).2
    · unfold L2.start
      show _ = N.length
      rw [List.length_append, List.length_map, List.length_replicate]
      omega
  refine PySem.ks_wpAt_mono (ht.run [] _ (start N vs) H _ I hq) (fun fl s' hs => ?_) fun e s' hs => hs
  have fin : ∀ {σ' : L2.St} {H' : Hp} {v : V} {u : Value}, Inv (cxC CX P w K mg base N qual scope f cdv cc A outer s H E) [] σ' H' s' → RelV v u → Q v H' → CE outer P w H s Q u s' :=
    fun {σ' H' v u} J rv q => ⟨v, H', J.os, J.bare, J.base, J.hok, rv, q⟩
  cases fl with
  | ret u =>
    obtain ⟨v, σ', H', J, rv, q⟩ := hs
    exact fin J rv q
  | next =>
    obtain ⟨σ', H', J, q⟩ := hs
    exact fin (v := V.non) (u := Value.none) J rfl q
  | brk =>
    obtain ⟨_, _, _, q⟩ := hs
    exact False.elim q
  | cont =>
    obtain ⟨_, _, _, q⟩ := hs
    exact False.elim q
end
end LR
set_option Elab.async false
set_option maxRecDepth 100000
set_option linter.all false
set_option maxHeartbeats 4000000
namespace LR
open PySem PySem.Spec PyProof.Rows L2
/-- what the written part says of a def with super(), standing at f, of the class at D -/
structure SupIn (prog : Program) (K : PySem.W.Frag) (mg : Str → Option Value) (f cc cda D : Addr) (fd : FuncData) (me : Str) : Prop where
  fn : ∃ oc od osl, K.lookup f = some ⟨oc, od, .func fd, osl⟩
  head : ∃ ar : Arg, (fd.params.posonlyargs ++ fd.params.args).head? = some ar ∧ ar.arg = me
  code : ∃ (ccl : Value) (cdd : Option Addr) (vs : Array Value) (ccs : Array (Option Value)) (file : Str) (tf : Tok), K.lookup cda = some ⟨ccl, cdd, .fields vs, ccs⟩ ∧ vs[2]? = some (.str file tf) ∧ ((prog.main.file : Str) == file) = true
  cell : ∃ cl cld csl, K.lookup cc = some ⟨cl, cld, .cell (some (.ref D)), csl⟩
  cls : ∃ cd, PySem.W.clsIn K D = some cd
  sup : mg "super" = none
  top : (prog.main.scope.names.lookup ("super" : Str)).isSome = false
  any : PySem.W.nsIn K cStatics "thirdparty.any" = some none
theorem b_super : bootBuiltins "super" = some (.type "super") := by first | decide +kernel | rfl | kernel_rfl
theorem pin_newA {X : Cx} {pins : List (Addr × Obj)} {σ : L2.St} {H : Hp} {s : Shared} {o : Obj} {h' : Heap} {a : Addr} {t' : Nat} (I : Inv X pins σ H s) (k : ∀ b u, s.heap.get? b = some u → h'.get? b = some u) (ha : s.heap.objs.size ≤ a) (ho : h'.get? a = some o) (hc : ∀ v, o.data ≠ .cell v) :
    Inv X ((a, o) :: pins) σ H { s with heap := h', toks := t' } := ClX.pin_new I k ha ho hc
section
variable {X : Cx} {pins : List (Addr × Obj)} {σ : L2.St} {H : Hp} {s : Shared} {body : List Stmt} {f cc cda D C x : Addr} {fd : FuncData} {self attr : Str} {p0 p1 : Pos} {whole : Sem Value} {Q : Value → Shared → Prop} {i : Nat}
theorem super_base (S : SupIn X.prog X.K X.mg f cc cda D fd self) (I : Inv X pins σ H s) {ox : Obj} (hx : s.heap.get? x = some ox) (hxc : ox.cls = .ref C) (hnc : ∀ c, ox.data ≠ .cls c) (hsub : PySem.W.mroIn X.K C (.ref D) = some true)
    (hi : X.N[i]? = some self) (hσ : σ[i]? = some (some (.ref x))) (hka : X.env.kindOf self = some .local)
    (hks : X.env.kindOf "super" = some .globalImplicit) (hkc : X.env.kindOf "__class__" = some .free) (hfu : X.env.func = some f) (hco : X.env.code = .ref cda) (hcl : X.env.cells.lookup ("__class__" : Str) = some cc)
    (hat : (attr == ("__class__" : Str)) = false)
    (h : ∀ (so : Addr) (h' : Heap), h'.get? so = some (PySem.W.ks_superObj D x C) → Inv X ((so, PySem.W.ks_superObj D x C) :: pins) σ H { s with heap := h' } → (∀ b u, s.heap.get? b = some u → h'.get? b = some u) → Q (.ref so) { s with heap := h' }) {E : Value → Shared → Prop} :
    PySem.wpAt (model X.prog X.w) X.A (.func body X.env) (attributeBase (.Call (.Name "super" p0) [] [] p1) attr X.env whole) Q E s := by
  obtain ⟨oc, od, osl, hf⟩ := S.fn
  obtain ⟨ar, hp, har⟩ := S.head
  obtain ⟨ccl, cdd, vs, ccs, file, tf, hcode, hvs, hfile⟩ := S.code
  obtain ⟨cl, cld, csl, hcell⟩ := S.cell
  obtain ⟨cdD, hD⟩ := S.cls
  have KX := I.kIn
  obtain ⟨oD, hD1, hD2⟩ : ∃ oD, s.heap.get? D = some oD ∧ oD.data = .cls cdD := by
    unfold PySem.W.clsIn at hD
    split at hD
    · rename_i c d cd' sl ho
      cases hD
      exact ⟨_, KX _ _ ho, rfl⟩
    · cases hD
  subst har
  have kind := I.ok.kind
  obtain ⟨mb, hb1, hb2⟩ := I.mod.blt
  refine PySem.ks_wpAt_super_base (env := X.env) hks hkc hat hfu (KX _ _ hf) rfl hp hco (KX _ _ hcode) rfl hvs hfile S.top ?_
  refine PySem.W.ks_loadName_global kind hks (Calls.loadGlobal_builtin (by rw [I.ok.glob]; exact I.mod.glob.keeps I.bk) S.sup (by rw [I.ok.blt]; exact hb1.keeps I.bk) ((hb2 _ (by decide)).trans b_super) ⟨rfl, ?_⟩)
  refine wpAny_loadName_free kind hkc hcl ⟨_, KX _ _ hcell, rfl⟩ ?_
  obtain ⟨m, hns, hloc⟩ := id I.loc
  obtain ⟨u, ru, hlook⟩ := hloc i _ _ hi hσ (.inl hka)
  obtain rfl : u = Value.ref x := ru
  rcases hlook with ⟨_, hm⟩ | ⟨hk, _⟩
  · refine wpAny_loadName_local kind hka hns hm ?_
    obtain ⟨hh, g, d, t, os⟩ := s
    refine PySem.ks_wpAny_isType_cls hD1 hD2 ⟨rfl, ?_⟩
    refine PySem.ks_wpAny_call_super hD1 hD2 hx hxc hnc (PySem.W.looks_mroIn KX hsub) (fun h' e k => ?_)
    exact h _ h' e (pin_newA (t' := t) I k (Nat.le_refl _) e (fun v z => by cases z)) k
  · rw [hka] at hk
    rcases hk with hk | hk <;> cases hk
end
/-! ### super().__init__(..) where the built-in's __init__ is meant -/
section
open PySem.W
variable {prog : Program} {w : World} {A : Around} {E : Value → Shared → Prop} {h : Heap} {g : Array GenState} {d : Drawn} {t : Nat} {os : OsState}
variable {nm q : Str} {C N : Addr} {bs bm : List Value} {hdct : Bool} {sn : List Str} {sub : List Value} {ab : Bool} {col : Option Bool} {dd : Option Addr} {k0 k1 k2 k3 k5 : Option Value}
theorem call_mwVE {u e t0 : Addr} {rest : List Value} {Q : Value → Shared → Prop}
    (hC : h.get? C = some (excClassObj nm q C N bs bm hdct sn sub ab col dd k0 k1 k2 k3 k5 "ValueError.__new__")) (he : h.get? e = some (HandSPX.excO C t0)) (hu : h.get? u = some (kxs_mw "ValueError.__init__" e)) (hrest : rest.length ≤ sizeLine)
    (hq : ∀ h' t1, (∀ b o, b ≠ e → h.get? b = some o → h'.get? b = some o) → h'.get? e = some (HandSPX.excO C t1) → Q .none ⟨h', g, d, t, os⟩) :
    wpAny (model prog w) A (call (.ref u) rest) Q E ⟨h, g, d, t, os⟩ := by
  refine wpAny_call (codeAny_of_tree ?_)
  show wpAny _ A.in1 (callAny (.ref u) ⟨rest, []⟩) _ _ _
  simp only [callAny]
  refine wpAny_bind (wpAny_load hu ?_)
  simp only [kxs_mw, show (Value.type "method-wrapper" == Value.type "method" || Value.type "method-wrapper" == Value.type "builtin_function_or_method" || Value.type "method-wrapper" == Value.type "method-wrapper") = true by decide, if_true]
  refine KFB.if_so (by decide) ?_
  refine wpAny_bind (ESX.check_bound F.excBase_ValueError hC he rfl ?_)
  refine wpAny_bind (wpAny_pure (wpAny_pure ?_))
  refine ⟨Code.quiet_builtin _ (by decide +kernel), codeAny_builtin F.excBase_ValueError.initEntry ?_⟩
  rw [Around.under_plainId F.excBase_ValueError.init.plain _]
  wp_walk
  refine hq _ h.objs.size (fun b o hb ho => ?_) ?_
  · rw [Heap.get?_update_other _ _ (Ne.symm hb)]
    exact Heap.get?_push_of_some _ ho
  · rw [Heap.get?_update_self _ (Heap.get?_push_of_some _ he) rfl]
    rfl
end
section
variable {X : Cx} {body : List Stmt} {f cc cda D C : Addr} {fd : FuncData} {me m : Str} {p0 p1 pos apos : Pos} {i : Nat} {e : Expr} {es : List Expr} {ta : TA} {pl : Sem Bool}
/-- super().__init__(e, ..) in an exception's own __init__: nothing of it is told -/
def tSupV (C : Addr) (i : Nat) (ta : TA) : TE := fun σ H Q => ∃ x : Addr, σ[i]? = some (some (.ref x)) ∧ H x = some (exo x C none) ∧ ta σ H fun vs H1 => vs.length ≤ 1000 ∧ H1 x = some (exo x C none) ∧ Q .non H1
theorem ne_supV (S : SupIn X.prog X.K X.mg f cc cda C fd me) (T : OexC X.K C) (hm : PySem.W.ks_superIn X.K C C "__init__" = some (some (.builtin "ValueError.__init__"))) (hsub : PySem.W.mroIn X.K C (.ref C) = some true) (hB : PySem.W.subIn X.K (.ref C) (.type "ValueError") = some true)
    (ha : PA X (e :: es) ta)
    (hi : X.N[i]? = some me := by rfl) (hka : X.env.kindOf me = some .local := by rfl)
    (hks : X.env.kindOf "super" = some .globalImplicit := by rfl) (hkc : X.env.kindOf "__class__" = some .free := by rfl) (hfu : X.env.func = some f := by rfl) (hco : X.env.code = .ref cda := by rfl) (hcl : X.env.cells.lookup ("__class__" : Str) = some cc := by rfl)
    (hst : starEach (e :: es) X.env = (false, eval e X.env) :: starEach es X.env := by rfl) (hpl : (backTo pos (starEach es X.env)).any (·.1) = false := by rfl)
    (ht : eval (.Call (.Attribute (.Call (.Name "super" p0) [] [] p1) "__init__" apos) (e :: es) [] pos) X.env = (do
      let ov ← attributeBase (.Call (.Name "super" p0) [] [] p1) "__init__" X.env (eval (.Call (.Name "super" p0) [] [] p1) X.env)
      standAt apos.atName
      let (f, first) ← holding [ov] (getMethod ov "__init__" pl)
      callWith pos f first (backTo pos (starEach (e :: es) X.env)) []) := by rfl) :
    NE X body (.Call (.Attribute (.Call (.Name "super" p0) [] [] p1) "__init__" apos) (e :: es) [] pos) (tSupV C i ta) := by
  refine ⟨fun pins s σ H Q I h => ?_⟩
  obtain ⟨x, hσ, hx, q⟩ := h
  obtain ⟨t1, hox⟩ := exo_at I.hok hx
  refine PySem.ks_wpAt_MethodCall (pl := pl) (super_base S I hox rfl (fun c z => by cases z) hsub hi hσ hka hks hkc hfu hco hcl (by decide) (fun so h' hso J k => ?_)) ht
  have KX := J.kIn
  have hox' := k _ _ hox
  have IA : PySem.W.InstAt h' x { cls := .ref C, dict := none, data := .fields #[.ref t1, .none, .none, .none, .bool false, .none] } C none := ⟨hox', rfl, rfl, trivial⟩
  cases hc : PySem.W.clsIn X.K C with
  | none => unfold PySem.W.ks_superIn at hm; rw [hc] at hm; cases hm
  | some cd =>
    unfold PySem.W.ks_superIn at hm
    rw [hc] at hm
    obtain ⟨hh, g, d, t, os⟩ := s
    refine PySem.W.kxs_getMethod PySem.W.kxs_ValueError hso (PySem.W.looks_opaque KX S.any) (l₀ := cd.mro) (fun A Q E s k q => wpAny_bind ((PySem.W.looks_clsIn KX hc) A _ E s k (wpAny_pure q))) rfl KX hm (IA.type.andThen (PySem.W.looks_subIn KX hB)) (PySem.W.ks_ne KX IA hc) (by decide) ?_
    have J2 := pin_newA (t' := t + 1) J (fun b u z => Heap.get?_push_of_some (PySem.W.kxs_mw "ValueError.__init__" x) z) (Nat.le_refl _) (Heap.get?_push_at rfl rfl) (fun v z => by cases z)
    rw [hst]
    refine PySem.W.kxs_callWith (i := "ValueError.__init__") (x := x) (by show (false || (backTo pos (starEach es X.env)).any (·.1)) = false; rw [hpl]; rfl) ?_
    have ha' := fun pins s H Q I q => ha.run pos pins s σ H Q I q
    rw [hst] at ha'
    refine PySem.Calls.evalArgs_plain (thn (ha' _ _ H _ J2 q) fun us s3 ⟨vs, H1, I3, rv, hl, hx1, q1⟩ => ⟨ClX.pin_at I3, ?_⟩)
    have I4 := ClX.unpin (ClX.unpin I3)
    obtain ⟨t2, hox2⟩ := exo_at I4.hok hx1
    obtain ⟨nm, qn, N, bs, bm, sn, sub, ab, col, dd, k0, k1, k2, k3, k5, hC, hbm⟩ := T.cls
    have hmw := ClX.pin_at I3
    obtain ⟨hp, g3, d3, t3, os3⟩ := s3
    refine call_mwVE (I4.kIn _ _ hC) hox2 hmw ?_ (fun h5 t5 k5 hx5 => ?_)
    · have := rv.length
      show us.length ≤ sizeLine
      rw [← this, sizeLine_eq]; omega
    · have J5 := I4.write (t' := t3) (x := x) (e := x) (o := exo x C none) (by rw [hx1]; exact True.intro) (.inl rfl) k5 ⟨_, hx5⟩ (exo_ok hx5)
      have eu : upd H1 x (exo x C none) = H1 := by
        funext b
        by_cases hb : b = x
        · rw [hb, upd_same, hx1]
        · rw [upd_ne hb]
      rw [eu] at J5
      exact ⟨.non, H1, J5, rfl, q1⟩
end
end LR
set_option Elab.async false
set_option maxRecDepth 100000
set_option linter.all false
set_option maxHeartbeats 4000000
namespace LR
open PySem PySem.Spec PyProof.Rows L2
/-! ## isinstance of an error that a suite holds -/
/-- the error's own dict (if it has one) is known -/
def DictKnown (H : Hp) : Option Addr → Prop
  | none => True
  | some dd => ∃ fs, H dd = some (.xd fs)
structure ErrC (K : PySem.W.Frag) (C : Addr) : Prop where
  cl : (PySem.W.clsIn K C).isSome = true
  ga : PySem.W.findIn K (.ref C) "__getattribute__" = some (some (.builtin "BaseException.__getattribute__"))
  gg : PySem.W.findIn K (.ref C) "__getattr__" = some none
  sb : PySem.W.subIn K (.ref C) (.type "BaseException") = some true
  ac : PySem.W.findIn K (.ref C) "__class__" = some (some (.builtin "object.__class__"))
  mo : PySem.W.mroIn K C (.type "object") = some true
  hd : PySem.W.hasDictIn K C = true
/-- .. and of the built-in object -/
structure ObjC (K : PySem.W.Frag) : Prop where
  gt : PySem.W.specialIn K (.builtin "object.__class__") "__get__" = some (some (.builtin "getset_descriptor.__get__"))
  tk : PySem.W.takesIn K (.builtin "object.__class__") = some true
def rIsX (K : PySem.W.Frag) (cls : Value) (a : Addr) (d : Option Addr) : List V → Hp → VK → Prop := fun xs H Q => ∃ C : Addr, cls = .ref C ∧ ErrC K C ∧ DictKnown H d ∧
  ((∃ (c : V) (cv : Value) (b : Bool), xs = [.ref a, c] ∧ ClsV c cv ∧ PySem.W.kitOne K (.ref C) cv = some b ∧ Q (.bl b) H) ∨
    ∃ (tp : Addr) (cs : List V) (us : List Value) (b : Bool), xs = [.ref a, .ref tp] ∧ H tp = some (.tup cs) ∧ Paired ClsV cs us ∧ PySem.W.kitAny K (.ref C) us = some b ∧ Q (.bl b) H)
theorem call_isX {X : Cx} {a : Addr} {cls : Value} {d : Option Addr} {oe : Obj} {pn : List (Addr × Obj)} (O : ObjC X.K) (hz : Zc cls d oe) (hf : ∃ vs, oe.data = .fields vs) :
    CallR (X.suite a ((a, oe) :: pn)) (.builtin "isinstance") (rIsX X.K cls a d) := by
  intro pins s σ H xs us Q I r h
  obtain ⟨C, rfl, E, hd, h⟩ := h
  obtain ⟨hget, _⟩ := I.pin (a, oe) (List.mem_append.mpr (.inl List.mem_cons_self))
  obtain ⟨fv, hfv⟩ := hf
  have nc : PySem.W.notCls oe = true := by unfold PySem.W.notCls; rw [hfv] <;> rfl
  have J : ∃ od, PySem.W.InstAt s.heap a oe C od := by
    cases d with
    | none => exact ⟨none, hget, hz.1, nc, by rw [hz.2]; trivial⟩
    | some dd =>
      obtain ⟨fs, hdd⟩ := hd
      obtain ⟨mA, hns, _⟩ := (show ObjOk X.prog X.w H s.heap dd (.xd fs) from I.hok dd _ hdd)
      obtain ⟨od, ho, _⟩ := lookIn_ns hns
      exact ⟨some od, hget, hz.1, nc, by rw [hz.2]; exact ho⟩
  obtain ⟨od, J⟩ := J
  have Z := PySem.W.kitx_exc (x := a) (ox := oe) (od := od) E.cl E.ga E.gg E.sb E.ac O.gt O.tk E.mo
  rcases h with ⟨c, cv, b, rfl, kc, e, q⟩ | ⟨tp, cs, ws, b, rfl, hT, kc, e, q⟩
  · cases r with
    | cons rx rr =>
      cases rr with
      | cons rt rn =>
        cases rn
        cases rx
        have ec := kc.eq rt
        subst ec
        exact PySem.W.kia_one Z I.kIn J e (fun z => nomatch z) fun tk => ⟨.bl b, H, I.tok tk, rfl, q⟩
  · cases r with
    | cons rx rr =>
      cases rr with
      | cons rt rn =>
        cases rn
        cases rx
        cases rt
        obtain ⟨_, its, rv, o, h1, h2, n, h3⟩ := (show ObjOk X.prog X.w H s.heap tp (.tup cs) from I.hok tp _ hT)
        have e3 := ClsV.all kc rv
        subst e3
        obtain ⟨oc, od', dt, sl⟩ := o
        simp only at h2 h3
        subst h2 h3
        exact PySem.W.kia_tup Z I.kIn J h1 e (fun z => nomatch z) fun tk => ⟨.bl b, H, I.tok tk, rfl, q⟩
theorem b_ValueError : bootBuiltins "ValueError" = some (.type "ValueError") := by decide +kernel
/-! ## try with several clauses, each with a name or without -/
abbrev Clause := Value × Option Nat × (Addr → Value → Option Addr → TS)
/-- a suite that holds the error in slot i leaves the slot empty -/
def emptied (i : Nat) (D : Ends) : Ends := { nx := fun σ H => D.nx (σ.set i none) H, rt := D.rt, bk := fun σ H => D.bk (σ.set i none) H, ct := fun σ H => D.ct (σ.set i none) H }
def wCl (K : PySem.W.Frag) (Wout : WX) (D : Ends) : List Clause → WX
  | [] => Wout
  | (c, none, ts) :: r => fun cls d σ H => ∃ b, PySem.W.exmOne K cls c = some b ∧ (b = true → ∀ a, H a = none → ts a cls d D σ H) ∧ (b = false → wCl K Wout D r cls d σ H)
  | (c, some i, ts) :: r => fun cls d σ H => ∃ b, PySem.W.exmOne K cls c = some b ∧ (b = true → ∀ a, H a = none → ts a cls d (emptied i D) (σ.set i (some (.ref a))) H) ∧ (b = false → wCl K Wout D r cls d σ H)
def SuiteOk (X : Cx) (body : List Stmt) (ts : Addr → Value → Option Addr → TS) : Prop :=
  ∀ (a : Addr) (oe : Obj) (cls : Value) (d : Option Addr) (pn : List (Addr × Obj)), Zc cls d oe → (∃ vs, oe.data = .fields vs) → PSs (X.suite a ((a, oe) :: pn)) body (ts a cls d)
inductive ClOk (X : Cx) : List ExceptHandler → List Clause → Prop
  | nil : ClOk X [] []
  | bare {x : Str} {c : Value} {ts} {b₀ : Stmt} {suite : List Stmt} {np pos' : Pos} {hds l} (hc : Names X x c) (hsu : SuiteOk X (b₀ :: suite) ts) (r : ClOk X hds l) :
      ClOk X (.ExceptHandler (some (.Name x np)) none (b₀ :: suite) pos' :: hds) ((c, none, ts) :: l)
  | held {x n : Str} {i : Nat} {c : Value} {ts} {b₀ : Stmt} {suite : List Stmt} {np pos' : Pos} {hds l} (hi : X.N[i]? = some n) (hln : X.env.kindOf n = some .local) (hc : Names X x c) (hsu : SuiteOk X (b₀ :: suite) ts) (r : ClOk X hds l) :
      ClOk X (.ExceptHandler (some (.Name x np)) (some n) (b₀ :: suite) pos' :: hds) ((c, some i, ts) :: l)
section
variable {X : Cx} {body : List Stmt} {h₀ : ExceptHandler} {hds : List ExceptHandler} {l : List Clause} {pos : Pos} {tb : WX → TS} {Wout : WX}
theorem ps_try_any (hs : X.stack = X.env :: X.outer) (hf : X.env.frame = some X.env.locals) (hN : X.N.Nodup) (tk : Takes X Wout)
    (hb : ∀ (W : WX) (pn : List (Addr × Obj)) (xe : Value → Shared → Prop), Takes (X.tr pn xe) W → PassesOwn (model X.prog X.w) X.A X.env xe → PSs (X.tr pn xe) body (tb W))
    (hh : ClOk X (h₀ :: hds) l) : PS X (.Try body (h₀ :: hds) [] [] pos) (fun D σ H => tb (wCl X.K Wout D l) D σ H) := by
  refine ⟨fun pins s σ H D I h => ?_⟩
  have ok := I.ok
  have fr1 : X.A.frames = some (X.env :: X.outer) := ok.frames.trans (congrArg some hs)
  refine wpAny_Try_except ?_
  -- what the body's error meets: the frame's note, then the clauses
  let meets : Value → Shared → Prop := fun e s₁ => wpAny (model X.prog X.w) X.A (noteFrame e X.env) (fun _ s₂ => wpAny (model X.prog X.w) X.A (setFlight e none) (fun _ s₃ => wpAny (model X.prog X.w) X.A (handleBy e X.env (h₀ :: hds)) (SP X pins D) X.xe s₃) X.xe s₂) X.xe s₁
  have caught : ∀ u s', XE (X.tr (X.pn ++ pins) meets) (wCl X.K Wout D l) u s' → meets u s' := by
    intro u s' xx
    obtain ⟨a, B, sI, pins', σ', H', cls, d, rfl, J', nb, up, sky, na, os, ag, w⟩ := xx
    have J : Inv X pins σ' H' sI := J'.ofTry ok
    refine Sky.land Zc.steady fr1 hf (L := X.env.locals) (by rw [← hs]; exact sky) fun h3 fl3 up3 => ?_
    have J3 : Inv X pins σ' H' { s' with heap := h3 } := J.landed nb fl3.1 (up.trans up3) os ag
    obtain ⟨oe3, vs3, he3, hz3, hd3⟩ := fl3.there
    have out : a ∉ frs (X.env :: X.outer) := fun hm => by
      obtain ⟨_, o', e', hnf⟩ := fl3.2.2.1.mem hm
      rw [he3] at e'; cases e'
      exact hnf _ hd3
    have nL : a ≠ X.env.locals := fun z => out (List.mem_filterMap.mpr ⟨X.env, .head _, by rw [hf, z]⟩)
    have nF : a ∉ X.fs := fun hm => by
      obtain ⟨e, he, q⟩ := List.mem_filterMap.mp hm
      exact out (List.mem_filterMap.mpr ⟨e, .tail _ he, q⟩)
    have S3 := J3.suite he3 hd3 na nL nF
    have LT : PySem.W.Looks (model X.prog X.w) h3 (typeOf (.ref a)) cls := fun A Q E s k q => wpAny_typeOf_ref (k _ _ he3) (by rw [hz3.1]; exact q)
    have test : ∀ {x : Str} {np : Pos} {c : Value} {Q : Value → Shared → Prop} {E : Value → Shared → Prop}, Names X x c → Q c { s' with heap := h3 } → wpAny (model X.prog X.w) (X.A.mark (some (.ref a))) (eval (.Name x np) X.env) Q E { s' with heap := h3 } := by
      intro x np c Q E hc q
      obtain ⟨hg, hdbg, hm | ⟨hm, hv, hnn⟩⟩ := hc
      · exact ld_glob (X := X.suite a ((a, oe3) :: (X.pn ++ pins))) S3 hg hm q hdbg
      · exact ld_blt (X := X.suite a ((a, oe3) :: (X.pn ++ pins))) S3 hg hm hv q hnn hdbg
    -- the clauses one after the other
    have go : ∀ (hs1 : List ExceptHandler) (l1 : List Clause), ClOk X hs1 l1 → wCl X.K Wout D l1 cls d σ' H' → wpAny (model X.prog X.w) X.A (handleBy (.ref a) X.env hs1) (SP X pins D) X.xe { s' with heap := h3 } := by
      intro hs1 l1 hk
      induction hk with
      | nil =>
        intro w
        refine wpAny_handleBy_nil ?_
        have again := fl3
        obtain ⟨_, _, _, oe, fvs, T, oT, ts', he, hz, hd, h1, hr⟩ := again
        unfold PySem.passOn
        refine wpAny_bind (wpAny_field he hd h1 ?_)
        rw [if_neg (show ¬ ((Value.ref T == Value.none) = true) from by simp)]
        have onward : wpAny (model X.prog X.w) X.A (setFlight (.ref a) X.env.frame) (fun _ s4 => wpAny (model X.prog X.w) X.A (throw (.ref a) : Sem Flow) (SP X pins D) X.xe s4) X.xe { s' with heap := h3 } := by
          rw [hf]
          exact HandSPX.setFlight_upZ fl3 fun h4 hh4 up4 => wpAny_throw (tk _ _ ⟨a, B, sI, pins, σ', H', cls, d, rfl, J, nb, (up.trans up3).trans up4, .inr (.inr (by rw [hs]; exact hh4)), na, os, ag, w⟩)
        first
          | exact wpAny_bind (wpAny_pure (wpAny_bind onward))
          | exact wpAny_bind onward
      | bare hc hsu r ih =>
        rintro ⟨b, hb1, yes, no⟩
        refine wpAny_handleBy_cons (codeAny_handlers_test ?_) (by intro q; cases q)
        refine test hc ((PySem.W.exm_one (M := model X.prog X.w) J3.kIn LT hb1).here ?_)
        cases b with
        | false => exact ih (no rfl)
        | true =>
          refine codeAny_handlers_suite (HandSPX.lands_againZ fl3 fun h4 fl4 up4 => ?_)
          obtain ⟨oe4, vs4, he4, hz4, hd4⟩ := fl4.there
          have S4 := (show Inv X pins σ' H' { s' with heap := h4 } from J.landed nb fl4.1 ((up.trans up3).trans up4) os ag).suite he4 hd4 na nL nF
          refine wpAny_mono ((hsu a oe4 cls d (X.pn ++ pins) hz4 ⟨_, hd4⟩).run [] _ _ H' _ S4 (yes rfl a na)) (fun f s6 hsp => ?_) (fun _ _ z => False.elim z)
          cases f with
          | ret u => obtain ⟨v6, σ6, H6, S6, r6, q6⟩ := hsp; exact ⟨_, _, _, S6.unsuite ok, r6, q6⟩
          | next => obtain ⟨σ6, H6, S6, q6⟩ := hsp; exact ⟨_, _, S6.unsuite ok, q6⟩
          | brk => obtain ⟨σ6, H6, S6, q6⟩ := hsp; exact ⟨_, _, S6.unsuite ok, q6⟩
          | cont => obtain ⟨σ6, H6, S6, q6⟩ := hsp; exact ⟨_, _, S6.unsuite ok, q6⟩
      | @held _ n i _ _ _ _ _ _ _ _ hi hln hc hsu r ih =>
        rintro ⟨b, hb1, yes, no⟩
        refine wpAny_handleBy_cons (codeAny_handlers_test ?_) (by intro q; cases q)
        refine test hc ((PySem.W.exm_one (M := model X.prog X.w) J3.kIn LT hb1).here ?_)
        cases b with
        | false => exact ih (no rfl)
        | true =>
          refine codeAny_handlers_suite_as (HandSPX.lands_againZ fl3 fun h4 fl4 up4 => ?_)
          obtain ⟨oe4, vs4, he4, hz4, hd4⟩ := fl4.there
          have S4 := (show Inv X pins σ' H' { s' with heap := h4 } from J.landed nb fl4.1 ((up.trans up3).trans up4) os ag).suite he4 hd4 na nL nF
          refine store_ok (X := X.suite a ((a, oe4) :: (X.pn ++ pins))) (v := .ref a) S4 hN hi (.inl hln) rfl (fun s5 S5 => ?_) (.inr hln)
          refine wpAny_mono ((hsu a oe4 cls d (X.pn ++ pins) hz4 ⟨_, hd4⟩).run [] s5 _ H' _ S5 (yes rfl a na)) (fun f s6 hsp => ?_) (fun _ _ z => False.elim z)
          have leave : ∀ {σ6 : L2.St} {H6 : Hp} {Q : Shared → Prop} {p : Pos}, Inv (X.suite a ((a, oe4) :: (X.pn ++ pins))) [] σ6 H6 s6 → (∀ s7, Inv X pins (σ6.set i none) H6 s7 → Q s7) →
              wpAny (model X.prog X.w) X.A (do bindName X.env n .none; unbindBehindTheSuite X.env n p) (fun _ s7 => Q s7) X.xe s6 := fun S6 hq => gone_ok (S6.unsuite ok) hN hi hln hq
          cases f with
          | ret u => obtain ⟨v6, σ6, H6, S6, r6, q6⟩ := hsp; exact leave S6 fun s7 J7 => ⟨_, _, _, J7, r6, q6⟩
          | next => obtain ⟨σ6, H6, S6, q6⟩ := hsp; exact leave S6 fun s7 J7 => ⟨_, _, J7, q6⟩
          | brk => obtain ⟨σ6, H6, S6, q6⟩ := hsp; exact leave S6 fun s7 J7 => ⟨_, _, J7, q6⟩
          | cont => obtain ⟨σ6, H6, S6, q6⟩ := hsp; exact leave S6 fun s7 J7 => ⟨_, _, J7, q6⟩
    exact go _ _ hh w
  refine wpAny_mono ((hb (wCl X.K Wout D l) (X.pn ++ pins) meets caught PassesOwn.looking).run [] s σ H D (I.toTry _) h) (fun f s1 hsp => ?_) (fun e s1 he => he)
  cases f with
  | next => obtain ⟨σ', H', J', q⟩ := hsp; exact wpAny_execs_nil ⟨σ', H', J'.ofTry ok, q⟩
  | brk => obtain ⟨σ', H', J', q⟩ := hsp; exact ⟨σ', H', J'.ofTry ok, q⟩
  | cont => obtain ⟨σ', H', J', q⟩ := hsp; exact ⟨σ', H', J'.ofTry ok, q⟩
  | ret u => obtain ⟨v, σ', H', J', r, q⟩ := hsp; exact ⟨v, σ', H', J'.ofTry ok, r, q⟩
end
end LR
set_option Elab.async false
set_option maxRecDepth 100000
set_option linter.all false
set_option maxHeartbeats 4000000
namespace LR
open PySem PySem.Spec PyProof.Rows L2
/-! ## f-strings of which nothing is told -/
section
variable {σ : L2.St} {H : Hp} {ts : List TE} {acc a : Str} {n i : Nat} {v : Int} {Q : Str → Hp → Prop}
theorem js_c (hn : n ≤ 100000) (hacc : acc.length ≤ n) (ha : a.length ≤ 1000) (k : ∀ acc' : Str, acc'.length ≤ n + 1000 → tJs ts acc' σ H Q) : tJs (tC (.str a) :: ts) acc σ H Q := by
  have hl : (acc ++ a).length ≤ n + 1000 := by rw [Str.length_append]; omega
  exact ⟨a, rfl, Nat.le_trans hl (by rw [sizeLine_eq]; omega), k _ hl⟩
theorem js_v {te : TE} (hn : n ≤ 100000) (hacc : acc.length ≤ n) (hv : v.natAbs.log2 < 1920) (he : ∀ Q : VK, Q (.int v) H → te σ H Q) (k : ∀ acc' : Str, acc'.length ≤ n + 1921 → tJs ts acc' σ H Q) : tJs (tFmt te :: ts) acc σ H Q := by
  have hy := PyProof.Rows.int_text_len_1921 hv
  have hl : (acc ++ Str.ofString (toString v)).length ≤ n + 1921 := by rw [Str.length_append]; omega
  refine he _ (.inr ⟨v, rfl, hv, Str.ofString (toString v), rfl, Nat.le_trans hl (by rw [sizeLine_eq]; omega), k _ hl⟩)
end
theorem log_small {v : Int} (h : v.natAbs < 2 ^ 1900) : v.natAbs.log2 < 1920 := by
  by_cases c : v.natAbs = 0
  · rw [c]; decide
  · exact Nat.lt_of_lt_of_le ((Nat.log2_lt c).mpr h) (by decide)
/-! ## an error class of the program with one field, made by its own __init__ -/
structure ErrIn (prog : Program) (K : PySem.W.Frag) (mg : Str → Option Value) (x : Str) (C : Addr) (qual : Str) (st : Stmt) (fld : Str) : Prop where
  gC : mg x = some (.ref C)
  T : OexC K C
  E : ErrC K C
  X : XfC K C
  no : PySem.W.findIn K (.ref C) fld = some none
  ini : ∃ (f cc cda : Addr) (fd : FuncData), PySem.W.findIn K (.ref C) "__init__" = some (some (.ref f)) ∧ PySem.W.typeIn K (.ref f) = some (.type "function") ∧ SupIn prog K mg f cc cda C fd "self" ∧ Binds K fd ["self", fld] [] ∧
    ∃ (oc : Value) (od an : Option Addr) (kV doc pm ct : Value) (osl : Array (Option Value)), fd = PySem.W.ksFn "__init__" qual (defArgs st) (defBody st) (defScope st) .none kV doc pm an (.ref cda) ct cc ∧ K.lookup f = some ⟨oc, od, .func fd, osl⟩ ∧ PySem.W.codeIn K (.ref cda) qual = true
  sm : PySem.W.ks_superIn K C C "__init__" = some (some (.builtin "ValueError.__init__"))
  mr : PySem.W.mroIn K C (.ref C) = some true
  sv : PySem.W.subIn K (.ref C) (.type "ValueError") = some true
/-- what its __init__ does -/
def spErr (C : Addr) (fld : Str) : Sp := fun vs H Q _ => ∃ (a : Addr) (v : Int), vs = [.ref a, .int v] ∧ H a = some (exo a C none) ∧ v.natAbs < 2 ^ 1900 ∧ ∀ dx, H dx = none → dx ≠ a → Q .non (upd (upd H dx (exd dx [(fld, .int v)])) a (exo a C (some dx)))
/-- such a class, ready to be raised -/
structure ErrOk (P : Program) (w : World) (K : PySem.W.Frag) (mg : Str → Option Value) (base : Heap) (x : Str) (C : Addr) (fld : Str) : Prop where
  gC : mg x = some (.ref C)
  T : OexC K C
  fn : ∃ (f : Addr) (fd : FuncData), PySem.W.findIn K (.ref C) "__init__" = some (some (.ref f)) ∧ PySem.W.typeIn K (.ref f) = some (.type "function") ∧ FnOk P w K mg base CX0 1 f fd ["self", fld] (spErr C fld) ∧ Binds K fd ["self", fld] []
section
variable {P : Program} {w : World} {K : PySem.W.Frag} {mg : Str → Option Value} {base : Heap}
theorem ErrIn.ok {x qual : Str} {C : Addr} {st : Stmt} {fld : Str} {N : List Str} (D : ErrIn P K mg x C qual st fld) (S : CScope N ["self", fld] (defScope st))
    (hbody : ∀ (f cc cda : Addr) (fd : FuncData) (A : Around) (outer : List Env) (s : Shared) (H : Hp) (vs : List V) (Q : VK) (E : XK), SupIn P K mg f cc cda C fd "self" → Room 0 (A.deeper (PySem.W.ksEnv qual (defScope st) s.heap.objs.size f (.ref cda) cc)) → spErr C fld vs H Q E →
      ∃ t, NSs (cxC CX0 P w K mg base N qual (defScope st) f (.ref cda) cc A outer s H E) (defBody st) (defBody st) t ∧ t { nx := fun _ H' => Q .non H', rt := Q } (L2.start N vs) H) : ErrOk P w K mg base x C fld := by
  obtain ⟨f, cc, cda, fd, i1, i2, S1, b, oc, od, an, kV, doc, pm, ct, osl, rfl, lk, hcd⟩ := D.ini
  obtain ⟨cl, cld, csl, hcell⟩ := S1.cell
  refine ⟨D.gC, D.T, f, _, i1, i2, fn_ofC lk hcell hcd S (fun vs H Q E h => ?_) (fun A outer s H vs Q E hr h => hbody f cc cda _ A outer s H vs Q E S1 hr h), b⟩
  obtain ⟨a, v, rfl, _⟩ := h; rfl
end
section
variable {X : Cx} {C : Addr} {x fld : Str} {e : Expr} {es : List Expr} {p pos pos2 : Pos} {ta : TA} {k : Nat}
/-- C(v): the error is made, its dict d holds the field -/
def tMkE (C : Addr) (fld : Str) (ta : TA) : L2.St → Hp → XK → Prop := tMkO C (spErr C fld) [] ta
theorem pmk_err (D : ErrOk X.prog X.w X.K X.mg X.base x C fld) (hr : Room k X.A) (hk : 2 ≤ k) (ha : PA X (e :: es) ta) (hg : Gl X x) (hdb : (x == ("__debug__" : Str)) = false := by decide)
    (he : starEach (e :: es) X.env = (false, eval e X.env) :: starEach es X.env := by rfl) (hpl : (backTo pos (starEach es X.env)).any (·.1) = false := by rfl) : PMk X (.Call (.Name x p) (e :: es) [] pos) (tMkE C fld ta) := by
  obtain ⟨f, fd, i1, i2, F, b⟩ := D.fn
  exact pmk_oex D.T i1 i2 F (hr.mono hk) b .nil pass0 hg D.gC ha hdb he hpl
/-- what a made error asks -/
theorem mkE {C : Addr} {fld : Str} {v : Int} {H : Hp} {Q : XK} (hv : v.natAbs < 2 ^ 1900) (h : ∀ d, H d = none → Q (.ref C) (some d) (upd H d (.xd [(fld, .int v)]))) :
    ([V.int v] : List V).length ≤ 1000 ∧ ∀ a, H a = none → spErr C fld (.ref a :: ([V.int v] ++ [])) (upd H a (exo a C none))
      (fun v' H2 => v' = .non ∧ ∃ (d : Addr) (fs : List (Str × V)), H2 a = some (exo a C (some d)) ∧ H2 d = some (exd d fs) ∧ H d = none ∧ Q (.ref C) (some d) (upd (L2.del H2 a) d (.xd fs))) (fun _ _ _ => False) := by
  refine ⟨by show 1 ≤ 1000; decide, fun a ha => ⟨a, v, rfl, upd_same, hv, fun dx h1 h2 => ⟨rfl, dx, [(fld, .int v)], upd_same, ?_, ?_, ?_⟩⟩⟩
  · rw [upd_ne h2, upd_same]
  · rw [upd_ne h2] at h1; exact h1
  · have hd : H dx = none := by rw [upd_ne h2] at h1; exact h1
    have e : upd (L2.del (upd (upd (upd H a (exo a C none)) dx (exd dx [(fld, .int v)])) a (exo a C (some dx))) a) dx (.xd [(fld, .int v)]) = upd H dx (.xd [(fld, .int v)]) := by
      funext b
      by_cases c1 : b = dx
      · rw [c1, upd_same, upd_same]
      · rw [upd_ne c1, upd_ne c1]
        by_cases c2 : b = a
        · rw [c2, del_same, ha]
        · rw [del_ne c2, upd_ne c2, upd_ne c1, upd_ne c2]
    rw [e]
    exact h dx hd
end
end LR
set_option Elab.async false
set_option maxRecDepth 100000
set_option linter.all false
set_option maxHeartbeats 4000000
namespace LR
open PySem PySem.Spec PyProof.Rows L2
/-! ## defs, methods, classes whose calls may raise -/
structure CalX (P : Program) (w : World) (K : PySem.W.Frag) (mg : Str → Option Value) (base : Heap) (k : Nat) (x : Str) (sp : Sp) : Prop where
  ex : ∃ (f : Addr) (fd : FuncData) (ps : List Str), FnOk P w K mg base (L2.CX P w) k f fd ps sp ∧ mg x = some (.ref f) ∧ PySem.W.keepIn K (.ref f) = true ∧ Binds K fd ps []
structure MetX (P : Program) (w : World) (K : PySem.W.Frag) (mg : Str → Option Value) (base : Heap) (k : Nat) (C : Addr) (m : Str) (sp : Sp) : Prop where
  ex : ∃ (f : Addr) (fd : FuncData) (ps : List Str), Cls K C ∧ Meth K C m f ∧ FnOk P w K mg base (L2.CX P w) k f fd ps sp ∧ Binds K fd ps []
structure MakX (P : Program) (w : World) (K : PySem.W.Frag) (mg : Str → Option Value) (base : Heap) (k : Nat) (x : Str) (C : Addr) (sp : Sp) : Prop where
  ex : ∃ (f : Addr) (fd : FuncData) (ps : List Str), Mk K C f ∧ FnOk P w K mg base (L2.CX P w) k f fd ps sp ∧ mg x = some (.ref C) ∧ Binds K fd ps []
def tCallT (sp : Sp) (W : WX) (t : TA) : TE := fun σ H Q => t σ H fun vs H1 => sp vs H1 Q (WE W σ)
def tMakeT (C : Addr) (sp : Sp) (W : WX) (t : TA) : TE := fun σ H Q => t σ H fun vs H1 => ∀ x dx, H1 x = none → H1 dx = none → dx ≠ x → sp (.ref x :: vs) (upd (upd H1 dx (.own x)) x (.ins C dx [])) (fun v H2 => v = .non ∧ Q (.ref x) H2) (WE W σ)
section
variable {X : Cx} {k j : Nat} {C : Addr} {x m : Str} {sp : Sp} {W : WX} {p pos apos : Pos} {e o : Expr} {es : List Expr} {ta : TE} {t : TA}
theorem pe_cT (c : CalX X.prog X.w X.K X.mg X.base k x sp) (hr : Room j X.A) (hk : k ≤ j) (tk : Takes X W) (hg : Gl X x) (ha : PA X (e :: es) t)
    (hdb : (x == ("__debug__" : Str)) = false := by decide) (he : starEach (e :: es) X.env = (false, eval e X.env) :: starEach es X.env := by rfl) (hpl : (backTo pos (starEach es X.env)).any (·.1) = false := by rfl) :
    PE X (.Call (.Name x p) (e :: es) [] pos) (tCallT sp W t) := by
  obtain ⟨f, fd, ps, F, hm, kp, b⟩ := c.ex
  exact pe_callS F (hr.mono hk) hg hm kp b (passAt tk) ha hdb he hpl
theorem run_mkT {pins : List (Addr × Obj)} {σ : L2.St} {H : Hp} {s : Shared} {Q : VK} {us : List Value} {vs : List V} {f : Addr} {fd : FuncData} {ps : List Str} (M : Mk X.K C f) (F : FnOk X.prog X.w X.K X.mg X.base (L2.CX X.prog X.w) k f fd ps sp) (hr : Room (k + 1) X.A) (b : Binds X.K fd ps []) (tk : Takes X W)
    (I : Inv X pins σ H s) (r : Vals vs us)
    (h : ∀ x dx, H x = none → H dx = none → dx ≠ x → sp (.ref x :: vs) (upd (upd H dx (.own x)) x (.ins C dx [])) (fun v H2 => v = .non ∧ Q (.ref x) H2) (WE W σ)) :
    wpAny (model X.prog X.w) X.A (call (.ref C) us) (EP X pins σ Q) X.xe s := by
  have hq := h (s.heap.objs.size + 1) s.heap.objs.size (I.hok.fresh (Nat.le_succ _)) (I.hok.fresh (Nat.le_refl _)) (Nat.ne_of_lt (Nat.lt_succ_self _))
  have J := Inv.made (C := C) I
  have r2 : Vals (V.ref (s.heap.objs.size + 1) :: vs) (Value.ref (s.heap.objs.size + 1) :: us) := .cons rfl r
  have hl := r2.length.symm.trans (F.len _ _ _ _ hq)
  have bb := b _ _ J.kIn (by rw [List.append_nil]; exact hl)
  rw [List.append_nil] at bb
  refine wpAny_call (make_map (f := f) I.kIn M.makes M.init (beq_iff_eq.mp M.fn) (codeAny_mono (F.run _ X.stack _ _ _ _ _ _ (WE W σ) (hr.make C us []) (J.env0.make C us []) bb r2 hq) fun rr s' hq' => ?_))
  cases rr with
  | error e => exact passAt tk σ pins _ _ e s' J hq'
  | ok fl =>
    cases fl with
    | ret u =>
      obtain ⟨v, H', I3, rv, ev, q3⟩ := J.after hq'
      subst ev
      exact ⟨rv, V.ref (s.heap.objs.size + 1), H', I3, rfl, q3⟩
    | next => exact hq'.elim
    | brk => exact hq'.elim
    | cont => exact hq'.elim
theorem pe_mkT (c : MakX X.prog X.w X.K X.mg X.base k x C sp) (hr : Room j X.A) (hk : k + 1 ≤ j) (tk : Takes X W) (hg : Gl X x) (ha : PA X (e :: es) t)
    (hdb : (x == ("__debug__" : Str)) = false := by decide) (he : starEach (e :: es) X.env = (false, eval e X.env) :: starEach es X.env := by rfl) (hpl : (backTo pos (starEach es X.env)).any (·.1) = false := by rfl) :
    PE X (.Call (.Name x p) (e :: es) [] pos) (tMakeT C sp W t) := by
  obtain ⟨f, fd, ps, M, F, hm, b⟩ := c.ex
  refine ⟨fun pins s σ H Q I h => wpAny_Call_Name_kw (ld_glob I hg hm ?_ hdb)⟩
  refine PySem.W.callWith_K (h₀ := X.base) I.ok.mod.kin M.kp (thn (ha.run pos pins s σ H _ I h) fun us s1 hh => ?_) he hpl
  obtain ⟨vs, H1, I1, r, q⟩ := hh
  exact ⟨I1.kIn, run_mkT M F (hr.mono hk) b tk I1 r q⟩
end
section
variable {P : Program} {w : World} {K : PySem.W.Frag} {mg : Str → Option Value} {base : Heap}
theorem DefIn.calX {x : Str} {st : Stmt} {N ps : List Str} {k : Nat} {sp : Sp} (D : DefIn K mg x st ps) (S : FnScope N ps (defScope st)) (len : ∀ vs H Q E, sp vs H Q E → vs.length = ps.length)
    (hbody : ∀ (f : Addr) (cdv : Value) (A : Around) (outer : List Env) (s : Shared) (H : Hp) (vs : List V) (Q : VK) (E : XK), Room k (A.deeper (envOfC x (defScope st) s.heap.objs.size f cdv)) → sp vs H Q E →
      ∃ t, PSs (cxOf (L2.CX P w) P w K mg base N x (defScope st) f cdv A outer s H E) (defBody st) t ∧ t { nx := fun _ H' => Q .non H', rt := Q } (L2.start N vs) H) : CalX P w K mg base (k + 1) x sp := by
  obtain ⟨f, fd, F, hm, b⟩ := D.ex
  exact ⟨f, fd, ps, F.okX S len (hbody f), hm, F.kp, b⟩
theorem MetIn.metX {C : Addr} {m qual : Str} {st : Stmt} {N ps : List Str} {k : Nat} {sp : Sp} (c : Cls K C) (D : MetIn K C m qual st ps) (S : FnScope N ps (defScope st)) (len : ∀ vs H Q E, sp vs H Q E → vs.length = ps.length)
    (hbody : ∀ (f : Addr) (cdv : Value) (A : Around) (outer : List Env) (s : Shared) (H : Hp) (vs : List V) (Q : VK) (E : XK), Room k (A.deeper (envOfC qual (defScope st) s.heap.objs.size f cdv)) → sp vs H Q E →
      ∃ t, PSs (cxOf (L2.CX P w) P w K mg base N qual (defScope st) f cdv A outer s H E) (defBody st) t ∧ t { nx := fun _ H' => Q .non H', rt := Q } (L2.start N vs) H) : MetX P w K mg base (k + 1) C m sp := by
  obtain ⟨f, fd, F, hm, b⟩ := D.ex
  exact ⟨f, fd, ps, c, hm, F.okX S len (hbody f), b⟩
theorem MakIn.makX {C : Addr} {x qual : Str} {st : Stmt} {N ps : List Str} {k : Nat} {sp : Sp} (D : MakIn K mg x C qual st ps) (S : FnScope N ps (defScope st)) (len : ∀ vs H Q E, sp vs H Q E → vs.length = ps.length)
    (hbody : ∀ (f : Addr) (cdv : Value) (A : Around) (outer : List Env) (s : Shared) (H : Hp) (vs : List V) (Q : VK) (E : XK), Room k (A.deeper (envOfC qual (defScope st) s.heap.objs.size f cdv)) → sp vs H Q E →
      ∃ t, PSs (cxOf (L2.CX P w) P w K mg base N qual (defScope st) f cdv A outer s H E) (defBody st) t ∧ t { nx := fun _ H' => Q .non H', rt := Q } (L2.start N vs) H) : MakX P w K mg base (k + 1) x C sp := by
  obtain ⟨f, fd, F, M, hm, b⟩ := D.ex
  exact ⟨f, fd, ps, M, F.okX S len (hbody f), hm, b⟩
end
end LR
set_option Elab.async false
set_option maxRecDepth 100000
set_option linter.all false
set_option maxHeartbeats 4000000
namespace LR
open PySem PySem.Spec PyProof.Rows L2
/-! ## enumerate over a tuple -/
set_option maxHeartbeats 1000000 in
theorem meets_enum1 {v : Value} {o : Obj} {H : Heap → Prop} (B : Begins v o H) :
    Meets (Builtin.«enumerate.__new__» ⟨[.type "enumerate", v], []⟩) (fun _ R s => H s.heap ∧
      R (.ok (.ret (.ref (s.heap.push o).objs.size))) { s with heap := (s.heap.push o).push { cls := .type "enumerate", data := .fields #[.none, .bool false, .ref s.heap.objs.size, rawInt 0, .none, .none] } }) :=
  .of_wp fun prog w A R s h => by
    obtain ⟨hp, g, d, tk, os⟩ := s; obtain ⟨h1, h⟩ := h
    have hsub := sub_enumerate
    have q1 : ∀ {A' : Around} {E : Value → Shared → Prop} {Q : Value → Shared → Prop}, Q (.ref hp.objs.size) ⟨hp.push o, g, d, tk, os⟩ → wpAny (model prog w) A' (pyIter v) Q E ⟨hp, g, d, tk, os⟩ :=
      fun q => B.iter prog w _ _ ⟨hp, g, d, tk, os⟩ _ h1 q
    wp_walk using q1
    refine wpAny_stack_any fun st => wpAny_pure ?_
    split
    · rename_i c _ _ _ _ _
      cases (c == Value.type "enumerate")
      · wp_walk using q1
        exact ⟨_, rfl, h⟩
      · wp_walk using q1
        exact ⟨_, rfl, h⟩
    · wp_walk using q1
      exact ⟨_, rfl, h⟩
theorem enum_new1 {prog : Program} {w : World} {A : Around} {E : Value → Shared → Prop} {s : Shared} {v : Value} {o : Obj} {H : Heap → Prop} {Q : Value → Shared → Prop} (B : Begins v o H) (h1 : H s.heap)
    (h : ∀ h', IsEnum h' (s.heap.objs.size + 1) s.heap.objs.size 0 .none → h'.get? s.heap.objs.size = some o → h'.objs.size = s.heap.objs.size + 2 →
      (∀ b o, s.heap.get? b = some o → h'.get? b = some o) → Q (.ref (s.heap.objs.size + 1)) { s with heap := h' }) :
    wpAny (model prog w) A (call (.type "enumerate") [v]) Q E s := by
  refine callType_new F.called_enumerate (by decide) (F.typeCall_enumerate_1 _) (F.newCall_enumerate_1 _) (fun obj => F.args_object_init_2 obj _) F.entry_enumerate_new
    (meets_enum1 B) ⟨h1, ?_⟩
  have hz : (s.heap.push o).objs.size = s.heap.objs.size + 1 := Heap.size_push ..
  show _ ∧ _
  rw [hz]
  have he : IsEnum ((s.heap.push o).push { cls := .type "enumerate", data := .fields #[.none, .bool false, .ref s.heap.objs.size, rawInt 0, .none, .none] }) (s.heap.objs.size + 1) s.heap.objs.size 0 .none := by
    have := Heap.get?_push_size (s.heap.push o) (o := { cls := .type "enumerate", data := .fields #[.none, .bool false, .ref s.heap.objs.size, rawInt 0, .none, .none] }) rfl
    rw [hz] at this; exact this
  refine ⟨⟨_, he, rfl⟩, h _ he (Heap.get?_push_of_some _ (Heap.get?_push_size _ B.free)) (by rw [Heap.size_push, hz]) fun b o x => Heap.get?_push_of_some _ (Heap.get?_push_of_some _ x)⟩
/-- the tuple at a as it stands at each turn, the items in new pairs -/
def IteT (K : PySem.W.Frag) (a : Addr) : It :=
  ⟨fun i H => ∃ (xs : List V) (x : V), SqT K H a xs ∧ xs[i]? = some x, fun i H v H' => ∃ T x, v = .ref T ∧ H T = none ∧ H' = upd H T (.tup [.int (i : Nat), x]) ∧ ∀ xs, SqT K H a xs → xs[i]? = some x, fun i H => ∃ xs : List V, SqT K H a xs ∧ xs.length = i⟩
theorem turn_enumT {P : Program} {w : World} {K : PySem.W.Frag} {elts : List Expr} {kk : Nat} {tpos : Pos} (a e it : Addr) :
    Turn P w K (.Tuple elts kk tpos) (IteT K a) [e, it] e (fun i h => (∃ old, IsEnum h e it ((i : Nat) : Int) old) ∧ h.IsTupleIter it a i ∧ e ≠ it) where
  mem := by simp
  obj := fun i h st b hb => by
    obtain ⟨⟨old, he⟩, ⟨o, ho, hc, hd⟩, _⟩ := st
    have e' : b = e ∨ b = it := by simpa using hb
    rcases e' with z | z
    · rw [z]; exact ⟨_, he, fun v q => nomatch q⟩
    · rw [z]; exact ⟨o, ho, fun v q => by rw [hd] at q; cases q⟩
  keep := fun i h h' st k => let ⟨⟨old, he⟩, hi, hne⟩ := st; ⟨⟨old, k e (by simp) _ he⟩, hi.at fun o q => k it (by simp) o q, hne⟩
  item := by
    intro X hP hw hK hc i pins s σ H E I hf st hg
    subst hP hw hK
    obtain ⟨⟨old, he⟩, hit, hne⟩ := st
    obtain ⟨xs, x, hq, hx⟩ := hg
    obtain ⟨its, rv, p, hz⟩ := I.tuple hq
    obtain ⟨u, hu, ru⟩ := rv.get hx
    have hel : e < s.heap.objs.size := Heap.lt_size he
    have hil : it < s.heap.objs.size := by obtain ⟨_, q, _⟩ := hit; exact Heap.lt_size q
    have hT0 : s.heap.IsTuple a its.toArray := p
    have nea : a ≠ e := fun z => by
      obtain ⟨o, h1, h2, _⟩ := hT0
      rw [z, he] at h1; cases h1; injection h2 with q; exact absurd q (by decide)
    have nia : a ≠ it := fun z => by
      obtain ⟨o, h1, h2, _⟩ := hT0
      obtain ⟨o2, h3, h4, _⟩ := hit
      rw [z, h3] at h1; cases h1; rw [h4] at h2; injection h2 with q; exact absurd q (by decide)
    have D := Draws.tuple (prog := X.prog) (w := X.w) (A := X.A.in1) (I.ok.hd hc) it a nia its.toArray
    have hlt : i < its.toArray.size := by
      have := (List.getElem?_eq_some_iff.mp hu).1
      simpa using this
    refine wpAny_pyNext_enum_itemD D he ⟨hit, hT0⟩ hlt hne (by simp; exact ⟨hne, nea.symm⟩) fun x' h' tk hx' ho hst hT hsz hk => ?_
    have hx' : x' = u := by
      have : its.toArray[i]? = some u := by simpa using hu
      rw [this] at hx'; cases hx'; rfl
    subst hx'
    refine ⟨_, rfl, wpAny_letOwnedTupleGo_enum (s := { s with heap := h', toks := tk + 1 }) ho fun h'' he' sb => ?_⟩
    have hT2 : h''.get? s.heap.objs.size = some { cls := .type "tuple", data := .seq #[.int i tk, x'] } := (sb.2 _ (Nat.ne_of_gt hel)).trans hT
    have new : ObjOk X.prog X.w (upd H s.heap.objs.size (.tup [.int (i : Nat), x])) h'' s.heap.objs.size (.tup [.int (i : Nat), x]) :=
      ⟨by show 2 ≤ sizeLine; decide, [.int i tk, x'], .cons ⟨_, rfl⟩ (.cons ru .nil), ⟨_, hT2, rfl, _, rfl⟩⟩
    have I1 : Inv X pins σ (upd H s.heap.objs.size (.tup [.int (i : Nat), x])) { s with heap := h'', toks := tk + 1 } :=
      I.turnedNew (ch := [e, it]) (fun b ob hb q => (sb.2 b (fun z => hb (by simp [z]))).trans (hk b ob (fun z => hb (by simp [z])) (fun z => hb (by simp [z])) q)) hf (Nat.le_refl _) new
    refine ⟨.ref s.heap.objs.size, _, I1, rfl, ⟨_, x, rfl, I.hok.fresh (Nat.le_refl _), rfl, fun ys hy => by rw [I.tuple_inj hy hq]; exact hx⟩, ⟨⟨x', ?_⟩, hst.1.at fun o q => (sb.2 it (Ne.symm hne)).trans q, hne⟩, fun b hb => ?_⟩
    · have e1 : ((i + 1 : Nat) : Int) = (i : Int) + 1 := by omega
      rw [e1]; exact he'
    · have hb' : b < s.heap.objs.size := by
        have e' : b = e ∨ b = it := by simpa using hb
        rcases e' with z | z
        · rw [z]; exact hel
        · rw [z]; exact hil
      rw [upd_ne (Nat.ne_of_lt hb')]
      exact (hf b hb).1
  done := by
    intro X hP hw hK hc i pins s σ H E I hf st hg
    subst hP hw hK
    obtain ⟨⟨old, he⟩, hit, hne⟩ := st
    obtain ⟨xs, hq, hx⟩ := hg
    obtain ⟨its, rv, p, hz⟩ := I.tuple hq
    obtain ⟨f0, f1, f2, f3, f4, f5⟩ := hf it (by simp)
    have hl := rv.length
    have hT0 : s.heap.IsTuple a its.toArray := p
    have nia : a ≠ it := fun z => by
      obtain ⟨o, h1, h2, _⟩ := hT0
      obtain ⟨o2, h3, h4, _⟩ := hit
      rw [z, h3] at h1; cases h1; rw [h4] at h2; injection h2 with q; exact absurd q (by decide)
    have D := Draws.tuple (prog := X.prog) (w := X.w) (A := X.A.in1) (I.ok.hd hc) it a nia its.toArray
    have hn : its.toArray.size = i := by simp; omega
    exact wpAny_pyNext_enum_endD D he (by rw [hn]; exact ⟨hit, hT0⟩) fun h' eb => ⟨rfl, I.turned (t' := s.toks) (fun b o hb q => eb b o hb q) f0 f1 f3 f4 f5⟩
  self := fun A i s Q E st h => let ⟨⟨_, he⟩, _⟩ := st; wpAny_pyIter_enum he h
theorem walk_enumT {K : PySem.W.Frag} {a : Addr} {xs : List V} : Walk (IteT K a) xs.length (fun H => SqT K H a xs) (YPair (fun i => some (.int (i : Nat))) (fun i => xs[i]?)) := by
  refine ⟨fun i _ hi q => ⟨xs, xs[i], q, by simp [hi]⟩, fun _ q => ⟨xs, q, rfl⟩, fun i H v H' _ q y => ?_⟩
  obtain ⟨T, x, h1, h2, h3, h4⟩ := y
  exact ⟨T, .int (i : Nat), x, h1, h2, h3, rfl, h4 xs q⟩
/-- R of the iterator, kept whole -/
def RunIt (R : It → Hp → Prop) (J : It) (H : Hp) : Prop := R J H
def iEnumS (K : PySem.W.Frag) (ta : TA) : TI := fun σ H R => ta σ H fun vs H1 => ∃ a, vs = [.ref a] ∧ (((∃ xs, SqL K H1 a xs) ∧ RunIt R (Ite K a) H1) ∨ ((∃ xs, SqT K H1 a xs) ∧ RunIt R (IteT K a) H1))
theorem pi_enumS {X : Cx} {e : Expr} {ta : TA} {p pos tpos : Pos} {elts : List Expr} {kk : Nat} (hg : Gl X "enumerate") (hm : X.mg "enumerate" = none) (ha : PA X [e] ta) (hs : starEach [e] X.env = [(false, eval e X.env)] := by rfl) :
    PI X (.Tuple elts kk tpos) (.Call (.Name "enumerate" p) [e] [] pos) (iEnumS X.K ta) := by
  refine ⟨fun pins s σ H R I h => ?_⟩
  refine Call_ (ld_blt I hg hm boot_enumerate (PyProof.Rows.callWith_type1 (thn (ha.run pos pins s σ H _ I h) fun us s1 ⟨vs, H1, I1, r1, q1⟩ => ?_) hs rfl))
  obtain ⟨a, ex, q⟩ := q1
  subst ex
  cases r1 with
  | cons r rr =>
    cases rr
    cases r
    rcases q with ⟨⟨xs, hq⟩, q⟩ | ⟨⟨xs, hq⟩, q⟩
    · obtain ⟨its, rv, p', hz⟩ := I1.list hq
      refine call_enumerate_list p'.isList fun h' he hit hsz hk => wpAny_pyIter_enum he ?_
      have I2 : Inv X pins σ H1 { s1 with heap := h' } := I1.kept (t' := s1.toks) hk
      refine ⟨s1.heap.objs.size + 1, [s1.heap.objs.size + 1, s1.heap.objs.size], _, _, H1, rfl, I2, turn_enum a (s1.heap.objs.size + 1) s1.heap.objs.size, ⟨⟨.none, he⟩, hit, Nat.succ_ne_self _⟩, fun b hb => ?_, q⟩
      have e' : b = s1.heap.objs.size + 1 ∨ b = s1.heap.objs.size := by simpa using hb
      have hle : s1.heap.objs.size ≤ b := by
        rcases e' with z | z
        · rw [z]; exact Nat.le_add_right _ _
        · rw [z]; exact Nat.le_refl _
      exact I1.fpOk hle (I1.hok.fresh hle)
    · obtain ⟨its, rv, p', hz⟩ := I1.tuple hq
      refine enum_new1 (begins_tuple a its.toArray) (show s1.heap.IsTuple a its.toArray from p') fun h' he hit hsz hk => wpAny_pyIter_enum he ?_
      have I2 : Inv X pins σ H1 { s1 with heap := h' } := I1.kept (t' := s1.toks) hk
      refine ⟨s1.heap.objs.size + 1, [s1.heap.objs.size + 1, s1.heap.objs.size], _, _, H1, rfl, I2, turn_enumT a (s1.heap.objs.size + 1) s1.heap.objs.size, ⟨⟨.none, he⟩, ⟨_, hit, rfl, rfl⟩, Nat.succ_ne_self _⟩, fun b hb => ?_, q⟩
      have e' : b = s1.heap.objs.size + 1 ∨ b = s1.heap.objs.size := by simpa using hb
      have hle : s1.heap.objs.size ≤ b := by
        rcases e' with z | z
        · rw [z]; exact Nat.le_add_right _ _
        · rw [z]; exact Nat.le_refl _
      exact I1.fpOk hle (I1.hok.fresh hle)
/-! ## for over a list or a tuple -/
def iSeq (K : PySem.W.Frag) (tl : TE) : TI := fun σ H R => tl σ H fun x H1 => ∃ a, x = .ref a ∧ (((∃ xs, SqL K H1 a xs) ∧ RunIt R (Itl K a) H1) ∨ ((∃ xs, SqT K H1 a xs) ∧ RunIt R (Itt K a) H1))
theorem pi_seq {X : Cx} {tg l : Expr} {tl : TE} (hl : PE X l tl) : PI X tg l (iSeq X.K tl) := by
  refine ⟨fun pins s σ H R I h => ?_⟩
  refine thn (hl.run pins s σ H _ I h) fun v s1 ⟨x, H1, I1, r1, q1⟩ => ?_
  obtain ⟨a, e, q⟩ := q1
  subst e
  cases r1
  rcases q with ⟨⟨xs, hq⟩, q⟩ | ⟨⟨xs, hq⟩, q⟩
  · obtain ⟨its, rv, p, hz⟩ := I1.list hq
    refine wpAny_pyIter_list p.isList ?_
    refine ⟨s1.heap.objs.size, [s1.heap.objs.size], _, _, H1, rfl, I1.kept (t' := s1.toks) fun b o e => Heap.get?_push_of_some _ e, turn_list a _, ⟨_, Heap.get?_push_size _ rfl, rfl, rfl⟩, fun b hb => ?_, q⟩
    have e : b = s1.heap.objs.size := by simpa using hb
    subst e
    exact I1.fpOk (Nat.le_refl _) (I1.hok.fresh (Nat.le_refl _))
  · obtain ⟨its, rv, p, hz⟩ := I1.tuple hq
    refine wpAny_pyIter_tuple (show s1.heap.IsTuple a its.toArray from p) ?_
    refine ⟨s1.heap.objs.size, [s1.heap.objs.size], _, _, H1, rfl, I1.kept (t' := s1.toks) fun b o e => Heap.get?_push_of_some _ e, turn_tuple a _, ⟨_, Heap.get?_push_size _ rfl, rfl, rfl⟩, fun b hb => ?_, q⟩
    have e : b = s1.heap.objs.size := by simpa using hb
    subst e
    exact I1.fpOk (Nat.le_refl _) (I1.hok.fresh (Nat.le_refl _))
/-- a list or a tuple -/
def Sq (K : PySem.W.Frag) (H : Hp) (a : Addr) (xs : List V) : Prop := SqL K H a xs ∨ SqT K H a xs
theorem Sq.keep {K : PySem.W.Frag} {H H' : Hp} {a p : Addr} {xs : List V} (k : Keep p H H') (n : a ≠ p) (h : Sq K H a xs) : Sq K H' a xs := by
  rcases h with h | h
  · exact .inl (k.seq h n)
  · exact .inr (k.seqT h n)
theorem Sq.same {K : PySem.W.Frag} {H H' : Hp} {a : Addr} {xs : List V} (s : Same H H') (h : Sq K H a xs) : Sq K H' a xs :=
  h.keep (p := a + 1) (fun b _ o e => s b o e) (Nat.ne_of_lt (Nat.lt_succ_self a))
theorem seqT_after {K : PySem.W.Frag} {H H' : Hp} {a p : Addr} {xs : List V} (h : SqT K H a xs) (hp : H p = none) (k : Keep p H H') : SqT K H' a xs := by
  rcases h with (h | ⟨o, h⟩) | h
  · exact .inl (.inl (k _ (ne_of_none h hp) _ h))
  · exact .inl (.inr ⟨o, k _ (ne_of_none h hp) _ h⟩)
  · exact .inr h
theorem Sq.after {K : PySem.W.Frag} {H H' : Hp} {a p : Addr} {xs : List V} (h : Sq K H a xs) (hp : H p = none) (k : Keep p H H') : Sq K H' a xs := by
  rcases h with h | h
  · exact .inl (seq_after h hp k)
  · exact .inr (seqT_after h hp k)
/-- the walk over a list or a tuple, in one -/
theorem Sq.walk {K : PySem.W.Frag} {H0 H : Hp} {a : Addr} {xs : List V} {R : It → Hp → Prop} (h : Sq K H0 a xs) (s0 : Same H0 H) (k : ∀ (J : It) (G : Hp → Prop), Walk J xs.length G (YAt xs) → (∀ H', Same H0 H' → G H') → (∀ H' p, H0 p = none → Keep p H0 H' → G H') → R J H) :
    ((∃ xs, SqL K H a xs) ∧ RunIt R (Itl K a) H) ∨ ((∃ xs, SqT K H a xs) ∧ RunIt R (Itt K a) H) := by
  rcases h with h | h
  · exact .inl ⟨⟨_, s0.seq h⟩, k _ _ walk_list (fun H' s => s.seq h) fun H' p n q => seq_after h n q⟩
  · exact .inr ⟨⟨_, s0.seqT h⟩, k _ _ walk_tup (fun H' s => s.seqT h) fun H' p n q => seqT_after h n q⟩
theorem Sq.enum {K : PySem.W.Frag} {H0 H : Hp} {a : Addr} {xs : List V} {R : It → Hp → Prop} (h : Sq K H0 a xs) (s0 : Same H0 H) (k : ∀ (J : It) (G : Hp → Prop), Walk J xs.length G (YPair (fun i => some (.int (i : Nat))) (fun i => xs[i]?)) → (∀ H', Same H0 H' → G H') → (∀ H' p, H0 p = none → Keep p H0 H' → G H') → R J H) :
    ((∃ xs, SqL K H a xs) ∧ RunIt R (Ite K a) H) ∨ ((∃ xs, SqT K H a xs) ∧ RunIt R (IteT K a) H) := by
  rcases h with h | h
  · exact .inl ⟨⟨_, s0.seq h⟩, k _ _ walk_enum (fun H' s => s.seq h) fun H' p n q => seq_after h n q⟩
  · exact .inr ⟨⟨_, s0.seqT h⟩, k _ _ walk_enumT (fun H' s => s.seqT h) fun H' p n q => seqT_after h n q⟩
end LR
set_option Elab.async false
set_option maxRecDepth 100000
set_option linter.all false
set_option maxHeartbeats 4000000
namespace LR
open PySem PySem.Spec PyProof.Rows L2
/-! ## max(t, default=d), t a tuple of whole numbers -/
def mx (a b : Int) : Int := if a < b then b else a
def maxOr (d : Int) : List Int → Int
  | [] => d
  | x :: r => r.foldl mx x
def loI (u w : Int) : Int := if w < u then w else u
def hiI (u w : Int) : Int := if w > u then w else u
/-- the levels between two steps, and the greatest of them -/
def gapL (ls : List Int) (u w : Int) : List Int := (ls.drop (loI u w).toNat).take ((hiI u w).toNat - (loI u w).toNat)
def gapI (ls : List Int) (u w : Int) : Int := maxOr 0 (gapL ls u w)
end LR
set_option Elab.async false
set_option maxRecDepth 100000
set_option linter.all false
set_option maxHeartbeats 4000000
namespace LR
open PySem PySem.Spec PyProof.Rows L2
/-! ## list(o), o of a class whose __iter__ hands out a tuple's iterator -/
section
variable {prog : Program} {w : World} {A : Around} {E : Value → Shared → Prop} {s : Shared}
theorem tup_end {it t : Addr} {i : Nat} {items : Array Value} {Q : Option Value → Shared → Prop} (hh : A.handled = none)
    (hit : s.heap.IsTupleIter it t i) (ht : s.heap.IsTuple t items) (hx : items[i]? = none)
    (hQ : ∀ h', Heap.ExtBut it s.heap h' → (∃ o, h'.get? it = some o) → Q none { s with heap := h' }) : wpAny (model prog w) A (pyNext (.ref it)) Q E s := by
  obtain ⟨o, ho, hc, hd⟩ := id hit
  obtain ⟨ol, hol, _, nl, hdl⟩ := ht
  unfold pyNext
  refine wpAny_bind (wpAny_attempt (wpAny_callSpecial?_slot (name := Str.ofString "__next__") hit.typeIs F.slot_tuple_iterator_next
    (wpAny_call_entry F.slot_tuple_iterator_next hit.typeIs F.entry_tuple_iterator_next ?_ (F.args_tuple_iterator_next_1 _))))
  show wpAny _ _ (field (.ref it) 0 >>= _) _ _ s
  refine wpAny_bind (wpAny_field ho hd (x := .ref t) rfl ?_)
  show wpAny _ _ (if (Value.ref t == Value.none) = true then _ else _) _ _ s
  rw [if_neg (show ¬ ((Value.ref t == Value.none) = true) from Bool.false_ne_true)]
  show wpAny _ _ (field (.ref it) 1 >>= _) _ _ s
  refine wpAny_bind (wpAny_field ho hd (x := .int i 0) rfl ?_)
  show wpAny _ _ (seqItems? (.ref t) >>= _) _ _ s
  refine wpAny_bind (wpAny_seqItems hol hdl ?_)
  simp only [Int.toNat_natCast, hx]
  refine wpAny_bind (wpAny_rule (wpAny_bind (wpAny_setField ho hd (by simp) ?_)))
  show wpAny _ _ (newExc (.type "StopIteration") [] >>= _) _ _ _
  refine wpAny_bind ?_
  simp only [newExc, newTuple]
  refine wpAny_bind (wpAny_newObj_type ?_ (by size_fits))
  refine wpAny_bind (m := firstArgMember _ _) (wpAny_of_eq (a := Value.none) (by first | rfl | (simp only [firstArgMember]; rfl)) ?_)
  refine wpAny_newObj_type ?_ (by size_fits)
  simp only [raiseNew]
  refine wpAny_bind (wpAny_handled ?_)
  first | rw [show A.in1.handled = none from hh] | rw [hh]
  refine wpAny_bind (wpAny_pure (wpAny_throw ?_))
  refine wpAny_bind (wpAny_isInstance (T := "StopIteration") (b := true) ⟨_, Heap.get?_push_size _ rfl, rfl⟩ isSubtype_stop ?_)
  exact wpAny_pure (hQ _ (((Heap.SameBut.update ..).extBut.push _).push _) ⟨_, Heap.get?_push_of_some _ (Heap.get?_push_of_some _ (Heap.get?_update_self _ ho (Obj.isFreed_of_fields (Obj.data_mapFields hd _))))⟩)
end
/-- at it the iterator of the tuple at t, at the place i -/
def ItT (t it : Addr) (i : Nat) : HO := .ext fun h => h.IsTupleIter it t i
/-- .. that has ended -/
def ItZ (it : Addr) : HO := .ext fun h => ∃ o, h.get? it = some o
theorem itT_ok {P : Program} {w : World} {H : Hp} {h : Heap} {t it : Addr} {i : Nat} (e : h.IsTupleIter it t i) : ObjOk P w H h it (ItT t it i) :=
  ⟨e, (let ⟨o, ho, _⟩ := e; ⟨o, ho⟩), fun h1 h2 q k => q.at fun o e => k o e⟩
theorem itZ_ok {P : Program} {w : World} {H : Hp} {h : Heap} {it : Addr} (e : ∃ o, h.get? it = some o) : ObjOk P w H h it (ItZ it) :=
  ⟨e, e, fun h1 h2 q k => let ⟨o, ho⟩ := q; ⟨o, k o ho⟩⟩
def rIterT (K : PySem.W.Frag) : List V → Hp → VK → Prop := fun xs H Q => ∃ (l : Addr) (zs : List V), xs = [.ref l] ∧ SqT K H l zs ∧ ∀ it, H it = none → Q (.ref it) (upd H it (ItT l it 0))
theorem call_iterT {X : Cx} : CallR X (.builtin "iter") (rIterT X.K) := by
  intro pins s σ H xs us Q I r h
  obtain ⟨l, zs, rfl, hq, q⟩ := h
  obtain rfl := Vals.ref1 r
  obtain ⟨its, rv, pl, hz⟩ := I.tuple hq
  refine PySem.Calls.call_function_entry (by decide +kernel) (by decide +kernel) PySem.W.kdk_entry_iter (PySem.W.kdk_args_iter _) ?_
  unfold Builtin.«iter»
  refine wpAny_bind (m := someArgs "iter" 1 2 _) (wpAny_of_eq (a := [Value.ref l]) (by first | rfl | kernel_rfl!) ?_)
  show wpAny _ _ (pyIter (.ref l) >>= _) _ _ _
  refine wpAny_bind (wpAny_pyIter_tuple (show s.heap.IsTuple l its.toArray from pl) ?_)
  refine wpAny_pure ⟨_, rfl, ?_⟩
  exact ⟨.ref s.heap.objs.size, _, I.laid (t' := s.toks) (fun b u e => Heap.get?_push_of_some _ e) (Nat.le_refl _) (itT_ok ⟨_, Heap.get?_push_size _ rfl, rfl, rfl⟩), rfl, q _ (I.hok.fresh (Nat.le_refl _))⟩
section
variable {X : Cx} {pins : List (Addr × Obj)} {σ : L2.St} {A1 : Around} {Rs : Result → Shared → Prop} {l it q : Addr} {ys : List V}
theorem sqT_upd {K : PySem.W.Frag} {H : Hp} {l p : Addr} {ys : List V} {o : HO} (hp : ∃ u, H p = some u ∧ (∀ xs, u ≠ .tup xs) ∧ ∀ z w, u ≠ .frz z w) (h : SqT K H l ys) : SqT K (upd H p o) l ys := by
  obtain ⟨u, hu, n1, n2⟩ := hp
  rcases h with (h | ⟨z, h⟩) | h
  · exact .inl (.inl (by rw [upd_ne (ne_of h hu (n1 _).symm)]; exact h))
  · exact .inl (.inr ⟨z, by rw [upd_ne (ne_of h hu (n2 _ _).symm)]; exact h⟩)
  · exact .inr h
theorem it_loop (hh : A1.in1.handled = none) : ∀ (n i : Nat) (H : Hp) (s : Shared), i + n = ys.length → Inv X pins σ H s → H it = some (ItT l it i) → SqT X.K H l ys → H q = some (.lst (ys.take i)) →
    (∀ s', Inv X pins σ (upd (upd H it (ItZ it)) q (.lst ys)) s' → Rs (.ok (.ret .none)) s') → codeAny (model X.prog X.w) A1 (.builtin "list.extend.loop" ⟨[.ref q, .ref it, .none], []⟩) Rs s := by
  intro n
  induction n with
  | zero =>
    intro i H s hi I hit hl hq hR
    refine codeAny_builtin PySem.F.entry_extend_loop ?_
    rw [Around.under_plainId PySem.F.plain_extend_loop _]
    show wpAny _ A1.in1 (pyNext (.ref it) >>= _) _ _ s
    obtain ⟨its, rv, pl, hz⟩ := I.tuple hl
    have st := (I.hok it _ hit).1
    have hlen := rv.length
    refine wpAny_bind (tup_end hh st (show s.heap.IsTuple l its.toArray from pl) (by simp; omega) fun h' eb ex => ?_)
    have I1 : Inv X pins σ (upd H it (ItZ it)) { s with heap := h' } := I.write (x := it) (e := it) (t' := s.toks) (by rw [hit]; exact True.intro) (.inl rfl) (fun b o nb z => eb b o nb z) ex (itZ_ok ex)
    refine wpAny_pure (hR _ ?_)
    have e : ys.take i = ys := List.take_of_length_le (by omega)
    rw [e] at hq
    have nq : q ≠ it := ne_of hq hit (fun z => nomatch z)
    have : upd (upd H it (ItZ it)) q (.lst ys) = upd H it (ItZ it) := by
      funext b
      by_cases hb : b = q
      · rw [hb, upd_same, upd_ne nq, hq]
      · rw [upd_ne hb]
    rw [this]; exact I1
  | succ n ih =>
    intro i H s hi I hit hl hq hR
    refine codeAny_builtin PySem.F.entry_extend_loop ?_
    rw [Around.under_plainId PySem.F.plain_extend_loop _]
    show wpAny _ A1.in1 (pyNext (.ref it) >>= _) _ _ s
    obtain ⟨its, rv, pl, hz⟩ := I.tuple hl
    have st := (I.hok it _ hit).1
    have hlen := rv.length
    have nq : q ≠ it := ne_of hq hit (fun z => nomatch z)
    have hy : ys[i]? = some (ys[i]'(by omega)) := List.getElem?_eq_getElem (by omega)
    obtain ⟨u, hu, ru⟩ := rv.get hy
    refine wpAny_bind (wpAny_pyNext_tuple_item st (show s.heap.IsTuple l its.toArray from pl) (x := u) (by simpa using hu) fun h' st' sb => ?_)
    have I1 : Inv X pins σ (upd H it (ItT l it (i + 1))) { s with heap := h' } := I.write (x := it) (e := it) (t' := s.toks) (by rw [hit]; exact True.intro) (.inl rfl) (fun b o nb z => (sb.2 b nb).trans z) (let ⟨o, ho, _⟩ := st'; ⟨o, ho⟩) (itT_ok st')
    show wpAny _ A1.in1 (updateSeq q (·.push u) >>= _) _ _ _
    have hq1 : (upd H it (ItT l it (i + 1))) q = some (.lst (ys.take i)) := by rw [upd_ne nq, hq]
    obtain ⟨z, itq, k, r2, hl2, e⟩ := I1.lstM hq1
    have tl : (ys.take i).length = i := by rw [List.length_take]; omega
    refine wpAny_bind (wpAny_updateSeq e rfl (wpAny_pure ⟨plainId_quiet PySem.F.plain_extend_loop _, ?_⟩) (by rw [List.size_toArray]; omega) (by show (itq.toArray.push u).size ≤ sizeLine + 1; rw [Array.size_push, List.size_toArray]; omega))
    have et : ys.take (i + 1) = ys.take i ++ [ys[i]'(by omega)] := by rw [List.take_succ, hy]; rfl
    have I2 := I1.lset (f := (·.push u)) (its' := itq ++ [u]) (ys := ys.take (i + 1)) (t' := s.toks) hq1 e (by simp) (by rw [et]; exact r2.append (.cons ru .nil)) (by rw [List.length_take]; omega)
    refine ih (i + 1) _ _ (by omega) I2 (by rw [upd_ne nq.symm, upd_same]) (sqT_upd ⟨_, hq1, (fun _ z => nomatch z), (fun _ _ z => nomatch z)⟩ (sqT_upd ⟨_, hit, (fun _ z => nomatch z), (fun _ _ z => nomatch z)⟩ hl)) upd_same fun s' I' => hR s' ?_
    have : upd (upd (upd (upd H it (ItT l it (i + 1))) q (.lst (ys.take (i + 1)))) it (ItZ it)) q (.lst ys) = upd (upd H it (ItZ it)) q (.lst ys) := by
      funext b
      by_cases h1 : b = q
      · rw [h1, upd_same, upd_same]
      · rw [upd_ne h1, upd_ne h1]
        by_cases h2 : b = it
        · rw [h2, upd_same, upd_same]
        · rw [upd_ne h2, upd_ne h2, upd_ne h1, upd_ne h2]
    rw [this] at I'
    exact I'
/-- a class with an __iter__ of its own, without __len__ and __length_hint__ -/
structure OIt (K : PySem.W.Frag) (C fi : Addr) : Prop where
  it : PySem.W.findIn K (.ref C) "__iter__" = some (some (.ref fi))
  itF : PySem.W.isFn K (.ref fi) = true
  nolen : PySem.W.findIn K (.ref C) "__len__" = some none
  nohint : PySem.W.findIn K (.ref C) "__length_hint__" = some none
theorem oit_hint {M : Model} {A : Around} {E : Value → Shared → Prop} {Q : Bool → Shared → Prop} {K : PySem.W.Frag} {ox : Obj} {od : Option Obj} {C fi a : Addr} {s : Shared} (hc : OIt K C fi) (hK : K.In s.heap) (J : PySem.W.InstAt s.heap a ox C od) (h : Q true s) :
    wpAny M A (Builtin.List.listLengthHint (.ref a)) Q E s := by
  unfold Builtin.List.listLengthHint
  refine wpAny_bind (wpAny_bind (J.type.here ((PySem.W.looks_findIn hK hc.nolen).here ?_)))
  refine PySem.W.KFB.if_not rfl ?_
  refine PySem.W.KFB.if_not rfl ?_
  refine wpAny_bind (wpAny_bind (J.type.here ((PySem.W.looks_findIn hK hc.nohint).here ?_)))
  exact wpAny_pure h
variable {CI : CXT} {C fi a : Addr} {fdI : FuncData} {psI : List Str} {spI : Sp} {EI : XK} {n : Nat}
theorem it_extend {dx : Addr} {fs : List (Str × V)} {R : Hp → Prop} (sb : Sub X n A1.in1) (hc : OIt X.K C fi)
    (FI : FnOk X.prog X.w X.K X.mg X.base CI n fi fdI psI spI) (bI : Binds X.K fdI psI []) (xI : Passes CI X EI)
    (hdone : ∀ H s, Inv X pins σ H s → R H → Rs (.ok (.ret .none)) s) (herr : ∀ e s, X.xe e s → Rs (.error e) s)
    (I : Inv X pins σ H s) (ha : H a = some (.ins C dx fs)) (hq : H q = some (.lst []))
    (hsp : spI [.ref a] H (fun v H' => ∃ it l ys dx' fs', v = .ref it ∧ H' it = some (ItT l it 0) ∧ SqT X.K H' l ys ∧ H' q = some (.lst []) ∧ H' a = some (.ins C dx' fs') ∧ R (upd (upd H' it (ItZ it)) q (.lst ys))) EI) :
    wpAny (model X.prog X.w) A1.in1 (Builtin.List.listExtendWith (.ref q) (.ref a) .none)
      (fun fin s' => match fin with | .done f => Rs (.ok f) s' | .again c' => c'.quiet = true ∧ codeAny (model X.prog X.w) A1 c' Rs s') (fun e s' => Rs (.error e) s') s := by
  have hne : q ≠ a := ne_of hq ha (fun z => nomatch z)
  obtain ⟨mA, J, _⟩ := ins_get I.hok ha
  obtain ⟨od, J, _⟩ := J.look
  obtain ⟨m0, hF⟩ := I.fr
  unfold Builtin.List.listExtendWith
  refine wpAny_bind (J.type.here ?_)
  have h1 : Builtin.List.listSameRef (.ref q) (.ref a) = false := by simp [Builtin.List.listSameRef, hne]
  have h2 : (Value.ref C == Value.type "list") = false := rfl
  have h3 : (Value.ref C == Value.type "tuple") = false := rfl
  simp only [h1, h2, h3, Bool.or_false, Bool.false_eq_true, if_false]
  refine wpAny_bind (PySem.W.owit_iter hF I.ok.mod.kin J hc.it hc.itF ?_)
  have e0 : Env0 X.prog X.w X.K X.mg X.base A1.in1 X.stack s H := by
    have e := I.env0
    exact ⟨by rw [sb.fr]; exact e.frames, e.mod, e.bs, e.bsz, e.funs, e.frf, e.hok, e.bare⟩
  have hl := FI.len _ _ _ _ hsp
  have r2 : Vals [V.ref a] [Value.ref a] := .cons rfl .nil
  refine wpAny_call (codeAny_mono (FI.run A1.in1 X.stack s H ⟨[.ref a], []⟩ [.ref a] [.ref a] _ EI sb.room e0 (by
    have := bI s [.ref a] I.kIn (by simpa using hl)
    simpa using this) r2 hsp) fun r s' hq' => ?_)
  cases r with
  | error e => exact herr e s' (xI pins σ H s e s' I hq')
  | ok fl =>
    cases fl with
    | next => exact False.elim hq'
    | brk => exact False.elim hq'
    | cont => exact False.elim hq'
    | ret u =>
      obtain ⟨v, H', I', rv, it, l, ys, dx', fs', ev, hit, hl', hq1, ha', hR⟩ := I.after hq'
      subst ev
      cases rv
      have st := (I'.hok it _ hit).1
      unfold PySem.W.OwitIt
      refine wpAny_specialOf (name := Str.ofString "__next__") st.typeIs PySem.F.slot_tuple_iterator_next.lookup ?_
      obtain ⟨mA', J', _⟩ := ins_get I'.hok ha'
      obtain ⟨od', J', _⟩ := J'.look
      have hh : A1.in1.handled = none := sb.room.hd
      refine wpAny_bind (wpAny_holding (oit_hint hc I'.kIn J' ?_))
      obtain ⟨z, its, k, r3, hl3, e3⟩ := I'.lstM hq1
      cases r3
      have run : ∀ s2, Inv X pins σ H' s2 → codeAny (model X.prog X.w) A1 (.builtin "list.extend.loop" ⟨[.ref q, .ref it, .none], []⟩) Rs s2 := fun s2 I2 =>
        it_loop hh ys.length 0 H' s2 (Nat.zero_add _) I2 hit hl' (by simpa using hq1) fun s3 I3 => hdone _ s3 I3 hR
      refine wpAny_ite_split (fun _ => ?_) (fun _ => wpAny_pure ⟨plainId_quiet PySem.F.plain_extend_loop _, run s' I'⟩)
      refine wpAny_bind (wpAny_rule ?_)
      refine wpAny_bind ?_
      show wpAny _ _ (updateSeq q (·.push .none) >>= fun _ => updateSeq q (·.pop)) _ _ _
      refine wpAny_bind (wpAny_updateSeq e3 rfl ?_)
      have I2 := I'.lset (f := (·.push Value.none)) (its' := [Value.none]) (ys := [.non]) (t' := s'.toks) hq1 e3 (by simp) (.cons rfl .nil) (by rw [List.length_singleton, sizeLine_eq]; decide)
      obtain ⟨z4, its4, k4, r4, hl4, e4⟩ := I2.lstM upd_same
      obtain ⟨u4, rfl, ru4⟩ := r4.one
      refine wpAny_updateSeq e4 rfl ?_ (by show 1 ≤ sizeLine; rw [sizeLine_eq]; decide) (by show 0 ≤ sizeLine + 1; exact Nat.zero_le _)
      refine wpAny_pure ⟨plainId_quiet PySem.F.plain_extend_loop _, run _ ?_⟩
      have I3 := I2.lset (f := (·.pop)) (its := [u4]) (its' := []) (ys := []) (t' := s'.toks) upd_same e4 (by rfl) .nil (Nat.zero_le _)
      rw [upd_upd] at I3
      have hH : upd H' q (.lst []) = H' := by
        funext b
        by_cases hb : b = q
        · rw [hb, upd_same, hq1]
        · rw [upd_ne hb]
      rw [hH] at I3
      exact I3
/-- list(o) -/
def rListIt (K : PySem.W.Frag) (C : Addr) (spI : Sp) (EI : XK) : List V → Hp → VK → Prop := fun xs H Q => ∃ a dx fs, xs = [.ref a] ∧ H a = some (.ins C dx fs) ∧
  ∀ q, H q = none → spI [.ref a] (upd H q (.lst [])) (fun v H' => ∃ it l ys dx' fs', v = .ref it ∧ H' it = some (ItT l it 0) ∧ SqT K H' l ys ∧ H' q = some (.lst []) ∧ H' a = some (.ins C dx' fs') ∧ Q (.ref q) (upd (upd H' it (ItZ it)) q (.lst ys))) EI
theorem call_listIt (hc : OIt X.K C fi) (FI : FnOk X.prog X.w X.K X.mg X.base CI n fi fdI psI spI) (bI : Binds X.K fdI psI []) (xI : Passes CI X EI) (hr : Room (n + 2) X.A) : CallR X (.type "list") (rListIt X.K C spI EI) := by
  intro pins s σ H xs us Q I rv h
  obtain ⟨a, dx, fs, rfl, ha, hq⟩ := h
  obtain ⟨u, rfl, ru⟩ := rv.one
  cases ru
  have sb : Sub X n X.A.in1.in1 := (Sub.in1 (Sub.in1 (⟨hr, rfl⟩ : Sub X (n + 2) X.A)))
  refine callType_codes (Q₁ := fun obj s₁ => obj = .ref s.heap.objs.size ∧ s₁ = { s with heap := s.heap.push { cls := .type "list", data := .seq #[] } }) PySem.F.called_list (PySem.F.typeCall_list_1 _) PySem.F.entry_list_init
    (code_list_new _ ⟨rfl, rfl⟩) fun obj s₁ h₁ => ?_
  obtain ⟨rfl, rfl⟩ := h₁
  have hS : (s.heap.push { cls := .type "list", data := .seq #[] }).get? s.heap.objs.size = some { cls := .type "list", data := .seq #[] } := Heap.get?_push_size _ rfl
  refine ⟨⟨_, hS, rfl⟩, PySem.F.args_list_init_2 _ _, ?_⟩
  have fr : H s.heap.objs.size = none := I.hok.fresh (Nat.le_refl _)
  have hsp := hq _ fr
  have I1 : Inv X pins σ (upd H s.heap.objs.size (.lst [])) { s with heap := s.heap.push { cls := .type "list", data := .seq #[] } } := I.lnew (its := []) (t' := s.toks) .nil (Nat.zero_le _)
  show wpAny _ _ (do let old ← Builtin.List.listItems (.ref s.heap.objs.size); Builtin.List.listUpdate (.ref s.heap.objs.size) (fun _ => #[]); letGo old.toList.reverse; Builtin.List.listExtendWith (.ref s.heap.objs.size) (.ref a) .none) _ _ _
  refine wpAny_bind ?_
  unfold Builtin.List.listItems
  refine wpAny_bind (wpAny_seqItems hS rfl (wpAny_pure ?_))
  show wpAny _ _ (updateSeq s.heap.objs.size (fun _ => #[]) >>= fun _ => letGo (#[] : Array Value).toList.reverse >>= fun _ => Builtin.List.listExtendWith (.ref s.heap.objs.size) (.ref a) .none) _ _ _
  refine wpAny_bind (wpAny_updateSeq hS rfl ?_)
  have I2 := I1.lset (f := fun _ => #[]) (its := []) (its' := []) (ys := []) (t' := s.toks) upd_same hS rfl .nil (Nat.zero_le _)
  rw [upd_upd] at I2
  refine wpAny_bind (wpAny_letGo ?_)
  have ha2 : upd H s.heap.objs.size (.lst []) a = some (.ins C dx fs) := by rw [upd_ne (ne_of_none ha fr)]; exact ha
  exact it_extend (A1 := X.A.in1) (Rs := wants (fun r s₂ => r = .none ∧ EP X pins σ Q (.ref s.heap.objs.size) s₂) X.xe) (R := fun H' => Q (.ref s.heap.objs.size) H') sb hc FI bI xI
    (fun H' s' I' hR => ⟨rfl, .ref s.heap.objs.size, H', I', rfl, hR⟩) (fun e s' he => he) I2 ha2 upd_same hsp
theorem cr_listIt {k j : Nat} {sp : Sp} (c : Met X.prog X.w X.K X.mg X.base k C "__iter__" sp) (n1 : NoAttr X.K C "__len__") (n2 : NoAttr X.K C "__length_hint__") (hr : Room j X.A) (hk : k + 2 ≤ j) : CallR X (.type "list") (rListIt X.K C sp E0) := by
  obtain ⟨f, fd, ps, hc, ⟨m1, m2, m3⟩, F, b⟩ := c.ex
  exact call_listIt ⟨m1, m2, n1, n2⟩ F b pass0 (hr.mono hk)
end
theorem b_iter : bootBuiltins "iter" = some (.builtin "iter") := by decide +kernel
end LR
set_option Elab.async false
set_option maxRecDepth 100000
set_option linter.all false
set_option maxHeartbeats 4000000
namespace LR
open PySem PySem.Spec PyProof.Rows L2
theorem IsGap.one {ls : List Int} {lo hi : Nat} {g k : Int} (a : IsGap ls lo hi g) (b : IsGap ls lo hi k) : g = k := by
  have key : ∀ {x y : Int}, IsGap ls lo hi x → IsGap ls lo hi y → x ≤ y := fun {x y} a b => by
    obtain ⟨a0, a1, a2⟩ := a
    obtain ⟨b0, b1, b2⟩ := b
    rcases a2 with e | ⟨m, h1, h2, e⟩
    · omega
    · exact b1 m x h1 h2 e
  exact Int.le_antisymm (key a b) (key b a)
/-! ## answers of the law -/
abbrev Chk := Str × Int × Int × Int
def Chk.ok (e : Chk) : Prop := e.2.2.1 ≤ e.2.1 ∧ e.2.1 ≤ e.2.2.2
end LR
set_option Elab.async false
set_option maxRecDepth 100000
set_option linter.all false
set_option maxHeartbeats 4000000
namespace LR
open PySem PySem.Spec PyProof.Rows L2
/-! ## rules inside the block of a comprehension: K is that of the def -/
theorem ix_tupK {X : Cx} {K : PySem.W.Frag} (hk : X.K = K) : IxR X (rIxT K) := hk ▸ ix_tup
/-! ## operators of an own class: == by __eq__, + by __add__ -/
/-- an own error class without __init__ over ValueError -/
structure RseIn (K : PySem.W.Frag) (mg : Str → Option Value) (x : Str) (C : Addr) : Prop where
  xP : PySem.W.excIn K C [.type "ValueError", .type "Exception", .type "BaseException", .type "object"] "ValueError.__new__" = true
  gC : mg x = some (.ref C)
  kP : PySem.W.keepIn K (.ref C) = true
  bP : PySem.W.subIn K (.ref C) (.type "BaseException") = some true
  tP : PySem.W.typeIn K (.ref C) = some (.type "type")
  E : ErrC K C
end LR
set_option Elab.async false
set_option maxRecDepth 100000
set_option linter.all false
set_option maxHeartbeats 4000000
/-! t[::-1] of a tuple: always a new one -/
set_option Elab.async false
set_option maxRecDepth 100000
set_option linter.all false
set_option maxHeartbeats 4000000
/-! pieces, flips, sums of ladders -/
namespace LR
open PySem PySem.Spec PyProof.Rows L2
/-- what lies ahead of the pieces behind P, and behind those ahead of S -/
def pre (h : Int) (P : List (List Int)) : List Int := P.flatMap fun q => q ++ [h]
/-- the length of the pieces ahead of place k, with the levels behind each of them -/
def off (h : Int) (ps : List (List Int)) (k : Nat) : Nat := (pre h (ps.take k)).length
/-- places a to b of the row -/
def cut (ls : List Int) (a b : Nat) : List Int := (ls.drop a).take (b - a)
theorem sIx_nat {n d a : Nat} (h : a ≤ n) : HT.sIx n d (some (a : Int)) = a := by
  unfold HT.sIx
  simp only []
  rw [if_neg (by omega)]; omega
/-- lists of tuples in the heap -/
def PartsAt (H : Hp) (a : Addr) (ps : List (List Int)) : Prop := ∃ ts : List Addr, H a = some (.lst (ts.map V.ref)) ∧ ts.length = ps.length ∧ ∀ (k : Nat) (t : Addr) (p : List Int), ts[k]? = some t → ps[k]? = some p → H t = some (.tup (p.map V.int))
theorem PartsAt.same {H H' a ps} (s : Same H H') (h : PartsAt H a ps) : PartsAt H' a ps := by
  obtain ⟨ts, h1, h2, h3⟩ := h
  exact ⟨ts, s _ _ h1, h2, fun k t p e1 e2 => s _ _ (h3 k t p e1 e2)⟩
theorem PartsAt.keep {H H' a ps q} (s : Keep q H H') (hq : ∃ l, H q = some (.lst l)) (n : a ≠ q) (h : PartsAt H a ps) : PartsAt H' a ps := by
  obtain ⟨ts, h1, h2, h3⟩ := h
  obtain ⟨l, hq⟩ := hq
  exact ⟨ts, s _ n _ h1, h2, fun k t p e1 e2 => s _ (ne_of (h3 k t p e1 e2) hq (by intro z; cases z)) _ (h3 k t p e1 e2)⟩
theorem PartsAt.push {H D ps q p} (h : PartsAt H D ps) (hq : H q = some (.tup (p.map V.int))) : ∃ xs, H D = some (.lst xs) ∧ xs.length = ps.length ∧ PartsAt (upd H D (.lst (xs ++ [.ref q]))) D (ps ++ [p]) := by
  obtain ⟨ts, h1, h2, h3⟩ := h
  refine ⟨_, h1, by rw [List.length_map, h2], ts ++ [q], by rw [upd_same, List.map_append]; rfl, by rw [List.length_append, List.length_append, h2]; rfl, fun k t r e1 e2 => ?_⟩
  have key : H t = some (.tup (r.map V.int)) := by
    by_cases c : k < ts.length
    · rw [List.getElem?_append_left c] at e1
      rw [List.getElem?_append_left (by omega)] at e2
      exact h3 k t r e1 e2
    · rw [List.getElem?_append_right (by omega)] at e1
      rw [List.getElem?_append_right (by omega)] at e2
      have : k = ts.length := by
        have := (List.getElem?_eq_some_iff.mp e1).1
        simp at this; omega
      subst this
      rw [Nat.sub_self] at e1
      rw [h2, Nat.sub_self] at e2
      cases e1; cases e2
      exact hq
  rw [upd_ne (ne_of key h1 (by intro z; cases z))]
  exact key
def tupD (p : List Int) : Dt := .tup (p.map Dt.int)
theorem ats_of {H : Hp} : ∀ {ts : List Addr} {ps : List (List Int)}, ts.length = ps.length → (∀ p ∈ ps, p.length ≤ 100000) → (∀ (k : Nat) (t : Addr) (p : List Int), ts[k]? = some t → ps[k]? = some p → H t = some (.tup (p.map V.int))) → Ats H (ts.map V.ref) (ps.map tupD)
  | [], [], _, _, _ => .nil
  | t :: ts, p :: ps, hl, hz, h => .cons (.tup (h 0 t p rfl rfl) (ats_ints H p) (by rw [List.length_map]; exact hz p List.mem_cons_self)) (ats_of (by simpa using hl) (fun q hq => hz q (List.mem_cons_of_mem _ hq)) fun k t' p' e1 e2 => h (k + 1) t' p' (by simpa using e1) (by simpa using e2))
  | [], _ :: _, hl, _, _ => by simp at hl
  | _ :: _, [], hl, _, _ => by simp at hl
theorem PartsAt.at {H a ps} (h : PartsAt H a ps) (hz : ps.length ≤ 100000) (hp : ∀ p ∈ ps, p.length ≤ 100000) : At H (.ref a) (.lst (ps.map tupD)) := by
  obtain ⟨ts, h1, h2, h3⟩ := h
  exact .lst h1 (ats_of h2 hp h3) (by rw [List.length_map, h2]; exact hz)
theorem PartsAt.get {H a ps} (h : PartsAt H a ps) {k : Nat} {p : List Int} (e : ps[k]? = some p) : ∃ t xs, H a = some (.lst xs) ∧ xs.length = ps.length ∧ xs[k]? = some (.ref t) ∧ H t = some (.tup (p.map V.int)) := by
  obtain ⟨ts, h1, h2, h3⟩ := h
  have hk : k < ts.length := by rw [h2]; exact (List.getElem?_eq_some_iff.mp e).1
  exact ⟨ts[k], _, h1, by rw [List.length_map, h2], by rw [List.getElem?_map, List.getElem?_eq_getElem hk]; rfl, h3 k _ p (List.getElem?_eq_getElem hk) e⟩
theorem PartsAt.len {H a ps} (h : PartsAt H a ps) : ∃ xs, H a = some (.lst xs) ∧ xs.length = ps.length := by
  obtain ⟨ts, h1, h2, _⟩ := h
  exact ⟨_, h1, by rw [List.length_map, h2]⟩
end LR
set_option Elab.async false
set_option maxRecDepth 100000
set_option linter.all false
set_option maxHeartbeats 4000000
/-! sets of tuples of ints: asked, added to, made empty; sorted of a tuple of such -/
namespace LR
open PySem PySem.Spec PyProof.Rows L2
theorem nth_dum (m : Nat) : ∀ (n : Nat) (p : SetTable.Probe), p.dummy = none → (nth m p n).dummy = none
  | 0, _, h => h
  | n + 1, p, h => nth_dum m n _ (by unfold adv; split <;> exact h)
section
variable {P : Program} {w : World} {A : Around} {E : Value → Shared → Prop} {s : Shared} {a : Addr} {L : List (Addr × List Int)} {es : Array (Int × Value)} {ep : Nat} {t : SetTable}
/-- the search that adds nothing, from the c-th place of the way on -/
theorem seek (R : SetTR P w s.heap a L es ep t) {x : Addr} {k : List Int} (hx : IsT P w s.heap k x) (hu : A.units < cLine) {K : Nat} {p0 : SetTable.Probe} (start : t.probeStart (thash P w k) = p0) (d0 : p0.dummy = none)
    (lim : K < 10 * SetTable.turns t.mask) (stop : (nth t.mask p0 K).j ∉ t.place.toList) (full : ∀ c, c < K → (nth t.mask p0 c).j ∈ t.place.toList) {Q : SetFound → Shared → Prop}
    (yes : k ∈ L.map (·.2) → ∀ i, Q (.there (some i)) s) (no : k ∉ L.map (·.2) → ∀ j, Q (.free j false) s) :
    ∀ (f c : Nat) (st : Option SetTable.Probe), st.getD p0 = nth t.mask p0 c → c ≤ K → K - c < f →
      (∀ (i : Nat) q, L[i]? = some q → q.2 = k → ∃ d, c ≤ d ∧ d < K ∧ t.place.toList[i]? = some (nth t.mask p0 d).j) →
      wpAny (model P w) A (setSearchFrom a (.ref x) (thash P w k) false f st) Q E s := by
  intro f
  induction f with
  | zero => intro c st _ _ z _; omega
  | succ f ih =>
    intro c st hst cK lt left
    obtain ⟨ob, hob, _, dob⟩ := R.ob
    have to : ∀ q, nth t.mask (nth t.mask p0 c) q = nth t.mask p0 (c + q) := fun q => (nth_add t.mask c p0 q).symm
    have hashOf : ∀ (i : Nat) q, L[i]? = some q → (es[i]?.map (·.1)).getD 0 = thash P w q.2 := fun i q e => by rw [R.entry e]; rfl
    have gs := go_spec t R.tab.ris R.tab.dm (fun i => (es[i]?.map (·.1)).getD 0) (thash P w k) (10 * SetTable.turns t.mask) (K - c) (nth t.mask p0 c) (nth_dum _ _ _ d0) (by omega)
      (fun q hq => by rw [to]; exact full _ (by omega)) (by rw [to, Nat.add_sub_cancel' cK]; exact stop)
    rw [setSearchFrom_succ]
    refine wpAny_bind (wpAny_setState_of hob dob R.fits ?_)
    show wpAny _ _ (if t.gaveWay = true then _ else _) _ _ _
    refine wp_if_neg R.gw ?_
    simp only [start, hst]
    rcases gs with ⟨q, i, q1, pi, hi, before, pr⟩ | ⟨before, pr⟩
    · rw [show t.probe (fun i => (es[i]?.map (·.1)).getD 0) (thash P w k) (nth t.mask p0 c) = _ from pr]
      rw [to] at pi
      have il : i < L.length := by
        have z1 := (List.getElem?_eq_some_iff.mp pi).1
        have z2 := R.tab.sz
        rw [List.length_map] at z2
        rw [Array.length_toList] at z1
        omega
      obtain ⟨e, he⟩ : ∃ e, L[i]? = some e := ⟨_, List.getElem?_eq_getElem il⟩
      have em := List.mem_of_getElem? he
      have main : wpAny (model P w) A (searchRest a (.ref x) (thash P w k) false f es t (nth t.mask p0 (c + q)).j i (nth t.mask p0 (c + (q + 1)))) Q E s := by
        unfold searchRest
        rw [R.entry he]
        refine wpAny_bind (wpAny_holding (wpAny_eqBool_tuple hu (R.tup e em) hx ?_))
        refine wpAny_bind (wpAny_setState_of hob dob R.fits ?_)
        refine wp_if_neg (by simp) ?_
        refine wpAny_bind (wpAny_pure ?_)
        rw [sameMem]
        have live : t.slot (nth t.mask p0 (c + q)).j = .live i := slot_live R.tab.ris pi
        simp only [if_true, live, R.entry he]
        refine wpAny_bind (wpAny_isSame_ref_self (wpAny_bind (wpAny_pure ?_)))
        simp only [if_true]
        by_cases same : e.2 = k
        · exact wp_if_pos (by simp [same]) (wpAny_pure (yes (List.mem_map.mpr ⟨e, em, same⟩) i))
        · refine wp_if_neg (by simp [same]) (ih (c + (q + 1)) _ rfl (by omega) (by omega) fun i' e' h1 h2 => ?_)
          obtain ⟨d, d1, d2, d3⟩ := left i' e' h1 h2
          refine ⟨d, ?_, d2, d3⟩
          apply Classical.byContradiction
          intro small
          by_cases at_ : d = c + q
          · have s1 := slot_live R.tab.ris d3
            rw [at_, live] at s1
            cases s1
            rw [he] at h1; cases h1
            exact same h2
          · refine before (d - c) i' (by omega) (by rw [to, Nat.add_sub_cancel' d1]; exact d3) ?_
            rw [hashOf i' e' h1, h2]
      rw [to, to]
      by_cases led : t.led = true
      · refine wp_if_neg (by rw [led]; decide) ?_
        exact wpAny_bind (wpAny_pure main)
      · refine wp_if_pos (by simpa using led) (wpAny_bind (seen_tup hx (fun y hy => ?_) (wp_if_neg (by decide) (wpAny_bind (wpAny_pure main)))))
        obtain ⟨v, hv, rfl⟩ := List.mem_map.mp hy
        have v2 : v ∈ es.toList := by
          simp at hv
          simpa using hv.1
        rw [R.rows] at v2
        obtain ⟨u, hu2, rfl⟩ := List.mem_map.mp v2
        exact ⟨u.2, u.1, rfl, R.tup u hu2⟩
    · rw [show t.probe (fun i => (es[i]?.map (·.1)).getD 0) (thash P w k) (nth t.mask p0 c) = _ from pr]
      refine wpAny_pure (no (fun hm => ?_) _)
      obtain ⟨e, em, ek⟩ := List.mem_map.mp hm
      obtain ⟨i, hi, ei⟩ := List.getElem_of_mem em
      have h1 : L[i]? = some e := by rw [List.getElem?_eq_getElem hi, ei]
      obtain ⟨d, d1, d2, d3⟩ := left i e h1 ek
      refine before (d - c) i (by omega) (by rw [to, Nat.add_sub_cancel' d1]; exact d3) ?_
      rw [hashOf i e h1, ek]
theorem find_t (R : SetTR P w s.heap a L es ep t) {x : Addr} {k : List Int} (hx : IsT P w s.heap k x) (hu : A.units < cLine) {Q : Option Nat → Shared → Prop}
    (yes : k ∈ L.map (·.2) → ∀ i, Q (some i) s) (no : k ∉ L.map (·.2) → Q none s) : wpAny (model P w) A (setFind a (.ref x) (thash P w k)) Q E s := by
  obtain ⟨ob, hob, _, dob⟩ := R.ob
  have room := R.room
  obtain ⟨K, lim, stop, full⟩ := R.tab.first (by rw [List.length_map]; omega) (thash P w k)
  have lim2 : K < 100000 := by
    have : SetTable.turns t.mask ≤ 142 := by
      unfold SetTable.turns
      rcases R.tab.mok with e | e | e <;> omega
    omega
  show wpAny (model P w) A (setFindIn a (.ref x) (thash P w k) (99999 + 1)) Q E s
  unfold setFindIn
  refine wpAny_bind (wpAny_setState_of hob dob R.fits (wp_if_neg (by simp [byScan, Value.scannable]) ?_))
  refine wpAny_bind ?_
  refine seek R hx hu (start_run t _) rfl lim stop full (fun m i => wpAny_pure (yes m i)) (fun m j => wpAny_pure (no m)) 100000 0 none rfl (Nat.zero_le _) (by omega) fun i q e ek => ?_
  have hi : (L.map fun p => thash P w p.2)[i]? = some (thash P w k) := by rw [List.getElem?_map, e, ← ek]; rfl
  have il : i < t.place.toList.length := by
    have z1 := (List.getElem?_eq_some_iff.mp e).1
    have z2 := R.tab.sz
    rw [List.length_map] at z2
    rw [Array.length_toList]; omega
  have pj := List.getElem?_eq_getElem il
  obtain ⟨d, d1, d2⟩ := R.tab.before stop hi pj
  exact ⟨d, Nat.zero_le _, d1, pj.trans (congrArg some d2.symm)⟩
end
section
variable {P : Program} {w : World} {A : Around} {E : Value → Shared → Prop} {s : Shared}
/-- the items of a list or a tuple, gathered -/
theorem gather {p : Addr} {T : String} {o : Obj} {vs : List Value} {n : Nat} {Q : List Value → Shared → Prop} (hT : T = "list" ∨ T = "tuple") (ho : s.heap.get? p = some o) (hc : o.cls = .type T) (hd : o.data = .seq vs.toArray n) (hz : vs.length ≤ sizeLine)
    (h : ∀ h', (∀ b u, s.heap.get? b = some u → h'.get? b = some u) → s.heap.objs.size ≤ h'.objs.size → Q vs { s with heap := h' }) : wpAny (model P w) A (collect (.ref p)) Q E s := by
  have new0 : (s.heap.push (seqObj "list" #[] 0)).get? s.heap.objs.size = some (seqObj "list" #[] 0) := Heap.get?_push_size _ rfl
  have old : (s.heap.push (seqObj "list" #[] 0)).get? p = some o := Heap.get?_push_of_some _ ho
  have keep : ∀ b u, s.heap.get? b = some u → ((s.heap.push (seqObj "list" #[] 0)).update s.heap.objs.size (Obj.mapSeq (· ++ vs.toArray))).get? b = some u := fun b u e =>
    (Heap.get?_update_other _ _ (Ne.symm (Nat.ne_of_lt (Heap.lt_size e)))).trans (Heap.get?_push_of_some _ e)
  unfold collect
  refine wpAny_bind (wpAny_runValue (codeAny_builtin entry_proto_collect' ?_))
  refine wpAny_bind (wpAny_newList (wpAny_pure ⟨Code.quiet_builtin _ (by decide +kernel), codeAny_builtin entry_list_iadd' ?_⟩))
  show wpAny (model P w) _ (Builtin.List.listExtendWith (.ref s.heap.objs.size) (.ref p) (.ref s.heap.objs.size)) _ _ { s with heap := s.heap.push (seqObj "list" #[] 0) }
  unfold Builtin.List.listExtendWith
  refine wpAny_bind (wpAny_typeOf (T := T) ⟨o, old, hc⟩ ?_)
  rw [if_pos (by rcases hT with rfl | rfl <;> simp)]
  refine wpAny_bind (listItems_at old hd (wpAny_bind (listItems_at (xs := #[]) (n := 0) new0 rfl ?_)))
  rw [if_neg (by simp)]
  refine wpAny_bind (listUpdate_at (xs := #[]) (n := 0) new0 rfl ?_ (Nat.zero_le _) (by show (#[] ++ vs.toArray).size ≤ sizeLine + 1; simp only [Array.size_append, List.size_toArray, List.length_nil]; omega))
  refine wpAny_pure (wpAny_bind (wpAny_load (get?_update_seq new0 _) ?_))
  show wpAny (model P w) _ (pure ((#[] : Array Value) ++ vs.toArray).toList) Q E _
  rw [show ((#[] : Array Value) ++ vs.toArray).toList = vs by simp]
  exact wpAny_pure (h _ keep (by rw [Heap.size_update, size_push']; omega))
/-- sorted(xs) of a list or a tuple of tuples of ints -/
theorem sorted_seq {p : Addr} {T : String} {o : Obj} {vs : List Value} {n d : Nat} {B : Int} {Q : Value → Shared → Prop} (hT : T = "list" ∨ T = "tuple") (ho : s.heap.get? p = some o) (hc : o.cls = .type T) (hd : o.data = .seq vs.toArray n) (h64 : vs.length < 64) (hd1 : 1 ≤ d) (x : TS.TupsOk s.heap d B vs)
    (h : ∀ h' q (out : Array Value) c, (∀ b u, s.heap.get? b = some u → h'.get? b = some u) → h'.get? q = some (seqObj "list" out c) → s.heap.objs.size ≤ q → out.toList.Perm vs → out.toList.Pairwise (fun u v => TS.code B (TS.intsOf s.heap u) ≤ TS.code B (TS.intsOf s.heap v)) → Q (.ref q) { s with heap := h' }) :
    wpAny (model P w) A (call (.builtin "sorted") [.ref p]) Q E s := by
  refine Calls.call_function_entry kind_sorted plain_sorted entry_sorted (args_sorted1 _) ?_
  unfold Builtin.«sorted»
  refine wpAny_bind (m := checkCount "sorted" 1 1 _) (wpAny_pure (wpAny_bind (gather hT ho hc hd (by rw [sizeLine_eq]; omega) fun h1 k1 z1 => wpAny_bind (wpAny_newList ?_ (by rw [sizeLine_eq]; omega)))))
  have at1 : (h1.push (seqObj "list" vs.toArray 0)).get? h1.objs.size = some (seqObj "list" vs.toArray 0) := Heap.get?_push_size _ rfl
  have k2 : ∀ b u, s.heap.get? b = some u → (h1.push (seqObj "list" vs.toArray 0)).get? b = some u := fun b u e => Heap.get?_push_of_some _ (k1 b u e)
  have x2 : TS.TupsOk (h1.push (seqObj "list" vs.toArray 0)) d B vs := x.keeps fun b u e _ => k2 b u e
  refine wpAny_bind (wpAny_holding (TS.call_sort_tups (s := { s with heap := h1.push (seqObj "list" vs.toArray 0) }) at1 h64 hd1 x2 fun out o1 o2 => ?_))
  obtain ⟨c, hcq⟩ := sortedHeap_at (vs := vs) (out := out) at1
  refine wpAny_pure ⟨_, rfl, h _ h1.objs.size out c (fun b u e => ?_) hcq z1 o1 ?_⟩
  · have lt := Heap.lt_size (k1 b u e)
    rw [sortedHeap_old (Nat.ne_of_lt lt) (by rw [size_push']; exact Nat.lt_succ_of_lt lt)]
    exact k2 b u e
  · refine List.Pairwise.imp_of_mem (fun {u v} mu mv le => ?_) o2
    have same : ∀ v ∈ out.toList, TS.intsOf (h1.push (seqObj "list" vs.toArray 0)) v = TS.intsOf s.heap v := fun v mv => by
      obtain ⟨ns, tn, _⟩ := x v (o1.mem_iff.mp mv)
      rw [tn.ints, (tn.keeps fun b u e _ => k2 b u e).ints]
    rw [← same u mu, ← same v mv]
    exact le
end
section
variable {X : Cx}
/-- set() that will hold tuples of ints -/
def rSet0T (P : Program) (w : World) : List V → Hp → VK → Prop := fun xs H Q => xs = [] ∧ ∀ p, H p = none → Q (.ref p) (upd H p (SetTO P w p []))
theorem cr_set0T : CallR X (.type "set") (rSet0T X.prog X.w) := by
  intro pins s σ H xs us Q I r h
  obtain ⟨rfl, q⟩ := h
  cases r
  refine setR_new fun _ => ?_
  exact ⟨.ref _, _, I.laid (t' := s.toks) (fun b u e => Heap.get?_push_of_some _ e) (Nat.le_refl _) (setTO_new (setTR_fresh (w := X.w) (P := X.prog) (Heap.get?_push_size _ rfl)).t0), rfl, q _ (I.hok.fresh (Nat.le_refl _))⟩
theorem setT_full {pins : List (Addr × Obj)} {σ : L2.St} {H : Hp} {s : Shared} (I : Inv X pins σ H s) {a : Addr} {L : List (Addr × List Int)} (ha : H a = some (SetTO X.prog X.w a L)) (hL : ∀ p ∈ L, SqT X.K H p.1 (p.2.map V.int)) : ∃ es ep t, SetTR X.prog X.w s.heap a L es ep t :=
  SetT0.full (I.hok a _ ha).1 fun p m => I.isT (hL p m)
/-- x in a, x a tuple of ints, a a set of such -/
def rInT (K : PySem.W.Frag) (P : Program) (w : World) : R2 := fun x y H Q => ∃ (b a : Addr) (k : List Int) (L : List (Addr × List Int)), x = V.ref b ∧ y = V.ref a ∧ SqT K H b (k.map V.int) ∧ H a = some (SetTO P w a L) ∧ (∀ p ∈ L, SqT K H p.1 (p.2.map V.int)) ∧ Q (.bl (decide (k ∈ L.map (·.2)))) H
theorem or_inT (hu : X.A.units + 64 < cLine) : OpR X (compareOp .In) (rInT X.K X.prog X.w) := by
  intro pins s σ H x y v u Q I rx ry h
  obtain ⟨b, a, k, L, rfl, rfl, hb, ha, hL, q⟩ := h
  cases rx
  cases ry
  obtain ⟨es, ep, t, R⟩ := setT_full I ha hL
  obtain ⟨ob, hob, hex, hd⟩ := R.ob
  have isSet : s.TypeIs (.ref a) "set" := ⟨ob, hob, hex.1⟩
  show wpAny (model X.prog X.w) X.A (do return Value.bool (← contains (.ref a) (.ref b))) _ _ s
  refine wpAny_bind ?_
  unfold contains
  try with_reducible refine wpAny_holding ?_
  refine wpAny_bind (wpAny_specialOf isSet F.slot_set_contains.lookup ?_)
  show wpAny _ _ (if (some (Value.builtin "set.__contains__") == some Value.none) = true then _ else _) _ _ s
  rw [if_neg (by rw [beq_builtin_none]; exact Bool.false_ne_true)]
  refine wpAny_bind (wpAny_callSpecialUnlessNone?_slot (name := Str.ofString "__contains__") isSet F.slot_set_contains (wpAny_call_entry F.slot_set_contains isSet entry_set_contains ?_ (F.args_set_contains_2 _ _)))
  unfold Builtin.«frozenset.__contains__» Builtin.Frozenset.oneOther
  simp only [List.isEmpty_nil, bind_assoc]
  unfold Builtin.Frozenset.addrOf Builtin.Frozenset.withSetAsKey setContains
  refine wpAny_bind (wpAny_pure (wpAny_bind (wpAny_pure (wpAny_bind (wpAny_tryCatch (wpAny_holding ?_))))))
  have small : X.A.in1.units < cLine := by show X.A.units + 1 < cLine; omega
  refine wpAny_bind (wpAny_pyHash_tuple small (I.isT hb) ?_)
  have R2 : SetTR X.prog X.w ({ s with toks := s.toks + (k.length + 1) } : Shared).heap a L es ep t := R
  have fin : ∀ r : Bool, r = decide (k ∈ L.map (·.2)) → EP X pins σ Q (Value.bool r) { s with toks := s.toks + (k.length + 1) } := fun r e => ⟨.bl r, H, I.tok _, rfl, by rw [e]; exact q⟩
  refine wpAny_bind (find_t R2 (I.isT hb) small (fun m i => wpAny_pure ?_) fun m => wpAny_pure ?_)
  · exact wpAny_pure ⟨_, rfl, wpAny_truthy_bool (wpAny_pure (fin true (decide_eq_true m).symm))⟩
  · exact wpAny_pure ⟨_, rfl, wpAny_truthy_bool (wpAny_pure (fin false (decide_eq_false m).symm))⟩
/-- a.add(x) -/
def rAddT (K : PySem.W.Frag) (P : Program) (w : World) : V → List V → Hp → VK → Prop := fun x xs H Q => ∃ (a b : Addr) (k : List Int) (L : List (Addr × List Int)), x = V.ref a ∧ xs = [V.ref b] ∧ SqT K H b (k.map V.int) ∧ H a = some (SetTO P w a L) ∧ (∀ p ∈ L, SqT K H p.1 (p.2.map V.int)) ∧ L.length + 1 < 64 ∧
  ∀ L', (k ∈ L.map (·.2) → L' = L) → (k ∉ L.map (·.2) → L'.Perm ((b, k) :: L)) → Q .non (upd H a (SetTO P w a L'))
theorem mt_addT (hu : X.A.units + 64 < cLine) : MtR X "set.add" (rAddT X.K X.prog X.w) := by
  intro pins s σ H x xs v us Q I rx rxs h
  obtain ⟨a, b, k, L, rfl, rfl, hb, ha, hL, few, q⟩ := h
  cases rx
  obtain rfl := Vals.ref1 rxs
  obtain ⟨es, ep, t, R⟩ := setT_full I ha hL
  obtain ⟨ob, hob, hex, hd⟩ := R.ob
  refine wpAny_call_entry F.slot_set_add ⟨ob, hob, hex.1⟩ F.entry_set_add ?_ (F.args_set_add_2 _ _)
  unfold Builtin.«set.add» Builtin.Frozenset.oneOther
  simp only [List.isEmpty_nil, bind_assoc]
  unfold Builtin.Frozenset.addrOf setAdd
  have small : X.A.in1.units < cLine := by show X.A.units + 1 < cLine; omega
  refine wpAny_bind (wpAny_pure (wpAny_bind (wpAny_pure (wpAny_bind (wpAny_holding (wpAny_bind (wpAny_pyHash_tuple small (I.isT hb) ?_)))))))
  refine add_at (s := { s with toks := s.toks + (k.length + 1) }) R (I.isT hb) small few fun r h' L' es' ep' t' sb R' e1 e2 => ?_
  have he : ∃ u, h'.get? a = some u := by
    obtain ⟨o, ho, _⟩ := R'.ob
    exact ⟨o, ho⟩
  exact wpAny_pure ⟨_, rfl, .non, _, I.write (e := a) (t' := s.toks + (k.length + 1)) (by rw [ha]; trivial) (.inl rfl) (fun b u hb hu => (sb.2 b hb).trans hu) he (setTO_new R'.t0), rfl, q L' e1 e2⟩
/-- sorted(xs), xs a list or a tuple of tuples of ints -/
def rSortQ (K : PySem.W.Frag) (d : Nat) (B : Int) : List V → Hp → VK → Prop := fun vs H Q => ∃ (a : Addr) (xs : List V), vs = [V.ref a] ∧ (SqL K H a xs ∨ SqT K H a xs) ∧ xs.length < 64 ∧ (∀ x ∈ xs, ∃ ns, TupI K H x ns ∧ ns.length = d ∧ TS.Bd B ns) ∧
  ∀ (ys : List V) (p : Addr), ys.Perm xs → ys.Pairwise (fun x y => ∀ n m, TupI K H x n → TupI K H y m → TS.code B n ≤ TS.code B m) → H p = none → Q (.ref p) (upd H p (.lst ys))
theorem cr_sortQ {d : Nat} {B : Int} (hd : 1 ≤ d) : CallR X (.builtin "sorted") (rSortQ X.K d B) := by
  intro pins s σ H vs us Q I r h
  obtain ⟨a, xs, rfl, hs, h64, hx, q⟩ := h
  obtain rfl := Vals.ref1 r
  have main : ∀ (its : List Value) (T : String) (o : Obj) (n : Nat), Vals xs its → xs.length ≤ sizeLine → (T = "list" ∨ T = "tuple") → s.heap.get? a = some o → o.cls = .type T → o.data = .seq its.toArray n → wpAny (model X.prog X.w) X.A (call (.builtin "sorted") [.ref a]) (EP X pins σ Q) X.xe s := by
    intro its T o n rv hz hT ho hc hdt
    obtain ⟨e1, e2⟩ := bkV_refs rv fun x m => by
      obtain ⟨ns, ⟨t, e, _⟩, _⟩ := hx x m
      exact ⟨t, e⟩
    refine sorted_seq (d := d) (B := B) hT ho hc hdt (by rw [← rv.length]; exact h64) hd (fun v hv => ?_) fun h' p out c keep at_ big o1 o2 => ?_
    · obtain ⟨t, rfl⟩ := e2 v hv
      obtain ⟨ns, ⟨t', e, ht⟩, hn, hb⟩ := hx (V.ref t) (by rw [e1]; exact List.mem_map.mpr ⟨_, hv, rfl⟩)
      cases e
      exact ⟨ns, tupI_raw I ht, hn, hb⟩
    · have o3 : ∀ u ∈ out.toList, ∃ a, u = Value.ref a := fun u hu => e2 u (o1.mem_iff.mp hu)
      have perm : (out.toList.map bkV).Perm xs := by rw [e1]; exact o1.map bkV
      have fresh : H p = none := I.hok.fresh big
      refine ⟨.ref p, upd H p (.lst (out.toList.map bkV)), I.laid (t' := s.toks) keep big ⟨by rw [perm.length_eq]; exact hz, out.toList, c, bkV_vals o3, at_⟩, rfl, q _ _ perm ?_ fresh⟩
      rw [List.pairwise_map]
      refine List.Pairwise.imp (fun {u v} le n m hn hm => ?_) o2
      obtain ⟨t1, q1, w1⟩ := hn
      obtain ⟨t2, q2, w2⟩ := hm
      rw [bkV_ref q1, bkV_ref q2, (tupI_raw I w1).ints, (tupI_raw I w2).ints] at le
      exact le
  rcases hs with hs | hs
  · obtain ⟨its, rv, pl, hz⟩ := I.list hs
    obtain ⟨o, ho, hc, n, hdt⟩ := pl.isList
    exact main its "list" o n rv hz (.inl rfl) ho hc hdt
  · obtain ⟨its, rv, pl, hz⟩ := I.tuple hs
    obtain ⟨o, ho, hc, n, hdt⟩ := pl
    exact main its "tuple" o n rv hz (.inr rfl) ho hc hdt
def tAddT (K : PySem.W.Frag) (P : Program) (w : World) (to : TE) (t : TA) : TE := fun σ H Q => to σ H fun x H1 => (∃ a L, x = V.ref a ∧ H1 a = some (SetTO P w a L)) ∧ t σ H1 fun xs H2 => rAddT K P w x xs H2 Q
theorem pe_addT {o e : Expr} {es : List Expr} {to : TE} {t : TA} {apos cpos : Pos} (hu : X.A.units + 64 < cLine) (ho : PE X o to) (ha : PA X (e :: es) t) (base : attributeBase o "add" X.env (eval o X.env) = eval o X.env := by rfl)
    (few : ((backTo cpos (starEach (e :: es) X.env)).all (fun x => !x.1) && (backToKw cpos (keywordEach [] X.env)).all (fun x => x.1.isSome) && decide ((e :: es).length + ([] : List Keyword).length + (if ([] : List Keyword).isEmpty then 0 else 1) < 30)) = true := by rfl)
    (line : (apos.endLine == cpos.line) = true := by rfl) (star : starEach (e :: es) X.env = (false, eval e X.env) :: starEach es X.env := by rfl) (plain : (backTo cpos (starEach es X.env)).any (·.1) = false := by rfl) :
    PE X (.Call (.Attribute o "add" apos) (e :: es) [] cpos) (tAddT X.K X.prog X.w to t) := by
  refine ⟨fun pins s σ H Q I h => wpAny_Call_method_late base few line rfl (thn (ho.run pins s σ H _ I h) fun v s1 ⟨x, H1, I1, r1, ⟨a, L, ex, hL⟩, q1⟩ => ?_)⟩
  subst ex
  cases r1
  have S0 : SetT0 X.prog X.w s1.heap a L := (I1.hok a _ hL).1
  obtain ⟨_, _, _, ⟨ob, hob, hex, hd⟩, _⟩ := S0.ex
  refine ⟨"set", "set.add", F.plainAttrs_set, F.slot_set_add, F.type_set_add, ⟨ob, hob, hex.1⟩, (fun b e => by injection e with e; subst e; exact ⟨ob, hob, hex.2.1⟩), ?_⟩
  have args := ha.run cpos pins s1 σ H1 _ I1 q1
  rw [star] at args ⊢
  refine Calls.callWith_builtin (by show (false || (backTo cpos (starEach es X.env)).any (·.1)) = false; rw [plain]; rfl) (Calls.evalArgs_plain (thn args fun us s2 ⟨vs, H2, I2, r2, q2⟩ => ?_))
  exact mt_addT hu pins s2 σ H2 (.ref a) vs (.ref a) us Q I2 rfl r2 q2
end
end LR
set_option Elab.async false
set_option maxRecDepth 100000
set_option linter.all false
set_option maxHeartbeats 4000000
/-! webs: edges as rows of three ints -/
namespace LR
open PySem PySem.Spec PyProof.Rows L2
theorem Room.u65 {k : Nat} {A : Around} (r : Room k A) : A.units + 65 < cLine := by have := r.un; omega
theorem b_sorted : bootBuiltins "sorted" = some (.builtin "sorted") := by decide +kernel
theorem b_set : bootBuiltins "set" = some (.type "set") := by decide +kernel
/-- an edge in range -/
def EdgeOk (h n : Int) (e : List Int) : Prop := ∃ s r t, e = [s, r, t] ∧ (0 ≤ s ∧ s < n) ∧ (0 ≤ r ∧ r ≤ 2 * h) ∧ (0 ≤ t ∧ t < n)
/-- the order of edges -/
def elt (e f : List Int) : Prop := ∃ s r t s' r' t', e = [s, r, t] ∧ f = [s', r', t'] ∧ (s < s' ∨ (s = s' ∧ (r < r' ∨ (r = r' ∧ t < t'))))
theorem code3 (s r t : Int) : TS.code 64 [s, r, t] = s * 4096 + (r * 64 + t) := by
  show s * 64 ^ 2 + (r * 64 ^ 1 + (t * 64 ^ 0 + 0)) = _
  rw [show (64 : Int) ^ 2 = 4096 by decide, show (64 : Int) ^ 1 = 64 by decide, show (64 : Int) ^ 0 = 1 by decide]
  omega
theorem elt_code {h n : Int} {e f : List Int} (hh : h ≤ 3) (hn : n ≤ 9) (a : EdgeOk h n e) (b : EdgeOk h n f) (le : TS.code 64 e ≤ TS.code 64 f) (ne : e ≠ f) : elt e f := by
  obtain ⟨s, r, t, rfl, hs, hr, ht⟩ := a
  obtain ⟨s', r', t', rfl, hs', hr', ht'⟩ := b
  rw [code3, code3] at le
  refine ⟨s, r, t, s', r', t', rfl, rfl, ?_⟩
  by_cases c1 : s < s'
  · exact .inl c1
  have c2 : s = s' := by omega
  refine .inr ⟨c2, ?_⟩
  by_cases c3 : r < r'
  · exact .inl c3
  have c4 : r = r' := by omega
  refine .inr ⟨c4, ?_⟩
  by_cases c5 : t < t'
  · exact c5
  have c6 : t = t' := by omega
  subst c2 c4 c6
  exact absurd rfl ne
theorem edge_bd {h n : Int} {e : List Int} (hh : h ≤ 3) (hn : n ≤ 9) (a : EdgeOk h n e) : e.length = 3 ∧ TS.Bd 64 e := by
  obtain ⟨s, r, t, rfl, hs, hr, ht⟩ := a
  refine ⟨rfl, fun m hm => ?_⟩
  rcases List.mem_cons.mp hm with q | hm
  · subst q; omega
  rcases List.mem_cons.mp hm with q | hm
  · subst q; omega
  rcases List.mem_cons.mp hm with q | hm
  · subst q; omega
  cases hm
/-- at these addresses lie these tuples -/
def RowsH (H : Hp) (ts : List Addr) (es : List (List Int)) : Prop := ts.length = es.length ∧ ∀ (k : Nat) (t : Addr) (e : List Int), ts[k]? = some t → es[k]? = some e → H t = some (.tup (e.map V.int))
theorem RowsH.same {H H' ts es} (s : Same H H') (h : RowsH H ts es) : RowsH H' ts es := ⟨h.1, fun k t e a b => s _ _ (h.2 k t e a b)⟩
theorem RowsH.keep {H H' ts es q} (s : Keep q H H') (hq : ∃ l, H q = some (.lst l)) (h : RowsH H ts es) : RowsH H' ts es := by
  obtain ⟨l, hq⟩ := hq
  exact ⟨h.1, fun k t e a b => s _ (ne_of (h.2 k t e a b) hq (by intro z; cases z)) _ (h.2 k t e a b)⟩
theorem RowsH.nil {H : Hp} : RowsH H [] [] := ⟨rfl, fun k t e a _ => by simp at a⟩
theorem RowsH.snoc {H ts es t e} (h : RowsH H ts es) (ht : H t = some (.tup (e.map V.int))) : RowsH H (ts ++ [t]) (es ++ [e]) := by
  refine ⟨by rw [List.length_append, List.length_append, h.1]; rfl, fun k t' e' a b => ?_⟩
  by_cases c : k < ts.length
  · rw [List.getElem?_append_left c] at a
    rw [List.getElem?_append_left (by have := h.1; omega)] at b
    exact h.2 k t' e' a b
  · rw [List.getElem?_append_right (by omega)] at a
    rw [List.getElem?_append_right (by have := h.1; omega), ← h.1] at b
    have : k = ts.length := by
      have := (List.getElem?_eq_some_iff.mp a).1
      simp at this; omega
    subst this
    rw [Nat.sub_self] at a b
    cases a; cases b
    exact ht
theorem RowsH.get {H ts es} (h : RowsH H ts es) {k : Nat} {e : List Int} (a : es[k]? = some e) : ∃ t, ts[k]? = some t ∧ H t = some (.tup (e.map V.int)) := by
  have hk : k < ts.length := by rw [h.1]; exact (List.getElem?_eq_some_iff.mp a).1
  exact ⟨_, List.getElem?_eq_getElem hk, h.2 k _ e (List.getElem?_eq_getElem hk) a⟩
theorem RowsH.getT {H ts es} (h : RowsH H ts es) {k : Nat} {t : Addr} (a : ts[k]? = some t) : ∃ e, es[k]? = some e ∧ H t = some (.tup (e.map V.int)) := by
  have hk : k < es.length := by rw [← h.1]; exact (List.getElem?_eq_some_iff.mp a).1
  exact ⟨_, List.getElem?_eq_getElem hk, h.2 k t _ a (List.getElem?_eq_getElem hk)⟩
def unI : V → Int
  | .int i => i
  | _ => 0
def unR : V → Addr
  | .ref a => a
  | _ => 0
def rowH (H : Hp) (t : Addr) : List Int := match H t with
  | some (.tup xs) => xs.map unI
  | _ => []
theorem rowH_of {H : Hp} {t : Addr} {e : List Int} (h : H t = some (.tup (e.map V.int))) : rowH H t = e := by
  unfold rowH
  rw [h]
  show (e.map V.int).map unI = e
  rw [List.map_map]
  exact List.map_id' e
theorem RowsH.rows {H ts es} (h : RowsH H ts es) : es = ts.map (rowH H) := by
  apply List.ext_getElem?
  intro k
  rw [List.getElem?_map]
  cases a : ts[k]? with
  | none =>
    have : ts.length ≤ k := List.getElem?_eq_none_iff.mp a
    rw [h.1] at this
    rw [List.getElem?_eq_none_iff.mpr this]; rfl
  | some t =>
    obtain ⟨e, b, c⟩ := h.getT a
    rw [b]
    show some e = some (rowH H t)
    rw [rowH_of c]
theorem RowsH.of {H ts es} (h : RowsH H ts es) {us : List Addr} (hu : ∀ u ∈ us, u ∈ ts) : RowsH H us (us.map (rowH H)) := by
  refine ⟨by rw [List.length_map], fun k t e a b => ?_⟩
  rw [List.getElem?_map, a] at b
  cases b
  have hm := hu t (List.mem_of_getElem? a)
  obtain ⟨j, hj⟩ := List.mem_iff_getElem?.mp hm
  obtain ⟨e, _, c⟩ := h.getT hj
  rw [rowH_of c]; exact c
/-- what sorted leaves: the same addresses in another order -/
theorem RowsH.perm {H ts es} (h : RowsH H ts es) {ys : List V} (p : ys.Perm (ts.map V.ref)) : ∃ us, ys = us.map V.ref ∧ us.Perm ts ∧ RowsH H us (us.map (rowH H)) ∧ (us.map (rowH H)).Perm es := by
  have e1 : (ts.map V.ref).map unR = ts := by rw [List.map_map]; exact List.map_id' ts
  have p1 : (ys.map unR).Perm ts := by have := p.map unR; rwa [e1] at this
  have e2 : ys = (ys.map unR).map V.ref := by
    rw [List.map_map]
    refine (List.map_congr_left (fun y hy => ?_)).trans (List.map_id' ys) |>.symm
    obtain ⟨t, _, rfl⟩ := List.mem_map.mp (p.mem_iff.mp hy)
    rfl
  refine ⟨ys.map unR, e2, p1, h.of fun u hu => p1.mem_iff.mp hu, ?_⟩
  have := p1.map (rowH H)
  rwa [← h.rows] at this
/-- a web of height h, n nodes and these edges stands at x; ss: its edges in order -/
def WebAt (C : Addr) (H : Hp) (x : Addr) (h n : Int) (ss : List (List Int)) : Prop := ∃ dx te us, H x = some (.ins C dx [("height", .int h), ("size", .int n), ("edges", .ref te)]) ∧ H te = some (.tup (us.map V.ref)) ∧ RowsH H us ss
theorem WebAt.same {C H H' x h n ss} (s : Same H H') (a : WebAt C H x h n ss) : WebAt C H' x h n ss := by
  obtain ⟨dx, te, us, h1, h2, h3⟩ := a
  exact ⟨dx, te, us, s _ _ h1, s _ _ h2, h3.same s⟩
theorem WebAt.keep {C H H' x h n ss q} (s : Keep q H H') (hq : ∃ l, H q = some (.lst l)) (a : WebAt C H x h n ss) : WebAt C H' x h n ss := by
  obtain ⟨dx, te, us, h1, h2, h3⟩ := a
  obtain ⟨l, hl⟩ := id hq
  exact ⟨dx, te, us, s _ (ne_of h1 hl (by intro z; cases z)) _ h1, s _ (ne_of h2 hl (by intro z; cases z)) _ h2, h3.keep s hq⟩
theorem take_mem {α : Type} {es : List α} {i : Nat} {e k : α} (h : es[i]? = some e) : k ∈ es.take (i + 1) ↔ k = e ∨ k ∈ es.take i := by
  rw [List.take_succ, h]
  show k ∈ es.take i ++ [e] ↔ _
  rw [List.mem_append, List.mem_singleton]
  exact Or.comm
end LR
set_option Elab.async false
set_option maxRecDepth 100000
set_option linter.all false
set_option maxHeartbeats 4000000
/-! super().m(..) where a def of the program is meant -/
namespace LR
open PySem PySem.Spec PyProof.Rows L2
/-- the def that super().m means in the class at D, for an instance of the class at C -/
structure SupTo (P : Program) (w : World) (K : PySem.W.Frag) (mg : Str → Option Value) (base : Heap) (CX : CXT) (k : Nat) (C D : Addr) (m : Str) (sp : Sp) : Prop where
  ex : ∃ (f : Addr) (fd : FuncData) (ps : List Str), PySem.W.ks_superIn K C D m = some (some (.ref f)) ∧ PySem.W.typeIn K (.ref f) = some (.type "function") ∧ PySem.W.fnIn K f = true ∧ FnOk P w K mg base CX k f fd ps sp ∧ Binds K fd ps []
  sub : PySem.W.mroIn K C (.ref D) = some true
  at_ : (m == ("__class__" : Str)) = false
structure SupAt (K : PySem.W.Frag) (C D : Addr) (m qual name : Str) (st : Stmt) (ps : List Str) : Prop where
  ex : ∃ (f : Addr) (fd : FuncData), PySem.W.ks_superIn K C D m = some (some (.ref f)) ∧ PySem.W.typeIn K (.ref f) = some (.type "function") ∧ PySem.W.fnIn K f = true ∧ Fun K name qual st f fd ∧ Binds K fd ps []
  sub : PySem.W.mroIn K C (.ref D) = some true
  at_ : (m == ("__class__" : Str)) = false
def tSupM (C : Addr) (i : Nat) (sp : Sp) (E : XK) (ta : TA) : TE := fun σ H Q => ∃ (x dx : Addr) (fs : List (Str × V)), σ[i]? = some (some (.ref x)) ∧ H x = some (.ins C dx fs) ∧ ta σ H fun vs H1 => sp (.ref x :: vs) H1 Q E
section
variable {X : Cx} {body : List Stmt} {f cc cda D C : Addr} {fd : FuncData} {me m : Str} {p0 p1 pos apos : Pos} {i k j : Nat} {e : Expr} {es : List Expr} {ta : TA} {pl : Sem Bool} {sp : Sp} {CX : CXT} {E : XK}
theorem ne_supM (S : SupIn X.prog X.K X.mg f cc cda D fd me) (T : SupTo X.prog X.w X.K X.mg X.base CX k C D m sp) (hr : Room j X.A) (hk : k ≤ j) (hx : Passes CX X E) (ha : PA X (e :: es) ta)
    (hi : X.N[i]? = some me := by rfl) (hka : X.env.kindOf me = some .local := by rfl)
    (hks : X.env.kindOf "super" = some .globalImplicit := by rfl) (hkc : X.env.kindOf "__class__" = some .free := by rfl) (hfu : X.env.func = some f := by rfl) (hco : X.env.code = .ref cda := by rfl) (hcl : X.env.cells.lookup ("__class__" : Str) = some cc := by rfl)
    (hst : starEach (e :: es) X.env = (false, eval e X.env) :: starEach es X.env := by rfl) (hpl : (backTo pos (starEach es X.env)).any (·.1) = false := by rfl)
    (ht : eval (.Call (.Attribute (.Call (.Name "super" p0) [] [] p1) m apos) (e :: es) [] pos) X.env = (do
      let ov ← attributeBase (.Call (.Name "super" p0) [] [] p1) m X.env (eval (.Call (.Name "super" p0) [] [] p1) X.env)
      standAt apos.atName
      let (f, first) ← holding [ov] (getMethod ov m pl)
      callWith pos f first (backTo pos (starEach (e :: es) X.env)) []) := by rfl) :
    NE X body (.Call (.Attribute (.Call (.Name "super" p0) [] [] p1) m apos) (e :: es) [] pos) (tSupM C i sp E ta) := by
  refine ⟨fun pins s σ H Q I h => ?_⟩
  obtain ⟨x, dx, fs, hσ, hxI, q⟩ := h
  obtain ⟨g, fd2, ps2, sIn, sTy, sFn, F, sB⟩ := T.ex
  obtain ⟨mA, J0, _⟩ := ins_get I.hok hxI
  obtain ⟨od, J0, _⟩ := J0.look
  refine PySem.ks_wpAt_MethodCall (pl := pl) (super_base S I J0.at_ J0.cls (fun c z => ?_) T.sub hi hσ hka hks hkc hfu hco hcl T.at_ (fun so h' hso J k2 => ?_)) ht
  · have := J0.no
    unfold PySem.W.notCls at this
    rw [z] at this
    cases this
  have KX := J.kIn
  obtain ⟨mB, J1, _⟩ := ins_get J.hok hxI
  obtain ⟨od2, IA, _⟩ := J1.look
  cases hc : PySem.W.clsIn X.K C with
  | none => unfold PySem.W.ks_superIn at sIn; rw [hc] at sIn; cases sIn
  | some cd =>
    unfold PySem.W.ks_superIn at sIn
    rw [hc] at sIn
    obtain ⟨ofn, hofn, hcfn⟩ : ∃ ofn, h'.get? g = some ofn ∧ ofn.cls = .type "function" := by
      have t1 : (X.K.lookup g).map (·.cls) = some (.type "function") := sTy
      cases z : X.K.lookup g with
      | none => rw [z] at t1; cases t1
      | some ofn => rw [z] at t1; exact ⟨ofn, KX _ _ z, Option.some.inj t1⟩
    obtain ⟨hh, gg, d, t, os⟩ := s
    refine PySem.ks_wpAny_getMethod_super hso (PySem.W.looks_opaque KX S.any) (l₀ := cd.mro) (fun A Q E s k q => wpAny_bind ((PySem.W.looks_clsIn KX hc) A _ E s k (wpAny_pure q))) rfl KX sIn hofn hcfn (PySem.W.ks_ne KX IA hc) T.at_ ?_
    have J2 := pin_newA (t' := t + 1) J (fun b u z => Heap.get?_push_of_some (PySem.W.methodObj (.ref g) (.ref x)) z) (Nat.le_refl _) (Heap.get?_push_at rfl rfl) (fun v z => by cases z)
    have hq := ClX.pin_at J2
    have hL : h'.objs.size ≠ X.env.locals := (J2.pin (h'.objs.size, PySem.W.methodObj (.ref g) (.ref x)) (List.mem_append_right _ List.mem_cons_self)).2.2.1
    refine PySem.W.callWith_M (K := X.K) (h₀ := X.base) (first := []) I.ok.mod.kin (news_at hL (ClX.base_none J (Nat.le_refl _)) hq) List.mem_cons_self sFn (thn (ha.run pos _ _ σ H _ J2 q) fun us s3 ⟨vs, H1, I3, rv, q1⟩ => ⟨⟨ClX.pin_at I3, I3.kIn⟩, ?_⟩) hst hpl
    have z : wpAny (model X.prog X.w) X.A (call (.ref h'.objs.size) us) (EP X ((h'.objs.size, PySem.W.methodObj (.ref g) (.ref x)) :: (so, PySem.W.ks_superObj D x C) :: pins) σ Q) X.xe s3 :=
      wpAny_call (PySem.W.method_call (ClX.pin_at I3) (codeAny_mono (F.run X.A X.stack s3 H1 ⟨.ref x :: us, []⟩ (.ref x :: us) (.ref x :: vs) Q E (hr.mono hk) I3.env0 ?_ (.cons rfl rv) q1) fun r s' hq' => ?_))
    · refine thn z fun v s4 hh => ?_
      obtain ⟨y, H4, I4, ry, q4⟩ := hh
      exact ⟨y, H4, ClX.unpin (ClX.unpin I4), ry, q4⟩
    · have hl := F.len _ _ _ _ q1
      have rl : (Value.ref x :: us).length = ps2.length := by rw [← hl, List.length_cons, List.length_cons, rv.length]
      have b := sB s3 (.ref x :: us) I3.kIn (by rw [List.append_nil]; exact rl)
      rw [List.append_nil] at b
      exact b
    · cases r with
      | error e => exact hx _ σ _ _ e s' I3 hq'
      | ok fl =>
        cases fl with
        | ret u => exact I3.after hq'
        | next => exact hq'.elim
        | brk => exact hq'.elim
        | cont => exact hq'.elim
end
structure MakInC (P : Program) (K : PySem.W.Frag) (mg : Str → Option Value) (x : Str) (C : Addr) (qual : Str) (st : Stmt) (ps : List Str) : Prop where
  ini : ∃ (f cc cda : Addr) (fd : FuncData), SupIn P K mg f cc cda C fd "self" ∧ Mk K C f ∧ mg x = some (.ref C) ∧ Binds K fd ps [] ∧
    ∃ (oc : Value) (od an : Option Addr) (kV doc pm ct : Value) (osl : Array (Option Value)), fd = PySem.W.ksFn "__init__" qual (defArgs st) (defBody st) (defScope st) .none kV doc pm an (.ref cda) ct cc ∧ K.lookup f = some ⟨oc, od, .func fd, osl⟩ ∧ PySem.W.codeIn K (.ref cda) qual = true
structure MetInC (P : Program) (K : PySem.W.Frag) (mg : Str → Option Value) (C : Addr) (m qual : Str) (st : Stmt) (ps : List Str) : Prop where
  ini : ∃ (f cc cda : Addr) (fd : FuncData), SupIn P K mg f cc cda C fd "self" ∧ Meth K C m f ∧ Binds K fd ps [] ∧
    ∃ (oc : Value) (od an : Option Addr) (kV doc pm ct : Value) (osl : Array (Option Value)), fd = PySem.W.ksFn m qual (defArgs st) (defBody st) (defScope st) .none kV doc pm an (.ref cda) ct cc ∧ K.lookup f = some ⟨oc, od, .func fd, osl⟩ ∧ PySem.W.codeIn K (.ref cda) qual = true
section
variable {P : Program} {w : World} {K : PySem.W.Frag} {mg : Str → Option Value} {base : Heap}
theorem MetInC.met {m qual : Str} {C : Addr} {st : Stmt} {N ps : List Str} {k : Nat} {sp : Sp} (c : Cls K C) (D : MetInC P K mg C m qual st ps) (S : CScope N ps (defScope st)) (len : ∀ vs H Q E, sp vs H Q E → vs.length = ps.length)
    (hbody : ∀ (f cc cda : Addr) (fd : FuncData) (A : Around) (outer : List Env) (s : Shared) (H : Hp) (vs : List V) (Q : VK) (E : XK), SupIn P K mg f cc cda C fd "self" → Room k (A.deeper (PySem.W.ksEnv qual (defScope st) s.heap.objs.size f (.ref cda) cc)) → sp vs H Q E →
      ∃ t, NSs (cxC CX0 P w K mg base N qual (defScope st) f (.ref cda) cc A outer s H E) (defBody st) (defBody st) t ∧ t { nx := fun _ H' => Q .non H', rt := Q } (L2.start N vs) H) : Met P w K mg base (k + 1) C m sp := by
  obtain ⟨f, cc, cda, fd, S1, M, b, oc, od, an, kV, doc, pm, ct, osl, rfl, lk, hcd⟩ := D.ini
  obtain ⟨cl, cld, csl, hcell⟩ := S1.cell
  exact ⟨f, _, ps, c, M, fn_ofC lk hcell hcd S len (fun A outer s H vs Q E hr h => hbody f cc cda _ A outer s H vs Q E S1 hr h), b⟩
end
end LR
set_option Elab.async false
set_option maxRecDepth 100000
set_option linter.all false
set_option maxHeartbeats 4000000
/-! games: a web with owners; true stands for A -/
namespace LR
open PySem PySem.Spec PyProof.Rows L2
theorem op_notInK {X : Cx} {K : PySem.W.Frag} (hk : X.K = K) : OpR X (compareOp .NotIn) (rIn K true) := hk ▸ op_notIn_seq
theorem b_any : bootBuiltins "any" = some (.builtin "any") := by decide +kernel
def ltr (b : Bool) : Nat := if b then 65 else 66
def strO (os : List Bool) : Str := ⟨(os.map ltr).toArray⟩
theorem strO_len (os : List Bool) : (strO os).length = os.length := by
  show (strO os).cps.size = _
  unfold strO
  simp
theorem strO_snoc (os : List Bool) (b : Bool) : strO os ++ (⟨#[ltr b]⟩ : Str) = strO (os ++ [b]) := by
  show (⟨(strO os).cps ++ #[ltr b]⟩ : Str) = _
  unfold strO
  simp
def GameAt (C : Addr) (H : Hp) (x : Addr) (h : Int) (os : List Bool) (ss : List (List Int)) : Prop := ∃ dx te us, H x = some (.ins C dx [("height", .int h), ("size", .int os.length), ("edges", .ref te), ("owners", .str (strO os))]) ∧ H te = some (.tup (us.map V.ref)) ∧ RowsH H us ss
theorem GameAt.same {C H H' x h n ss} (s : Same H H') (a : GameAt C H x h n ss) : GameAt C H' x h n ss := by
  obtain ⟨dx, te, us, h1, h2, h3⟩ := a
  exact ⟨dx, te, us, s _ _ h1, s _ _ h2, h3.same s⟩
theorem GameAt.keep {C H H' x h n ss q} (s : Keep q H H') (hq : ∃ l, H q = some (.lst l)) (a : GameAt C H x h n ss) : GameAt C H' x h n ss := by
  obtain ⟨dx, te, us, h1, h2, h3⟩ := a
  obtain ⟨l, hl⟩ := id hq
  exact ⟨dx, te, us, s _ (ne_of h1 hl (by intro z; cases z)) _ h1, s _ (ne_of h2 hl (by intro z; cases z)) _ h2, h3.keep s hq⟩
end LR
set_option Elab.async false
set_option maxRecDepth 100000
set_option linter.all false
set_option maxHeartbeats 4000000
namespace LR
open PySem PySem.Spec PyProof.Rows L2
/-! # the data layer: values as data, a def's slots as an environment of data -/
inductive D where
  | non | bl (b : Bool) | int (i : Int) | str (x : Str) | lst (l : List D) | tup (l : List D)
  | ins (C : Addr) (ks : List Str) (ds : List D) | cls (a : Addr) | ty (n : String) | dic (ks : List Int) (ds : List D)
mutual
inductive Is (K : PySem.W.Frag) (B : Hp) : V → D → Prop
  | non : Is K B .non .non
  | bl (b : Bool) : Is K B (.bl b) (.bl b)
  | int (i : Int) : Is K B (.int i) (.int i)
  | str (x : Str) : Is K B (.str x) (.str x)
  | lst {p : Addr} {xs : List V} {ds : List D} (h : B p = some (.lst xs)) (a : Iss K B xs ds) (z : xs.length ≤ 100000) : Is K B (.ref p) (.lst ds)
  | tup {p : Addr} {xs : List V} {ds : List D} (h : B p = some (.tup xs)) (a : Iss K B xs ds) (z : xs.length ≤ 100000) : Is K B (.ref p) (.tup ds)
  | ins {p C dx : Addr} {fs : List (Str × V)} {ks : List Str} {ds : List D} (h : B p = some (.ins C dx fs)) (k : fs.map (·.1) = ks) (a : Iss K B (fs.map (·.2)) ds) (cl : Cls K C) (na : ∀ f ∈ ks, NoAttr K C f) : Is K B (.ref p) (.ins C ks ds)
  | cls (a : Addr) : Is K B (.ref a) (.cls a)
  | ty (n : String) : Is K B (.ty n) (.ty n)
  | dic {p : Addr} {kvs : List (Key × V)} {ks : List Int} {ds : List D} (h : B p = some (.dK kvs)) (k : kvs.map (·.1) = ks.map Sum.inl) (a : Iss K B (kvs.map (·.2)) ds) (z : kvs.length ≤ 100000) : Is K B (.ref p) (.dic ks ds)
inductive Iss (K : PySem.W.Frag) (B : Hp) : List V → List D → Prop
  | nil : Iss K B [] []
  | cons {x : V} {d : D} {xs : List V} {ds : List D} (h : Is K B x d) (t : Iss K B xs ds) : Iss K B (x :: xs) (d :: ds)
end
section
variable {K : PySem.W.Frag} {B B' : Hp}
mutual
theorem Is.mono (s : Same B B') : ∀ {x d}, Is K B x d → Is K B' x d
  | _, _, .non => .non
  | _, _, .bl b => .bl b
  | _, _, .int i => .int i
  | _, _, .str x => .str x
  | _, _, .lst h a z => .lst (s _ _ h) (a.mono s) z
  | _, _, .tup h a z => .tup (s _ _ h) (a.mono s) z
  | _, _, .ins h k a c n => .ins (s _ _ h) k (a.mono s) c n
  | _, _, .cls a => .cls a
  | _, _, .ty n => .ty n
  | _, _, .dic h k a z => .dic (s _ _ h) k (a.mono s) z
theorem Iss.mono (s : Same B B') : ∀ {xs ds}, Iss K B xs ds → Iss K B' xs ds
  | _, _, .nil => .nil
  | _, _, .cons h t => .cons (h.mono s) (t.mono s)
end
theorem Iss.length {xs ds} (h : Iss K B xs ds) : xs.length = ds.length := by
  revert ds; induction xs with
  | nil => intro ds h; cases h; rfl
  | cons x xs ih => intro ds h; cases h with | cons a t => rw [List.length_cons, List.length_cons, ih t]
theorem Iss.get : ∀ {xs ds} (h : Iss K B xs ds) {i : Nat} {x : V}, xs[i]? = some x → ∃ d, ds[i]? = some d ∧ Is K B x d := by
  intro xs; induction xs with
  | nil => intro ds h i x e; simp at e
  | cons y xs ih =>
    intro ds h i x e
    cases h with
    | cons a t =>
      cases i with
      | zero => exact ⟨_, rfl, by simp at e; subst e; exact a⟩
      | succ i => exact ih t (by simpa using e)
theorem Iss.getD {xs ds} (h : Iss K B xs ds) {i : Nat} {d : D} (e : ds[i]? = some d) : ∃ x, xs[i]? = some x ∧ Is K B x d := by
  have hl := h.length
  have hi : i < xs.length := by rw [hl]; exact (List.getElem?_eq_some_iff.mp e).1
  obtain ⟨d', e', a⟩ := h.get (List.getElem?_eq_getElem hi)
  rw [e] at e'; cases e'
  exact ⟨_, List.getElem?_eq_getElem hi, a⟩
theorem Iss.append : ∀ {xs ds ys es}, Iss K B xs ds → Iss K B ys es → Iss K B (xs ++ ys) (ds ++ es)
  | _, _, _, _, .nil, h => h
  | _, _, _, _, .cons a t, h => .cons a (t.append h)
theorem Iss.one {x d} (h : Is K B x d) : Iss K B [x] [d] := .cons h .nil
theorem Iss.take {xs ds} (n : Nat) (h : Iss K B xs ds) : Iss K B (xs.take n) (ds.take n) := by
  induction n generalizing xs ds with
  | zero => exact .nil
  | succ n ih => cases h with
    | nil => exact .nil
    | cons a t => exact .cons a (ih t)
theorem Iss.drop {xs ds} (n : Nat) (h : Iss K B xs ds) : Iss K B (xs.drop n) (ds.drop n) := by
  induction n generalizing xs ds with
  | zero => exact h
  | succ n ih => cases h with
    | nil => exact .nil
    | cons a t => exact ih t
theorem Iss.set {xs ds} (h : Iss K B xs ds) {y e} (n : Nat) (a : Is K B y e) : Iss K B (xs.set n y) (ds.set n e) := by
  induction n generalizing xs ds with
  | zero => cases h with
    | nil => exact .nil
    | cons b t => exact .cons a t
  | succ n ih => cases h with
    | nil => exact .nil
    | cons b t => exact .cons b (ih t)
theorem Iss.reverse {xs ds} (h : Iss K B xs ds) : Iss K B xs.reverse ds.reverse := by
  induction xs generalizing ds with
  | nil => cases h; exact .nil
  | cons x xs ih => cases h with
    | cons a t => rw [List.reverse_cons, List.reverse_cons]; exact (ih t).append (.one a)
theorem iss_ints : ∀ l : List Int, Iss K B (l.map V.int) (l.map D.int)
  | [] => .nil
  | i :: r => .cons (.int i) (iss_ints r)
theorem Is.lstE {v l} (h : Is K B v (.lst l)) : ∃ p xs, v = .ref p ∧ B p = some (.lst xs) ∧ Iss K B xs l ∧ xs.length ≤ 100000 := by
  cases h with | lst h a z => exact ⟨_, _, rfl, h, a, z⟩
theorem Is.tupE {v l} (h : Is K B v (.tup l)) : ∃ p xs, v = .ref p ∧ B p = some (.tup xs) ∧ Iss K B xs l ∧ xs.length ≤ 100000 := by
  cases h with | tup h a z => exact ⟨_, _, rfl, h, a, z⟩
theorem Is.intE {v i} (h : Is K B v (.int i)) : v = .int i := by cases h; rfl
theorem Is.blE {v b} (h : Is K B v (.bl b)) : v = .bl b := by cases h; rfl
theorem Is.strE {v b} (h : Is K B v (.str b)) : v = .str b := by cases h; rfl
theorem Is.nonE {v} (h : Is K B v .non) : v = .non := by cases h; rfl
end
/-! ## the environment -/
/-- what a def may change: a list, a dict with ints for keys, nested lists (da: a part that is data, tr: a list, tu: a tuple that holds lists) -/
inductive Ow where
  | ls (xs : List D) | dk (ks : List Int) (ds : List D) | da (x : D) | tr (ts : List Ow) | tu (ts : List Ow)
mutual
def Ow.d : Ow → D
  | .ls l => .lst l
  | .dk ks ds => .dic ks ds
  | .da x => x
  | .tr ts => .lst (owds ts)
  | .tu ts => .tup (owds ts)
def owds : List Ow → List D
  | [] => []
  | t :: ts => t.d :: owds ts
end
mutual
inductive OwIs (K : PySem.W.Frag) (B H : Hp) : V → Ow → List Addr → Prop
  | l {p : Addr} {xs : List V} {l : List D} (h : H p = some (.lst xs)) (i : Iss K B xs l) (z : xs.length ≤ 100000) : OwIs K B H (.ref p) (.ls l) [p]
  | dk {p : Addr} {kvs : List (Key × V)} {ks : List Int} {ds : List D} (h : H p = some (.dK kvs)) (k : kvs.map (·.1) = ks.map Sum.inl) (i : Iss K B (kvs.map (·.2)) ds) (z : kvs.length ≤ 100000) : OwIs K B H (.ref p) (.dk ks ds) [p]
  | da {v : V} {x : D} (i : Is K B v x) : OwIs K B H v (.da x) []
  | tr {p : Addr} {vs : List V} {ts : List Ow} {fs : List Addr} (h : H p = some (.lst vs)) (a : OwIss K B H vs ts fs) (z : vs.length ≤ 100000) : OwIs K B H (.ref p) (.tr ts) (p :: fs)
  | tu {p : Addr} {vs : List V} {ts : List Ow} {fs : List Addr} (h : B p = some (.tup vs)) (a : OwIss K B H vs ts fs) (z : vs.length ≤ 100000) : OwIs K B H (.ref p) (.tu ts) fs
inductive OwIss (K : PySem.W.Frag) (B H : Hp) : List V → List Ow → List Addr → Prop
  | nil : OwIss K B H [] [] []
  | cons {v : V} {t : Ow} {fs : List Addr} {vs : List V} {ts : List Ow} {gs : List Addr} (h : OwIs K B H v t fs) (r : OwIss K B H vs ts gs) : OwIss K B H (v :: vs) (t :: ts) (fs ++ gs)
end
section
variable {K : PySem.W.Frag} {B B' H H' : Hp}
mutual
theorem OwIs.mono (s : Same B B') : ∀ {v o fs}, OwIs K B H v o fs → (∀ a ∈ fs, H' a = H a) → OwIs K B' H' v o fs
  | _, _, _, .l h i z, k => .l (by rw [k _ List.mem_cons_self]; exact h) (i.mono s) z
  | _, _, _, .dk h q i z, k => .dk (by rw [k _ List.mem_cons_self]; exact h) q (i.mono s) z
  | _, _, _, .da i, _ => .da (i.mono s)
  | _, _, _, .tr h a z, k => .tr (by rw [k _ List.mem_cons_self]; exact h) (a.mono s fun b hb => k b (List.mem_cons_of_mem _ hb)) z
  | _, _, _, .tu h a z, k => .tu (s _ _ h) (a.mono s k) z
theorem OwIss.mono (s : Same B B') : ∀ {v o fs}, OwIss K B H v o fs → (∀ a ∈ fs, H' a = H a) → OwIss K B' H' v o fs
  | _, _, _, .nil, _ => .nil
  | _, _, _, .cons h r, k => .cons (h.mono s fun b hb => k b (List.mem_append_left _ hb)) (r.mono s fun b hb => k b (List.mem_append_right _ hb))
end
mutual
theorem OwIs.is_ (s : Same B B') : ∀ {v o fs}, OwIs K B H v o fs → (∀ a ∈ fs, B' a = H a) → Is K B' v o.d
  | _, _, _, .l h i z, k => .lst (by rw [k _ List.mem_cons_self]; exact h) (i.mono s) z
  | _, _, _, .dk h q i z, k => .dic (by rw [k _ List.mem_cons_self]; exact h) q (i.mono s) z
  | _, _, _, .da i, _ => i.mono s
  | _, _, _, .tr h a z, k => .lst (by rw [k _ List.mem_cons_self]; exact h) (a.is_ s fun b hb => k b (List.mem_cons_of_mem _ hb)) z
  | _, _, _, .tu h a z, k => .tup (s _ _ h) (a.is_ s k) z
theorem OwIss.is_ (s : Same B B') : ∀ {v o fs}, OwIss K B H v o fs → (∀ a ∈ fs, B' a = H a) → Iss K B' v (owds o)
  | _, _, _, .nil, _ => .nil
  | _, _, _, .cons h r, k => .cons (h.is_ s fun b hb => k b (List.mem_append_left _ hb)) (r.is_ s fun b hb => k b (List.mem_append_right _ hb))
end
mutual
theorem OwIs.cell : ∀ {v o fs}, OwIs K B H v o fs → ∀ a ∈ fs, (∃ l, H a = some (.lst l)) ∨ ∃ l, H a = some (.dK l)
  | _, _, _, .l h _ _, a, m => by rw [List.mem_singleton.mp m]; exact .inl ⟨_, h⟩
  | _, _, _, .dk h _ _ _, a, m => by rw [List.mem_singleton.mp m]; exact .inr ⟨_, h⟩
  | _, _, _, .da _, a, m => nomatch m
  | _, _, _, .tr h r _, a, m => (List.mem_cons.mp m).elim (fun e => by rw [e]; exact .inl ⟨_, h⟩) (r.cell a)
  | _, _, _, .tu _ r _, a, m => r.cell a m
theorem OwIss.cell : ∀ {v o fs}, OwIss K B H v o fs → ∀ a ∈ fs, (∃ l, H a = some (.lst l)) ∨ ∃ l, H a = some (.dK l)
  | _, _, _, .nil, a, m => nomatch m
  | _, _, _, .cons h r, a, m => (List.mem_append.mp m).elim (h.cell a) (r.cell a)
end
theorem OwIs.lE {v l fs} (h : OwIs K B H v (.ls l) fs) : ∃ p xs, v = .ref p ∧ fs = [p] ∧ H p = some (.lst xs) ∧ Iss K B xs l ∧ xs.length ≤ 100000 := by
  cases h with
  | l h i z => exact ⟨_, _, rfl, rfl, h, i, z⟩
theorem OwIs.trE {v ts fs} (h : OwIs K B H v (.tr ts) fs) : ∃ p vs gs, v = .ref p ∧ fs = p :: gs ∧ H p = some (.lst vs) ∧ OwIss K B H vs ts gs ∧ vs.length ≤ 100000 := by
  cases h with
  | tr h a z => exact ⟨_, _, _, rfl, rfl, h, a, z⟩
theorem OwIss.length : ∀ {v o fs}, OwIss K B H v o fs → v.length = o.length
  | _, _, _, .nil => rfl
  | _, _, _, .cons _ r => congrArg (· + 1) r.length
theorem OwIss.append : ∀ {v o fs v' o' fs'}, OwIss K B H v o fs → OwIss K B H v' o' fs' → OwIss K B H (v ++ v') (o ++ o') (fs ++ fs')
  | _, _, _, _, _, _, .nil, h => h
  | _, _, _, _, _, _, .cons a t, h => by rw [List.append_assoc]; exact .cons a (t.append h)
theorem OwIss.ofD : ∀ {vs l}, Iss K B vs l → OwIss K B H vs (l.map .da) []
  | _, _, .nil => .nil
  | _, _, .cons h t => .cons (fs := []) (.da h) (OwIss.ofD t)
end
inductive Ev where
  | any | d (x : D) | own (o : Ow) (lent : Option Nat := none) | pool | scr (ns : List Int) | err (a : Addr) (dd : Option Addr) (fs : List (Str × V)) | raw (v : V)
def nth : List Ev → Nat → Ev
  | [], _ => .any
  | e :: _, 0 => e
  | _ :: r, n + 1 => nth r n
def sth : List Ev → Nat → Ev → List Ev
  | [], _, _ => []
  | _ :: r, 0, x => x :: r
  | e :: r, n + 1, x => e :: sth r n x
theorem nth_sth_eq : ∀ {env : List Ev} {i : Nat} {x : Ev}, i < env.length → nth (sth env i x) i = x
  | [], _, _, h => absurd h (Nat.not_lt_zero _)
  | _ :: _, 0, _, _ => rfl
  | _ :: r, n + 1, _, h => nth_sth_eq (env := r) (Nat.lt_of_succ_lt_succ h)
theorem nth_sth_ne : ∀ {env : List Ev} {i j : Nat} {x : Ev}, j ≠ i → nth (sth env i x) j = nth env j
  | [], _, _, _, _ => rfl
  | _ :: _, 0, 0, _, h => absurd rfl h
  | _ :: _, 0, _ + 1, _, _ => rfl
  | _ :: _, _ + 1, 0, _, _ => rfl
  | _ :: r, n + 1, m + 1, _, h => nth_sth_ne (env := r) (fun e => h (congrArg _ e))
theorem sth_len : ∀ {env : List Ev} {i : Nat} {x : Ev}, (sth env i x).length = env.length
  | [], _, _ => rfl
  | _ :: _, 0, _ => rfl
  | _ :: r, n + 1, _ => congrArg (· + 1) (sth_len (env := r))
theorem sth_out : ∀ {env : List Ev} {i : Nat} {x : Ev}, env.length ≤ i → sth env i x = env
  | [], _, _, _ => rfl
  | _ :: _, 0, _, h => absurd h (Nat.not_succ_le_zero _)
  | e :: r, n + 1, _, h => congrArg (e :: ·) (sth_out (env := r) (Nat.le_of_succ_le_succ h))
theorem nth_out : ∀ {env : List Ev} {i : Nat}, env.length ≤ i → nth env i = .any
  | [], _, _ => rfl
  | _ :: _, 0, h => absurd h (Nat.not_succ_le_zero _)
  | _ :: r, n + 1, h => nth_out (env := r) (Nat.le_of_succ_le_succ h)
/-- what the proof knows of the heaps: at the def's entry, pools then and now, the data's part of the heap -/
structure G where
  H0 : Hp
  M0 : Addr → Prop
  M : Addr → Prop
  B : Hp
  /-- cells under way that no slot holds -/
  P : Hp
  /-- the data's part at the def's entry -/
  B0 : Hp
  /-- cells of the entry that the def may change -/
  X : Nat → Option Addr
  /-- the cells of each slot -/
  F : Nat → List Addr
/-- what of the entry the def may change -/
def G.XA (g : G) (a : Addr) : Prop := ∃ i, g.X i = some a
structure G.Le (g g' : G) : Prop where
  h0 : g'.H0 = g.H0
  m0 : g'.M0 = g.M0
  m : ∀ a, g.M a → g'.M a
  b : Same g.B g'.B
  p : g'.P = g.P
  b0 : g'.B0 = g.B0
  x : g'.X = g.X
theorem _root_.L2.Same.rfl' {H : Hp} : Same H H := fun _ _ h => h
theorem G.Le.rfl {g : G} : G.Le g g := ⟨Eq.refl _, Eq.refl _, fun _ h => h, Same.rfl', Eq.refl _, Eq.refl _, Eq.refl _⟩
theorem G.Le.xa {g g' : G} (l : G.Le g g') : g'.XA = g.XA := by unfold G.XA; rw [l.x]
theorem G.Le.trans {a b c : G} (x : G.Le a b) (y : G.Le b c) : G.Le a c := ⟨y.h0.trans x.h0, y.m0.trans x.m0, fun p h => y.m p (x.m p h), x.b.trans y.b, y.p.trans x.p, y.b0.trans x.b0, y.x.trans x.x⟩
def Imm : HO → Prop
  | .tup _ => True
  | .ins _ _ _ => True
  | _ => False
structure WOk (g : G) (H : Hp) : Prop where
  sb : Same g.B H
  pl : ∀ a, g.M a → IsPool H a ∧ g.B a = none
  im : ∀ a o, H a = some o → Imm o → g.B a = some o
  fr : ∀ a o, ¬ g.M0 a → ¬ g.XA a → g.H0 a = some o → H a = some o
  nw : ∀ a, g.M a → g.M0 a ∨ g.H0 a = none
  pv : ∀ a o, g.P a = some o → H a = some o ∧ g.B a = none ∧ ¬ g.M a
  m0 : ∀ a, g.M0 a → g.M a
  bn : ∀ a o, ¬ g.XA a → g.H0 a = some o → g.B0 a = none → g.B a = none
  xp : ∀ a, g.XA a → (∃ o, H a = some o) ∧ (∃ o, g.H0 a = some o) ∧ g.B0 a = none
/-- a cell of the def's own -/
structure Priv (g : G) (b : Option Nat) (a : Addr) : Prop where
  nb : g.B a = none
  nm : ¬ g.M a
  n0 : g.H0 a = none ∨ (b.isSome = true ∧ g.XA a)
  np : g.P a = none
/-- what the def owns at v, its cells -/
structure OwnAt (K : PySem.W.Frag) (g : G) (H : Hp) (b : Option Nat) (v : V) (o : Ow) (fs : List Addr) : Prop where
  is_ : OwIs K g.B H v o fs
  nd : fs.Nodup
  pv : ∀ a ∈ fs, Priv g b a
  pin : ∀ u, b = some u → ∃ p, g.X u = some p ∧ v = .ref p
/-- the script at a -/
def ScrAt (K : PySem.W.Frag) (H0 : Hp) (M0 : Addr → Prop) (a : Addr) (xs : List V) : Prop := (∀ H, SqL K H a xs) ∨ ∃ o, H0 a = some o ∧ (∀ H : Hp, H a = some o → SqL K H a xs) ∧ ¬ M0 a
theorem ScrAt.of {K : PySem.W.Frag} {H : Hp} {M : Addr → Prop} {a : Addr} {xs : List V} (h : SqL K H a xs) (m : ∀ b, M b → IsPool H b) (n : ∀ b, M b → b ≠ a) : ScrAt K H M a xs := by
  rcases h with (h | ⟨o, h⟩) | h
  · exact .inr ⟨_, h, fun _ e => .inl (.inl e), fun q => n _ q rfl⟩
  · exact .inr ⟨_, h, fun _ e => .inl (.inr ⟨o, e⟩), fun q => n _ q rfl⟩
  · exact .inl fun _ => .inr h
def Sl (K : PySem.W.Frag) (g : G) (H : Hp) (o : Option (Option V)) (fs : List Addr) : Ev → Prop
  | .any => True
  | .d x => ∃ v, o = some (some v) ∧ Is K g.B v x
  | .own l b => ∃ v, o = some (some v) ∧ OwnAt K g H b v l fs
  | .pool => ∃ p, o = some (some (.ref p)) ∧ g.M p
  | .scr ns => ∃ a, o = some (some (.ref a)) ∧ ScrAt K g.H0 (fun a => g.M0 a ∨ g.XA a) a (ns.map V.int)
  | .err a dd fs => o = some (some (.ref a)) ∧ ∀ d, dd = some d → g.B d = some (.xd fs)
  | .raw v => o = some (some v)
def isOwn : Ev → Bool
  | .own _ _ => true
  | _ => false
structure Rep (K : PySem.W.Frag) (g : G) (σ : L2.St) (H : Hp) (env : List Ev) : Prop where
  ok : WOk g H
  ln : σ.length = env.length
  sl : ∀ i, Sl K g H σ[i]? (g.F i) (nth env i)
  nf : ∀ i, isOwn (nth env i) = false → g.F i = []
  di : ∀ i j a, i ≠ j → a ∈ g.F i → a ∈ g.F j → False
/-- an argument, a result -/
inductive Ar where
  | d (x : D) | pool | fr (o : Ow) | scr (ns : List Int)
/-- cells that no slot holds -/
def Off (g : G) (fs : List Addr) : Prop := ∀ i, ∀ a ∈ fs, a ∉ g.F i
def IsR (K : PySem.W.Frag) (g : G) (H : Hp) (v : V) : Ar → Prop
  | .d x => Is K g.B v x
  | .pool => ∃ p, v = .ref p ∧ g.M p
  | .scr ns => ∃ a, v = .ref a ∧ ScrAt K g.H0 (fun a => g.M0 a ∨ g.XA a) a (ns.map V.int)
  | .fr o => ∃ fs, OwnAt K g H none v o fs ∧ Off g fs
section
variable {K : PySem.W.Frag} {g g' : G} {σ σ' : L2.St} {H H' : Hp} {env : List Ev} {b : Option Nat} {v : V} {o : Ow} {fs : List Addr}
theorem OwnAt.ex (a : OwnAt K g H b v o fs) : ∀ p ∈ fs, ∃ u, H p = some u := fun p m => (a.is_.cell p m).elim (fun ⟨_, h⟩ => ⟨_, h⟩) fun ⟨_, h⟩ => ⟨_, h⟩
theorem OwnAt.notImm (a : OwnAt K g H b v o fs) : ∀ p ∈ fs, ∀ u, H p = some u → ¬ Imm u := fun p m u e => (a.is_.cell p m).elim (fun ⟨_, h⟩ => by rw [h] at e; cases e; exact fun z => z) fun ⟨_, h⟩ => by rw [h] at e; cases e; exact fun z => z
theorem OwnAt.ne (a : OwnAt K g H b v o fs) {q} (hq : H q = none) : ∀ p ∈ fs, p ≠ q := fun p m e => by obtain ⟨u, h⟩ := a.ex p m; rw [e, hq] at h; cases h
theorem OwnAt.keep (a : OwnAt K g H b v o fs) (x : g'.X = g.X) (s : Same g.B g'.B) (h : ∀ p ∈ fs, H' p = H p) (k : ∀ p ∈ fs, Priv g b p → Priv g' b p) : OwnAt K g' H' b v o fs := ⟨a.is_.mono s h, a.nd, fun p m => k p m (a.pv p m), fun u e => by rw [x]; exact a.pin u e⟩
theorem Rep.lt_of_F (r : Rep K g σ H env) {i a} (h : a ∈ g.F i) : isOwn (nth env i) = true := by
  cases c : isOwn (nth env i) with
  | true => rfl
  | false => rw [r.nf i c] at h; cases h
theorem Rep.ownC (r : Rep K g σ H env) {i a} (h : a ∈ g.F i) : ∃ v o b, nth env i = .own o b ∧ σ[i]? = some (some v) ∧ OwnAt K g H b v o (g.F i) := by
  have c := r.lt_of_F h
  have s := r.sl i
  cases e : nth env i with
  | own o b => rw [e] at s; obtain ⟨v, e1, a⟩ := s; exact ⟨v, o, b, rfl, e1, a⟩
  | _ => rw [e] at c; cases c
theorem Sl.mono {q e} (le : G.Le g g') (hk : ∀ b v o, OwnAt K g H b v o fs → OwnAt K g' H' b v o fs) (s : Sl K g H q fs e) : Sl K g' H' q fs e := by
  cases e with
  | any => trivial
  | d x => obtain ⟨v, e, h⟩ := s; exact ⟨v, e, h.mono le.b⟩
  | own l b => obtain ⟨v, e, h⟩ := s; exact ⟨v, e, hk _ _ _ h⟩
  | pool => obtain ⟨p, e, h⟩ := s; exact ⟨p, e, le.m _ h⟩
  | scr ns => obtain ⟨a, e, h⟩ := s; exact ⟨a, e, by rw [le.h0, le.m0, le.xa]; exact h⟩
  | err a dd fs => exact ⟨s.1, fun d h => le.b _ _ (s.2 d h)⟩
  | raw v => exact s
/-- all slots stay as they are -/
theorem Rep.move (r : Rep K g σ H env) (ok : WOk g' H') (le : G.Le g g') (hF : g'.F = g.F) (hk : ∀ i, ∀ a ∈ g.F i, (∀ b, Priv g b a → Priv g' b a) ∧ H' a = H a) : Rep K g' σ H' env :=
  ⟨ok, r.ln, fun i => by
    rw [hF]
    exact (r.sl i).mono le fun b v o a => a.keep le.x le.b (fun p m => (hk i p m).2) fun p m => (hk i p m).1 b, by rw [hF]; exact r.nf, by rw [hF]; exact r.di⟩
def setF (F : Nat → List Addr) (i : Nat) (fs : List Addr) : Nat → List Addr := fun j => if j = i then fs else F j
theorem setF_eq {F i fs} : setF F i fs i = fs := by unfold setF; rw [if_pos rfl]
theorem setF_ne {F i fs j} (h : j ≠ i) : setF F i fs j = F j := by unfold setF; rw [if_neg h]
def G.setF (g : G) (i : Nat) (fs : List Addr) : G := { g with F := LR.setF g.F i fs }
theorem G.setF_le {i fs} : G.Le g (g.setF i fs) := ⟨rfl, rfl, fun _ h => h, Same.rfl', rfl, rfl, rfl⟩
theorem WOk.setF (w : WOk g H) {i fs} : WOk (g.setF i fs) H := ⟨w.sb, w.pl, w.im, w.fr, w.nw, w.pv, w.m0, w.bn, w.xp⟩
theorem Priv.setF {i a} (p : Priv g b a) : Priv (g.setF i fs) b a := ⟨p.nb, p.nm, p.n0, p.np⟩
theorem OwnAt.setF (a : OwnAt K g H b v o fs) {i gs} : OwnAt K (g.setF i gs) H b v o fs := ⟨a.is_, a.nd, fun p m => (a.pv p m).setF, a.pin⟩
/-- one slot changes -/
theorem Rep.moveS (r : Rep K g σ H env) {i : Nat} (hi : i < env.length) (e : Ev) {fs : List Addr} (ok : WOk g' H') (le : G.Le g g') (hF : g'.F = LR.setF g.F i fs) (hl : σ'.length = σ.length) (hσ : ∀ j, j ≠ i → σ'[j]? = σ[j]?)
    (s : Sl K g' H' σ'[i]? fs e) (nf : isOwn e = false → fs = []) (dj : ∀ j, j ≠ i → ∀ a ∈ fs, a ∉ g.F j) (hk : ∀ j, j ≠ i → ∀ a ∈ g.F j, (∀ b, Priv g b a → Priv g' b a) ∧ H' a = H a) : Rep K g' σ' H' (sth env i e) := by
  refine ⟨ok, by rw [sth_len, hl]; exact r.ln, fun j => ?_, fun j hj => ?_, fun j k a n hj hk' => ?_⟩
  · by_cases n : j = i
    · subst n; rw [nth_sth_eq hi, hF, setF_eq]; exact s
    · rw [nth_sth_ne n, hσ j n, hF, setF_ne n]
      exact (r.sl j).mono le fun b v o a => a.keep le.x le.b (fun p m => (hk j n p m).2) fun p m => (hk j n p m).1 b
  · by_cases n : j = i
    · subst n; rw [nth_sth_eq hi] at hj; rw [hF, setF_eq]; exact nf hj
    · rw [nth_sth_ne n] at hj; rw [hF, setF_ne n]; exact r.nf j hj
  · rw [hF] at hj hk'
    by_cases n1 : j = i
    · subst n1
      rw [setF_eq] at hj
      rw [setF_ne (Ne.symm n)] at hk'
      exact dj k (Ne.symm n) a hj hk'
    · rw [setF_ne n1] at hj
      by_cases n2 : k = i
      · subst n2
        rw [setF_eq] at hk'
        exact dj j n1 a hk' hj
      · rw [setF_ne n2] at hk'
        exact r.di j k a n hj hk'
/-- a new object that is data -/
def G.new (g : G) (p : Addr) (o : HO) : G := { g with B := upd g.B p o }
theorem G.new_le (w : WOk g H) {p o} (h : H p = Option.none) : G.Le g (g.new p o) :=
  ⟨rfl, rfl, fun _ h => h, fun a u e => by show upd g.B p o a = .some u; rw [upd_ne (ne_of_none (w.sb _ _ e) h)]; exact e, rfl, rfl, rfl⟩
/-- what is new now was not there at the entry -/
theorem WOk.entry_none (w : WOk g H) {p} (h : H p = Option.none) : g.H0 p = Option.none := by
  cases e : g.H0 p with
  | none => rfl
  | some o =>
    by_cases c : g.M0 p
    · obtain ⟨⟨_, _, _, _, q⟩, _⟩ := w.pl p (w.m0 p c)
      rw [q] at h; cases h
    · by_cases x : g.XA p
      · obtain ⟨⟨u, q⟩, _⟩ := w.xp p x
        rw [q] at h; cases h
      · rw [w.fr _ _ c x e] at h; cases h
theorem WOk.new (w : WOk g H) {p o} (h : H p = Option.none) : WOk (g.new p o) (upd H p o) := by
  refine ⟨fun a u e => ?_, fun a m => ?_, fun a u e i => ?_, fun a u n n2 e => ?_, w.nw, fun a u e => ?_, w.m0, fun a u nx e e2 => ?_, fun a x => ?_⟩
  · by_cases c : a = p
    · subst c
      have e : upd g.B a o a = some u := e
      rw [upd_same] at e ⊢; exact e
    · have e : upd g.B p o a = some u := e
      rw [upd_ne c] at e ⊢; exact w.sb _ _ e
  · obtain ⟨h1, h2⟩ := w.pl a m
    obtain ⟨x1, x2, x3, x4, hx⟩ := h1
    have n := ne_of_none hx h
    refine ⟨⟨x1, x2, x3, x4, by rw [upd_ne n]; exact hx⟩, by show upd g.B p o a = _; rw [upd_ne n]; exact h2⟩
  · show upd g.B p o a = some u
    by_cases c : a = p
    · subst c; rw [upd_same] at e ⊢; exact e
    · rw [upd_ne c] at e ⊢; exact w.im _ _ e i
  · have := w.fr a u n n2 e
    rw [upd_ne (ne_of_none this h)]; exact this
  · obtain ⟨h1, h2, h3⟩ := w.pv a u e
    have n := ne_of_none h1 h
    exact ⟨by rw [upd_ne n]; exact h1, by show upd g.B p o a = _; rw [upd_ne n]; exact h2, h3⟩
  · have e' : g.H0 a = some u := e
    have n : a ≠ p := fun z => by subst z; rw [w.entry_none h] at e'; cases e'
    show upd g.B p o a = _
    rw [upd_ne n]; exact w.bn a u nx e e2
  · obtain ⟨⟨u, e⟩, q⟩ := w.xp a x
    exact ⟨⟨u, by rw [upd_ne (ne_of_none e h)]; exact e⟩, q⟩
theorem Priv.new {a q u} (p : Priv g b a) (n : a ≠ q) : Priv (g.new q u) b a := ⟨by show upd g.B q u a = _; rw [upd_ne n]; exact p.nb, p.nm, p.n0, p.np⟩
theorem Rep.new (r : Rep K g σ H env) {p u} (h : H p = Option.none) : Rep K (g.new p u) σ (upd H p u) env :=
  r.move (r.ok.new h) (G.new_le r.ok h) rfl fun i a m => by
    obtain ⟨v, o, b, _, _, oa⟩ := r.ownC m
    have n := oa.ne h a m
    exact ⟨fun b q => q.new n, upd_ne n⟩
theorem Rep.le_new (r : Rep K g σ H env) {p o} (h : H p = Option.none) : G.Le g (g.new p o) := G.new_le r.ok h
/-- what one owns becomes data -/
def frzB (B H : Hp) (fs : List Addr) : Hp := fun a => if a ∈ fs then H a else B a
theorem frzB_in {B H : Hp} {fs a} (h : a ∈ fs) : frzB B H fs a = H a := by unfold frzB; rw [if_pos h]
theorem frzB_out {B H : Hp} {fs a} (h : a ∉ fs) : frzB B H fs a = B a := by unfold frzB; rw [if_neg h]
def G.frz (g : G) (H : Hp) (fs : List Addr) : G := { g with B := frzB g.B H fs }
theorem frz_same (pv : ∀ a ∈ fs, Priv g b a) : Same g.B (frzB g.B H fs) := fun a u e => by
  by_cases m : a ∈ fs
  · rw [(pv a m).nb] at e; cases e
  · rw [frzB_out m]; exact e
theorem G.frz_le (pv : ∀ a ∈ fs, Priv g b a) : G.Le g (g.frz H fs) := ⟨rfl, rfl, fun _ h => h, frz_same pv, rfl, rfl, rfl⟩
theorem WOk.frz (w : WOk g H) (pv : ∀ a ∈ fs, Priv g none a) : WOk (g.frz H fs) H := by
  have out : ∀ {a u}, g.H0 a = some u → a ∉ fs := fun {a u} e m => by
    rcases (pv a m).n0 with q | q
    · rw [q] at e; cases e
    · cases q.1
  refine ⟨fun c u e => ?_, fun c m => ?_, fun c u e i => frz_same pv c u (w.im c u e i), w.fr, w.nw, fun c u e => ?_, w.m0, fun c u nx e e2 => ?_, w.xp⟩
  · have e : frzB g.B H fs c = some u := e
    by_cases m : c ∈ fs
    · rw [frzB_in m] at e; exact e
    · rw [frzB_out m] at e; exact w.sb _ _ e
  · obtain ⟨h1, h2⟩ := w.pl c m
    refine ⟨h1, ?_⟩
    show frzB g.B H fs c = none
    rw [frzB_out fun q => (pv c q).nm m]; exact h2
  · obtain ⟨h1, h2, h3⟩ := w.pv c u e
    have e : g.P c = some u := e
    refine ⟨h1, ?_, h3⟩
    show frzB g.B H fs c = none
    rw [frzB_out fun q => by rw [(pv c q).np] at e; cases e]; exact h2
  · show frzB g.B H fs c = none
    rw [frzB_out (out e)]; exact w.bn c u nx e e2
theorem Priv.frz {a} (p : Priv g b a) (n : a ∉ fs) : Priv (g.frz H fs) b a := ⟨by show frzB g.B H fs a = _; rw [frzB_out n]; exact p.nb, p.nm, p.n0, p.np⟩
theorem Is.frz (a : OwnAt K g H b v o fs) : Is K (g.frz H fs).B v o.d := a.is_.is_ (frz_same a.pv) fun p m => frzB_in m
/-- .. a result that no slot holds -/
theorem Rep.frzR (r : Rep K g σ H env) (a : OwnAt K g H none v o fs) (ns : Off g fs) : Rep K (g.frz H fs) σ H env :=
  r.move (r.ok.frz a.pv) (G.frz_le a.pv) rfl fun i c m => ⟨fun b q => q.frz fun h => ns i c h m, rfl⟩
/-- the environment forgets -/
def fz : List Ev → Nat → List Ev
  | [], _ => []
  | .own l none :: r, 0 => .d l.d :: r
  | e :: r, 0 => e :: r
  | e :: r, n + 1 => e :: fz r n
theorem fz_sth : ∀ {env : List Ev} {i : Nat} {l : Ow}, nth env i = .own l none → fz env i = sth env i (.d l.d)
  | [], _, _, h => by cases h
  | e :: _, 0, l, h => by
    have h : e = .own l none := h
    subst h; rfl
  | e :: r, n + 1, _, h => by
    have := fz_sth (env := r) h
    cases e with
    | own l b => cases b <;> exact congrArg _ this
    | _ => exact congrArg _ this
theorem fz_not : ∀ {env : List Ev} {i : Nat}, (∀ l, nth env i ≠ .own l none) → fz env i = env
  | [], _, _ => rfl
  | e :: _, 0, h => by
    cases e with
    | own l b => cases b with
      | none => exact absurd rfl (h l)
      | some _ => rfl
    | _ => rfl
  | e :: r, n + 1, h => by
    have := fz_not (env := r) h
    cases e with
    | own l b => cases b <;> exact congrArg _ this
    | _ => exact congrArg _ this
theorem lt_of_own {env : List Ev} {i : Nat} {l : Ow} {b} (h : nth env i = .own l b) : i < env.length := by
  rcases Nat.lt_or_ge i env.length with z | z
  · exact z
  · rw [nth_out z] at h; cases h
theorem Rep.frz (r : Rep K g σ H env) (i : Nat) : ∃ g', G.Le g g' ∧ Rep K g' σ H (fz env i) := by
  by_cases c : ∃ l, nth env i = .own l none
  · obtain ⟨l, e⟩ := c
    have s := r.sl i
    rw [e] at s
    obtain ⟨v, es, a⟩ := s
    rw [fz_sth e]
    have le := G.frz_le (H := H) a.pv
    refine ⟨(g.frz H (g.F i)).setF i [], le.trans G.setF_le, r.moveS (lt_of_own e) _ ((r.ok.frz a.pv).setF) (le.trans G.setF_le) rfl rfl (fun _ _ => rfl) ⟨v, es, .frz a⟩ (fun _ => rfl) (fun _ _ a m => nomatch m) fun j n p m => ⟨fun b q => (q.frz fun h => r.di i j p (Ne.symm n) h m).setF, rfl⟩⟩
  · rw [fz_not fun l h => c ⟨l, h⟩]; exact ⟨g, .rfl, r⟩
theorem get_set_eq {σ : L2.St} {i : Nat} {v : Option V} (h : i < σ.length) : (σ.set i v)[i]? = some v := by simp [h]
theorem get_set_ne {σ : L2.St} {i j : Nat} {v : Option V} (h : j ≠ i) : (σ.set i v)[j]? = σ[j]? := by simp [List.getElem?_set, Ne.symm h]
theorem set_out {σ : L2.St} {i : Nat} {v : Option V} (h : σ.length ≤ i) : σ.set i v = σ := List.set_eq_of_length_le h
/-- a slot is forgotten -/
theorem Rep.dropS (r : Rep K g σ H env) (i : Nat) (hl : σ'.length = σ.length) (hσ : ∀ j, j ≠ i → σ'[j]? = σ[j]?) : Rep K (g.setF i []) σ' H (sth env i .any) := by
  rcases Nat.lt_or_ge i env.length with z | z
  · exact r.moveS z _ r.ok.setF G.setF_le rfl hl hσ trivial (fun _ => rfl) (fun _ _ a m => nomatch m) fun j n p m => ⟨fun b q => q.setF, rfl⟩
  · have nfi := r.nf i (by rw [nth_out z]; rfl)
    rw [sth_out z]
    refine ⟨r.ok.setF, by rw [hl]; exact r.ln, fun j => ?_, fun j hj => ?_, fun j k a n hj hk => ?_⟩
    · show Sl K (g.setF i []) H σ'[j]? (LR.setF g.F i [] j) (nth env j)
      by_cases n : j = i
      · subst n; rw [nth_out z]; trivial
      · rw [hσ j n, setF_ne n]
        exact (r.sl j).mono G.setF_le fun b v o a => a.setF
    · show LR.setF g.F i [] j = []
      by_cases n : j = i
      · subst n; rw [setF_eq]
      · rw [setF_ne n]; exact r.nf j hj
    · have : ∀ m, a ∈ (g.setF i []).F m → a ∈ g.F m := fun m h => by
        have h : a ∈ LR.setF g.F i [] m := h
        by_cases q : m = i
        · subst q; rw [setF_eq] at h; cases h
        · rw [setF_ne q] at h; exact h
      exact r.di j k a n (this j hj) (this k hk)
theorem Rep.drop (r : Rep K g σ H env) (i : Nat) : Rep K (g.setF i []) σ H (sth env i .any) := r.dropS i rfl fun _ _ => rfl
/-- what a stored value makes of its slot: as the def's own only where that is wanted -/
def toEv (w : Bool) : Ar → Ev
  | .d x => .d x
  | .pool => .pool
  | .scr ns => .scr ns
  | .fr l => if w then .own l else .d l.d
theorem Rep.setE (r : Rep K g σ H env) {i : Nat} {v : V} {e : Ev} (s : Sl K (g.setF i fs) H (some (some v)) fs e) (nf : isOwn e = false → fs = []) (ns : ∀ j, j ≠ i → ∀ a ∈ fs, a ∉ g.F j) : ∃ g', G.Le g g' ∧ g'.B = g.B ∧ Rep K g' (σ.set i (some v)) H (sth env i e) := by
  rcases Nat.lt_or_ge i env.length with z | z
  · exact ⟨g.setF i fs, G.setF_le, rfl, r.moveS z e r.ok.setF G.setF_le rfl List.length_set (fun j n => get_set_ne n) (by rw [get_set_eq (by rw [r.ln]; exact z)]; exact s) nf ns fun j n p m => ⟨fun b q => q.setF, rfl⟩⟩
  · rw [sth_out z, set_out (by rw [r.ln]; exact z)]; exact ⟨g, .rfl, rfl, r⟩
/-- .. by what is not the def's own -/
theorem Rep.setD (r : Rep K g σ H env) {i : Nat} {v : V} {e : Ev} (s : Sl K g H (some (some v)) [] e) (nf : isOwn e = false) : ∃ g', G.Le g g' ∧ g'.B = g.B ∧ Rep K g' (σ.set i (some v)) H (sth env i e) :=
  r.setE (fs := []) (s.mono G.setF_le fun b v o a => a.setF) (fun _ => rfl) fun j _ a m => nomatch m
/-- a value is stored -/
theorem Rep.set (r : Rep K g σ H env) {i : Nat} {v : V} {a : Ar} (w : Bool) (h : IsR K g H v a) : ∃ g', G.Le g g' ∧ Rep K g' (σ.set i (some v)) H (sth env i (toEv w a)) := by
  have fin : ∀ {e : Ev}, Sl K g H (some (some v)) [] e → isOwn e = false → ∃ g', G.Le g g' ∧ Rep K g' (σ.set i (some v)) H (sth env i e) := fun s n => by
    obtain ⟨g', l, _, R⟩ := r.setD (i := i) s n
    exact ⟨g', l, R⟩
  cases a with
  | d x => exact fin (e := .d x) ⟨v, rfl, h⟩ rfl
  | pool => obtain ⟨p, rfl, m⟩ := h; exact fin (e := .pool) ⟨p, rfl, m⟩ rfl
  | scr ns => obtain ⟨p, rfl, m⟩ := h; exact fin (e := .scr ns) ⟨p, rfl, m⟩ rfl
  | fr l =>
    obtain ⟨fs, o, ns⟩ := h
    cases w with
    | true =>
      obtain ⟨g', l', _, R⟩ := r.setE (i := i) (e := .own l) (fs := fs) ⟨v, rfl, o.setF⟩ (fun z => by cases z) fun j _ a m => ns j a m
      exact ⟨g', l', R⟩
    | false =>
      obtain ⟨g', l', _, R⟩ := (r.frzR o ns).setD (i := i) (e := .d l.d) ⟨v, rfl, .frz o⟩ rfl
      exact ⟨g', (G.frz_le o.pv).trans l', R⟩
/-- a result as data -/
def asD (k : D → Prop) : Ar → Prop
  | .d x => k x
  | .fr l => k l.d
  | .pool => False
  | .scr _ => False
theorem IsR.asD (r : Rep K g σ H env) {v : V} {a : Ar} {k : D → Prop} (h : IsR K g H v a) (q : asD k a) : ∃ x g', G.Le g g' ∧ Rep K g' σ H env ∧ Is K g'.B v x ∧ k x := by
  cases a with
  | d x => exact ⟨x, g, .rfl, r, h, q⟩
  | pool => exact q.elim
  | scr _ => exact q.elim
  | fr l => obtain ⟨fs, o, ns⟩ := h; exact ⟨l.d, _, G.frz_le o.pv, r.frzR o ns, .frz o, q⟩
/-- a cell of the def's own changes -/
theorem WOk.own (w : WOk g H) {p ys} (a : Priv g b p) (ni : ¬ Imm ys) (hp : ∃ u, H p = some u) : WOk g (upd H p ys) := by
  have n0 : ∀ {c u}, ¬ g.XA c → g.H0 c = some u → c ≠ p := fun {c u} x e z => by
    subst z
    rcases a.n0 with q | q
    · rw [q] at e; cases e
    · exact x q.2
  refine ⟨fun c o e => ?_, fun c m => ?_, fun c o e im => ?_, fun c o n n2 e => ?_, w.nw, fun c o e => ?_, w.m0, w.bn, fun c x => ?_⟩
  · have n : c ≠ p := fun z => by rw [z, a.nb] at e; cases e
    rw [upd_ne n]; exact w.sb c o e
  · obtain ⟨⟨x1, x2, x3, x4, h⟩, h2⟩ := w.pl c m
    have n : c ≠ p := fun z => a.nm (z ▸ m)
    exact ⟨⟨x1, x2, x3, x4, by rw [upd_ne n]; exact h⟩, h2⟩
  · by_cases q : c = p
    · subst q; rw [upd_same] at e; cases e; exact (ni im).elim
    · rw [upd_ne q] at e; exact w.im c o e im
  · have := w.fr c o n n2 e
    rw [upd_ne (n0 n2 e)]; exact this
  · obtain ⟨h1, h2, h3⟩ := w.pv c o e
    have n : c ≠ p := fun z => by rw [z, a.np] at e; cases e
    exact ⟨by rw [upd_ne n]; exact h1, h2, h3⟩
  · obtain ⟨⟨u, e⟩, q⟩ := w.xp c x
    by_cases n : c = p
    · subst n; exact ⟨⟨_, upd_same⟩, q⟩
    · exact ⟨⟨u, by rw [upd_ne n]; exact e⟩, q⟩
/-- a new cell is the def's own -/
theorem WOk.priv (w : WOk g H) {p : Addr} (hp : H p = none) : Priv g none p := by
  refine ⟨?_, fun m => ?_, .inl (w.entry_none hp), ?_⟩
  · cases e : g.B p with
    | none => rfl
    | some o => rw [w.sb _ _ e] at hp; cases hp
  · obtain ⟨⟨_, _, _, _, h⟩, _⟩ := w.pl p m
    rw [h] at hp; cases hp
  · cases e : g.P p with
    | none => rfl
    | some o => rw [(w.pv p o e).1] at hp; cases hp
theorem WOk.put (w : WOk g H) {p ys} (hp : H p = none) (ni : ¬ Imm ys) : WOk g (upd H p ys) := by
  have a := w.priv hp
  refine ⟨fun c o e => ?_, fun c m => ?_, fun c o e im => ?_, fun c o n n2 e => ?_, w.nw, fun c o e => ?_, w.m0, w.bn, fun c x => ?_⟩
  · have n : c ≠ p := fun z => by rw [z, a.nb] at e; cases e
    rw [upd_ne n]; exact w.sb c o e
  · obtain ⟨⟨x1, x2, x3, x4, h⟩, h2⟩ := w.pl c m
    have n : c ≠ p := fun z => a.nm (z ▸ m)
    exact ⟨⟨x1, x2, x3, x4, by rw [upd_ne n]; exact h⟩, h2⟩
  · by_cases q : c = p
    · subst q; rw [upd_same] at e; cases e; exact (ni im).elim
    · rw [upd_ne q] at e; exact w.im c o e im
  · have := w.fr c o n n2 e
    rw [upd_ne (ne_of_none this hp)]; exact this
  · obtain ⟨h1, h2, h3⟩ := w.pv c o e
    exact ⟨by rw [upd_ne (ne_of_none h1 hp)]; exact h1, h2, h3⟩
  · obtain ⟨⟨u, e⟩, q⟩ := w.xp c x
    exact ⟨⟨u, by rw [upd_ne (ne_of_none e hp)]; exact e⟩, q⟩
/-- .. a list or a dict, of data and of what no slot holds -/
theorem Rep.put (r : Rep K g σ H env) {p : Addr} {ho : HO} (hp : H p = none) (ni : ¬ Imm ho) : Rep K g σ (upd H p ho) env :=
  r.move (r.ok.put hp ni) .rfl rfl fun i a m => ⟨fun b q => q, by
    obtain ⟨v, o, b, _, _, oa⟩ := r.ownC m
    exact upd_ne (oa.ne hp a m)⟩
theorem Rep.off (r : Rep K g σ H env) {p : Addr} (hp : H p = none) : Off g [p] := fun i a m h => by
  rw [List.mem_singleton] at m
  subst m
  obtain ⟨v, o, b, _, _, oa⟩ := r.ownC h
  exact oa.ne hp _ h rfl
theorem upd_ls (r : Rep K g σ H env) {p : Addr} {xs : List V} {l : List D} (hp : H p = none) (i : Iss K g.B xs l) (z : xs.length ≤ 100000) :
    Rep K g σ (upd H p (.lst xs)) env ∧ OwnAt K g (upd H p (.lst xs)) none (.ref p) (.ls l) [p] ∧ Off g [p] :=
  ⟨r.put hp fun h => h, ⟨.l upd_same i z, (by simp), fun a m => (by rw [List.mem_singleton.mp m]; exact r.ok.priv hp), fun _ h => by cases h⟩, r.off hp⟩
theorem upd_own (r : Rep K g σ H env) {p : Addr} {xs : List V} {l : List D} (hp : H p = none) (i : Iss K g.B xs l) (z : xs.length ≤ 100000) :
    Rep K g σ (upd H p (.lst xs)) env ∧ IsR K g (upd H p (.lst xs)) (.ref p) (.fr (.ls l)) :=
  let ⟨R, o, ns⟩ := upd_ls r hp i z
  ⟨R, [p], o, ns⟩
end
end LR
set_option Elab.async false
set_option maxRecDepth 100000
set_option linter.all false
set_option maxHeartbeats 4000000
namespace LR
open PySem PySem.Spec PyProof.Rows L2
/-! # the data layer: what an expression asks of the data -/
structure Er where
  C : Addr
  fs : Option (List (Str × V))
def IsEr (B : Hp) (cls : Value) (dd : Option Addr) (e : Er) : Prop := cls = .ref e.C ∧ match e.fs with
  | none => dd = none
  | some fs => ∃ d, dd = some d ∧ B d = some (.xd fs)
abbrev DE := List Ev → (Er → Prop) → (Ar → Prop) → Prop
abbrev DT := List Ev → (Er → Prop) → (Bool → Prop) → Prop
abbrev DA := List Ev → (Er → Prop) → (List Ar → Prop) → Prop
inductive IsAs (K : PySem.W.Frag) (g : G) : List V → List Ar → Prop
  | nil : IsAs K g [] []
  | d {v x vs as} (h : Is K g.B v x) (t : IsAs K g vs as) : IsAs K g (v :: vs) (.d x :: as)
  | pool {p vs as} (h : g.M p) (t : IsAs K g vs as) : IsAs K g (.ref p :: vs) (.pool :: as)
  | scr {a ns vs as} (h : ScrAt K g.H0 (fun a => g.M0 a ∨ g.XA a) a (ns.map V.int)) (t : IsAs K g vs as) : IsAs K g (.ref a :: vs) (.scr ns :: as)
section
variable {K : PySem.W.Frag} {W : WX} {g g' : G} {σ : L2.St} {H H' : Hp} {env : List Ev} {Ed : Er → Prop}
theorem IsAs.mono (le : G.Le g g') : ∀ {vs as}, IsAs K g vs as → IsAs K g' vs as
  | _, _, .nil => .nil
  | _, _, .d h t => .d (h.mono le.b) (t.mono le)
  | _, _, .pool h t => .pool (le.m _ h) (t.mono le)
  | _, _, .scr h t => .scr (by rw [le.h0, le.m0, le.xa]; exact h) (t.mono le)
def KX (K : PySem.W.Frag) (W : WX) (g : G) (σ : L2.St) (env : List Ev) (Ed : Er → Prop) : Prop :=
  ∀ er cls dd H' g', G.Le g g' → Rep K g' σ H' env → IsEr g'.B cls dd er → Ed er → W cls dd σ H'
def KV (K : PySem.W.Frag) (g : G) (σ : L2.St) (env : List Ev) (Qd : Ar → Prop) (Q : VK) : Prop :=
  ∀ v r H' g', G.Le g g' → Rep K g' σ H' env → IsR K g' H' v r → Qd r → Q v H'
theorem KX.mono (k : KX K W g σ env Ed) (le : G.Le g g') : KX K W g' σ env Ed := fun er cls dd H' g'' l => k er cls dd H' g'' (le.trans l)
theorem KV.mono {Qd Q} (k : KV K g σ env Qd Q) (le : G.Le g g') : KV K g' σ env Qd Q := fun v r H' g'' l => k v r H' g'' (le.trans l)
end
def lift (K : PySem.W.Frag) (W : WX) (d : DE) : TE := fun σ H Q => ∃ g env Ed Qd, Rep K g σ H env ∧ d env Ed Qd ∧ KV K g σ env Qd Q ∧ KX K W g σ env Ed
def liftT (K : PySem.W.Frag) (W : WX) (d : DT) : TT := fun σ H Q => ∃ g env Ed Qd, Rep K g σ H env ∧ d env Ed Qd ∧ (∀ b H' g', G.Le g g' → Rep K g' σ H' env → Qd b → Q b H') ∧ KX K W g σ env Ed
def liftA (K : PySem.W.Frag) (W : WX) (d : DA) : TA := fun σ H Q => ∃ g env Ed Qd, Rep K g σ H env ∧ d env Ed Qd ∧ (∀ vs as H' g', G.Le g g' → Rep K g' σ H' env → IsAs K g' vs as → Qd as → Q vs H') ∧ KX K W g σ env Ed
def QE (X : Cx) (W : WX) (e : Expr) (d : DE) : Prop := PE X e (lift X.K W d)
def QT (X : Cx) (W : WX) (e : Expr) (d : DT) : Prop := PT X e (liftT X.K W d)
def QW (X : Cx) (W : WX) (e : Expr) (d : DT) : Prop := PW X e (liftT X.K W d)
def QA (X : Cx) (W : WX) (es : List Expr) (d : DA) : Prop := PA X es (liftA X.K W d)
abbrev PF := List Ev → Option D
def dP (p : PF) : DE := fun env _ Q => ∃ x, p env = some x ∧ Q (.d x)
def dPT (p : PF) : DT := fun env _ Q => ∃ b, p env = some (.bl b) ∧ Q b
def QP (X : Cx) (e : Expr) (p : PF) : Prop := ∀ W, QE X W e (dP p)
def QPT (X : Cx) (e : Expr) (p : PF) : Prop := ∀ W, QT X W e (dPT p)
theorem _root_.L2.PE.mono {X e t t'} (h : PE X e t) (m : ∀ σ H Q, t' σ H Q → t σ H Q) : PE X e t' := ⟨fun pins s σ H Q I q => h.run pins s σ H Q I (m _ _ _ q)⟩
theorem _root_.L2.PT.mono {X e t t'} (h : PT X e t) (m : ∀ σ H Q, t' σ H Q → t σ H Q) : PT X e t' := ⟨fun pins s σ H Q I q => h.run pins s σ H Q I (m _ _ _ q)⟩
theorem _root_.L2.PW.mono {X e t t'} (h : PW X e t) (m : ∀ σ H Q, t' σ H Q → t σ H Q) : PW X e t' := ⟨fun whole pins s σ H Q I q => h.run whole pins s σ H Q I (m _ _ _ q)⟩
theorem _root_.L2.PA.mono {X es t t'} (h : PA X es t) (m : ∀ σ H Q, t' σ H Q → t σ H Q) : PA X es t' := ⟨fun pos pins s σ H Q I q => h.run pos pins s σ H Q I (m _ _ _ q)⟩
section
variable {K : PySem.W.Frag} {W : WX} {g g' : G} {σ : L2.St} {H H' : Hp} {env : List Ev} {Ed : Er → Prop} {d : DE} {p : PF} {Q : VK}
theorem lift.use {Qd} (R : Rep K g σ H env) (h : d env Ed Qd) (kv : KV K g σ env Qd Q) (kx : KX K W g σ env Ed) : lift K W d σ H Q := ⟨g, env, Ed, Qd, R, h, kv, kx⟩
theorem lift.useD {k : D → Prop} (R : Rep K g σ H env) (h : d env Ed (asD k)) (kv : ∀ v x H' g', G.Le g g' → Rep K g' σ H' env → Is K g'.B v x → k x → Q v H') (kx : KX K W g σ env Ed) : lift K W d σ H Q :=
  ⟨g, env, Ed, asD k, R, h, fun v r H' g' le R' ir q => by
    obtain ⟨x, g'', le', R'', ix, q⟩ := ir.asD R' q
    exact kv v x H' g'' (le.trans le') R'' ix q, kx⟩
theorem lift.useP {x : D} (R : Rep K g σ H env) (h : p env = some x) (kv : ∀ v H' g', G.Le g g' → Rep K g' σ H' env → Is K g'.B v x → Q v H') : lift K W (dP p) σ H Q :=
  ⟨g, env, fun _ => False, asD (fun y => y = x), R, ⟨x, h, rfl⟩, fun v r H' g' le R' ir q => by
    obtain ⟨y, g'', le', R'', ix, rfl⟩ := ir.asD R' q
    exact kv v H' g'' (le.trans le') R'' ix, fun _ _ _ _ _ _ _ _ z => z.elim⟩
end
/-! ## names and constants -/
def pvar (i : Nat) : PF := fun env => match nth env i with
  | .d x => some x
  | _ => none
/-- any slot that is no list of the def's own -/
def dVar (i : Nat) : DE := fun env _ Q => match nth env i with
  | .d x => Q (.d x)
  | .pool => Q .pool
  | .scr ns => Q (.scr ns)
  | _ => False
def pc (x : D) : PF := fun _ => some x
section
variable {X : Cx} {W : WX} {e a b c : Expr} {i : Nat}
theorem qp_var (h : PE X e (tVar i)) : QP X e (pvar i) := fun W => h.mono fun σ H Q ⟨g, env, Ed, Qd, R, ⟨x, hx, q⟩, kv, kx⟩ => by
  have s := R.sl i
  unfold pvar at hx
  cases en : nth env i with
  | d y => rw [en] at s hx; cases hx; obtain ⟨v, e, iv⟩ := s; exact ⟨v, e, kv v (.d x) H g .rfl R iv q⟩
  | _ => rw [en] at hx; cases hx
theorem qe_var (h : PE X e (tVar i)) : QE X W e (dVar i) := h.mono fun σ H Q ⟨g, env, Ed, Qd, R, hx, kv, kx⟩ => by
  have s := R.sl i
  unfold dVar at hx
  cases en : nth env i with
  | d y => rw [en] at s hx; obtain ⟨v, e, iv⟩ := s; exact ⟨v, e, kv v (.d y) H g .rfl R iv hx⟩
  | pool => rw [en] at s hx; obtain ⟨v, e, iv⟩ := s; exact ⟨_, e, kv _ .pool H g .rfl R ⟨v, rfl, iv⟩ hx⟩
  | scr ns => rw [en] at s hx; obtain ⟨v, e, iv⟩ := s; exact ⟨_, e, kv _ (.scr ns) H g .rfl R ⟨v, rfl, iv⟩ hx⟩
  | _ => rw [en] at hx; exact hx.elim
theorem qp_c {v : V} {x : D} (h : PE X e (tC v)) (i : ∀ K B, Is K B v x) : QP X e (pc x) := fun W => h.mono fun σ H Q ⟨g, env, Ed, Qd, R, ⟨y, hx, q⟩, kv, kx⟩ => by
  cases hx
  exact kv v (.d x) H g .rfl R (i _ _) q
theorem qp_int {i : Int} {j pos} : QP X (.Constant (.int i) j pos) (pc (.int i)) := qp_c pe_int fun _ _ => .int i
theorem qp_bl {b j pos} : QP X (.Constant (.bool b) j pos) (pc (.bl b)) := qp_c pe_bl fun _ _ => .bl b
theorem qp_non {j pos} : QP X (.Constant .none j pos) (pc .non) := qp_c pe_non fun _ _ => .non
theorem qp_str {x : Str} {j pos} : QP X (.Constant (.str x) j pos) (pc (.str x)) := qp_c pe_str fun _ _ => .str x
theorem qp_cls {a : Addr} (h : PE X e (tC (.ref a))) : QP X e (pc (.cls a)) := qp_c h fun _ _ => .cls a
theorem qp_ty {n : String} (h : PE X e (tC (.ty n))) : QP X e (pc (.ty n)) := qp_c h fun _ _ => .ty n
/-! ## operators -/
structure Op2 (K : PySem.W.Frag) (r : R2) (f : D → D → Option D) : Prop where
  ok : ∀ {g : G} {σ : L2.St} {H : Hp} {env : List Ev} {v u : V} {x y z : D} {Q : VK}, Rep K g σ H env → Is K g.B v x → Is K g.B u y → f x y = some z →
    (∀ v' H' g', G.Le g g' → Rep K g' σ H' env → Is K g'.B v' z → Q v' H') → r v u H Q
def p2 (f : D → D → Option D) (pa pb : PF) : PF := fun env => match pa env, pb env with
  | some x, some y => f x y
  | _, _ => none
def d2 (f : D → D → Option D) (da db : DE) : DE := fun env Ed Q => da env Ed (asD fun x => db env Ed (asD fun y => ∃ z, f x y = some z ∧ Q (.d z)))
theorem p2_some {f pa pb env z} (h : p2 f pa pb env = some z) : ∃ x y, pa env = some x ∧ pb env = some y ∧ f x y = some z := by
  unfold p2 at h
  cases ea : pa env with
  | none => rw [ea] at h; cases h
  | some x => cases eb : pb env with
    | none => rw [ea, eb] at h; cases h
    | some y => rw [ea, eb] at h; exact ⟨x, y, rfl, rfl, h⟩
theorem lift_op {K : PySem.W.Frag} {r : R2} {f : D → D → Option D} {da db : DE} {σ : L2.St} {H : Hp} {Q : VK} (hf : Op2 K r f) (h : lift K W (d2 f da db) σ H Q) : tOp r (lift K W da) (lift K W db) σ H Q := by
  obtain ⟨g, env, Ed, Qd, R, h, kv, kx⟩ := h
  exact lift.useD R h (fun v x H1 g1 l1 R1 i1 q1 => lift.useD R1 q1 (fun u y H2 g2 l2 R2 i2 ⟨z, ez, qz⟩ => hf.ok R2 (i1.mono l2.b) i2 ez fun v' H3 g3 l3 R3 i3 => kv v' (.d z) H3 g3 (l1.trans (l2.trans l3)) R3 i3 qz) (kx.mono l1)) kx
theorem lift_p2 {K : PySem.W.Frag} {r : R2} {f : D → D → Option D} {pa pb : PF} {σ : L2.St} {H : Hp} {Q : VK} (hf : Op2 K r f) (h : lift K W (dP (p2 f pa pb)) σ H Q) : tOp r (lift K W (dP pa)) (lift K W (dP pb)) σ H Q := by
  obtain ⟨g, env, Ed, Qd, R, ⟨z, hz, q⟩, kv, kx⟩ := h
  obtain ⟨x, y, ex, ey, ez⟩ := p2_some hz
  exact lift.useP R ex fun v H1 g1 l1 R1 i1 => lift.useP R1 ey fun u H2 g2 l2 R2 i2 => hf.ok R2 (i1.mono l2.b) i2 ez fun v' H3 g3 l3 R3 i3 => kv v' (.d z) H3 g3 (l1.trans (l2.trans l3)) R3 i3 q
theorem qe_op {op : Operator} {r : R2} {f da db pos} (ho : OpR X (binaryOp op) r) (hf : Op2 X.K r f) (ha : QE X W a da) (hb : QE X W b db) : QE X W (.BinOp a op b pos) (d2 f da db) := (pe_op ho ha hb).mono fun _ _ _ h => lift_op hf h
theorem qp_op {op : Operator} {r : R2} {f pa pb pos} (ho : OpR X (binaryOp op) r) (hf : Op2 X.K r f) (ha : QP X a pa) (hb : QP X b pb) : QP X (.BinOp a op b pos) (p2 f pa pb) := fun W => (pe_op ho (ha W) (hb W)).mono fun _ _ _ h => lift_p2 hf h
theorem qe_cmp {op : CmpOp} {r : R2} {f da db pos} (ho : OpR X (compareOp op) r) (hf : Op2 X.K r f) (ha : QE X W a da) (hb : QE X W b db) (hm : behindInMarks op b = false) : QE X W (.Compare a [op] [b] pos) (d2 f da db) := (pe_cmpR ho ha hb hm).mono fun _ _ _ h => lift_op hf h
theorem qp_cmp {op : CmpOp} {r : R2} {f pa pb pos} (ho : OpR X (compareOp op) r) (hf : Op2 X.K r f) (ha : QP X a pa) (hb : QP X b pb) (hm : behindInMarks op b = false) : QP X (.Compare a [op] [b] pos) (p2 f pa pb) := fun W => (pe_cmpR ho (ha W) (hb W) hm).mono fun _ _ _ h => lift_p2 hf h
theorem qp_ix {r : R2} {f pa pb pos} (ho : IxR X r) (hf : Op2 X.K r f) (ha : QP X a pa) (hb : QP X b pb) (hs : PlainIx b) : QP X (.Subscript a b pos) (p2 f pa pb) := fun W => (pe_ix ho (ha W) (hb W) hs).mono fun _ _ _ h => lift_p2 hf h
theorem qe_ix {r : R2} {f da db pos} (ho : IxR X r) (hf : Op2 X.K r f) (ha : QE X W a da) (hb : QE X W b db) (hs : PlainIx b) : QE X W (.Subscript a b pos) (d2 f da db) := (pe_ix ho ha hb hs).mono fun _ _ _ h => lift_op hf h
/-- as a test -/
def dB (d : DE) : DT := fun env Ed Q => d env Ed fun r => ∃ b, r = .d (.bl b) ∧ Q b
theorem lift_dB {K : PySem.W.Frag} {d : DE} {σ : L2.St} {H : Hp} {Q : Bool → Hp → Prop} (h : liftT K W (dB d) σ H Q) : lift K W d σ H (fun v H' => ∃ k, v = .bl k ∧ Q k H') := by
  obtain ⟨g, env, Ed, Qd, R, h, kv, kx⟩ := h
  refine lift.use R h (fun v r H' g' le R' ir ⟨b, e, q⟩ => ?_) kx
  subst e
  exact ⟨b, Is.blE ir, kv b H' g' le R' q⟩
theorem qt_cmp {op : CmpOp} {r : R2} {f da db pos} (ho : OpR X (compareOp op) r) (hf : Op2 X.K r f) (ha : QE X W a da) (hb : QE X W b db) (hm : behindInMarks op b = false) : QT X W (.Compare a [op] [b] pos) (dB (d2 f da db)) := (pt_cmpR ho ha hb hm).mono fun _ _ _ h => lift_op hf (lift_dB h)
theorem dPT_dP {p : PF} {env Ed Q} (h : dPT p env Ed Q) : dB (dP p) env Ed Q := let ⟨b, e, q⟩ := h; ⟨.bl b, e, b, rfl, q⟩
theorem liftT.imp {K : PySem.W.Frag} {d d' : DT} {σ : L2.St} {H : Hp} {Q : Bool → Hp → Prop} (m : ∀ env Ed Q, d' env Ed Q → d env Ed Q) (h : liftT K W d' σ H Q) : liftT K W d σ H Q :=
  let ⟨g, env, Ed, Qd, R, h, kv, kx⟩ := h; ⟨g, env, Ed, Qd, R, m _ _ _ h, kv, kx⟩
theorem lift.imp {K : PySem.W.Frag} {d d' : DE} {σ : L2.St} {H : Hp} {Q : VK} (m : ∀ env Ed Q, d' env Ed Q → d env Ed Q) (h : lift K W d' σ H Q) : lift K W d σ H Q :=
  let ⟨g, env, Ed, Qd, R, h, kv, kx⟩ := h; ⟨g, env, Ed, Qd, R, m _ _ _ h, kv, kx⟩
theorem qpt_cmp {op : CmpOp} {r : R2} {f pa pb pos} (ho : OpR X (compareOp op) r) (hf : Op2 X.K r f) (ha : QP X a pa) (hb : QP X b pb) (hm : behindInMarks op b = false) : QPT X (.Compare a [op] [b] pos) (p2 f pa pb) := fun W => (pt_cmpR ho (ha W) (hb W) hm).mono fun _ _ _ h => lift_p2 hf (lift_dB (h.imp fun _ _ _ => dPT_dP))
theorem qe_p {p} (h : QP X e p) : QE X W e (dP p) := h W
theorem qt_p {p} (h : QPT X e p) : QT X W e (dPT p) := h W
/-! ### chains of two comparisons -/
def andD (x y : Option D) : Option D := match x with
  | some (.bl a) => match y with
    | some (.bl b) => some (.bl (a && b))
    | _ => if a = true then none else some (.bl false)
  | _ => none
def orD (x y : Option D) : Option D := match x with
  | some (.bl a) => match y with
    | some (.bl b) => some (.bl (a || b))
    | _ => if a = true then some (.bl true) else none
  | _ => none
def notD : D → Option D
  | .bl b => some (.bl (!b))
  | _ => none
theorem andD_some {x y z} (h : andD x y = some z) : ∃ a, x = some (.bl a) ∧ ((a = true ∧ ∃ b, y = some (.bl b) ∧ z = .bl b) ∨ (a = false ∧ z = .bl false)) := by
  unfold andD at h
  split at h
  · rename_i a
    refine ⟨a, rfl, ?_⟩
    split at h
    · rename_i b
      cases h
      cases a with
      | true => exact .inl ⟨rfl, b, rfl, by simp⟩
      | false => exact .inr ⟨rfl, by simp⟩
    · cases a with
      | true => simp at h
      | false => simp at h; exact .inr ⟨rfl, h.symm⟩
  · cases h
theorem orD_some {x y z} (h : orD x y = some z) : ∃ a, x = some (.bl a) ∧ ((a = false ∧ ∃ b, y = some (.bl b) ∧ z = .bl b) ∨ (a = true ∧ z = .bl true)) := by
  unfold orD at h
  split at h
  · rename_i a
    refine ⟨a, rfl, ?_⟩
    split at h
    · rename_i b
      cases h
      cases a with
      | false => exact .inl ⟨rfl, b, rfl, by simp⟩
      | true => exact .inr ⟨rfl, by simp⟩
    · cases a with
      | false => simp at h
      | true => simp at h; exact .inr ⟨rfl, h.symm⟩
  · cases h
/-! ## and, or, not, if .. else -/
def pand (pa pb : PF) : PF := fun env => andD (pa env) (pb env)
def por (pa pb : PF) : PF := fun env => orD (pa env) (pb env)
def p1 (f : D → Option D) (pa : PF) : PF := fun env => match pa env with
  | some x => f x
  | none => none
theorem p1_some {f pa env z} (h : p1 f pa env = some z) : ∃ x, pa env = some x ∧ f x = some z := by
  unfold p1 at h
  cases ea : pa env with
  | none => rw [ea] at h; cases h
  | some x => rw [ea] at h; exact ⟨x, rfl, h⟩
def dand (da db : DE) : DE := fun env Ed Q => da env Ed fun r => ∃ c, r = .d (.bl c) ∧ (c = true → db env Ed Q) ∧ (c = false → Q (.d (.bl false)))
def dor (da db : DE) : DE := fun env Ed Q => da env Ed fun r => ∃ c, r = .d (.bl c) ∧ (c = true → Q (.d (.bl true))) ∧ (c = false → db env Ed Q)
def d1 (f : D → Option D) (da : DE) : DE := fun env Ed Q => da env Ed (asD fun x => ∃ z, f x = some z ∧ Q (.d z))
theorem pand_and {pa pb : PF} {env Ed Q} (h : dP (pand pa pb) env Ed Q) : dand (dP pa) (dP pb) env Ed Q := by
  obtain ⟨z, h, q⟩ := h
  obtain ⟨k, e1, h⟩ := andD_some h
  rcases h with ⟨rfl, b, e2, rfl⟩ | ⟨rfl, rfl⟩
  · exact ⟨_, e1, true, rfl, fun _ => ⟨_, e2, q⟩, fun z => by cases z⟩
  · exact ⟨_, e1, false, rfl, fun z => (by cases z), fun _ => q⟩
theorem qe_and {da db rest pos} (ha : QE X W a da) (hb : QE X W (.BoolOp .And (b :: rest) pos) db) : QE X W (.BoolOp .And (a :: b :: rest) pos) (dand da db) := (pe_and ha hb).mono fun σ H Q ⟨g, env, Ed, Qd, R, h, kv, kx⟩ => by
  refine lift.use R h (fun v r H1 g1 l1 R1 i1 ⟨c, e, q1, q2⟩ => ?_) kx
  subst e
  refine ⟨c, Is.blE i1, ?_⟩
  cases c with
  | true => rw [if_pos rfl]; exact lift.use R1 (q1 rfl) (kv.mono l1) (kx.mono l1)
  | false => rw [if_neg (by decide)]; exact kv _ (.d (.bl false)) H1 g1 l1 R1 (Is.bl false) (q2 rfl)
theorem qe_or {da db rest pos} (ha : QE X W a da) (hb : QE X W (.BoolOp .Or (b :: rest) pos) db) : QE X W (.BoolOp .Or (a :: b :: rest) pos) (dor da db) := (pe_or ha hb).mono fun σ H Q ⟨g, env, Ed, Qd, R, h, kv, kx⟩ => by
  refine lift.use R h (fun v r H1 g1 l1 R1 i1 ⟨c, e, q1, q2⟩ => ?_) kx
  subst e
  refine ⟨c, Is.blE i1, ?_⟩
  cases c with
  | true => rw [if_pos rfl]; exact kv _ (.d (.bl true)) H1 g1 l1 R1 (Is.bl true) (q1 rfl)
  | false => rw [if_neg (by decide)]; exact lift.use R1 (q2 rfl) (kv.mono l1) (kx.mono l1)
theorem qp_one {op p pos} (h : QP X a p) : QP X (.BoolOp op [a] pos) p := fun W => pe_one (h W)
theorem qe_one {op d pos} (h : QE X W a d) : QE X W (.BoolOp op [a] pos) d := pe_one h
theorem qp_and {pa pb rest pos} (ha : QP X a pa) (hb : QP X (.BoolOp .And (b :: rest) pos) pb) : QP X (.BoolOp .And (a :: b :: rest) pos) (pand pa pb) := fun W => (qe_and (ha W) (hb W)).mono fun _ _ _ h => h.imp fun _ _ _ => pand_and
theorem qe_not {d pos} (h : QE X W a d) : QE X W (.UnaryOp .Not a pos) (d1 notD d) := (pe_not h).mono fun σ H Q ⟨g, env, Ed, Qd, R, h, kv, kx⟩ => by
  refine lift.useD R h (fun v x H1 g1 l1 R1 i1 ⟨z, e, q⟩ => ?_) kx
  cases x with
  | bl b => cases e; exact ⟨b, i1.blE, kv _ (.d (.bl (!b))) H1 g1 l1 R1 (Is.bl (!b)) q⟩
  | _ => cases e
theorem p1_d1 {f p env Ed Q} (h : dP (p1 f p) env Ed Q) : d1 f (dP p) env Ed Q := by
  obtain ⟨z, h, q⟩ := h
  obtain ⟨x, e1, e2⟩ := p1_some h
  exact ⟨x, e1, z, e2, q⟩
theorem qp_not {p pos} (h : QP X a p) : QP X (.UnaryOp .Not a pos) (p1 notD p) := fun W => (qe_not (h W)).mono fun _ _ _ h => h.imp fun _ _ _ => p1_d1
/-! ### tests -/
def tand (da db : DT) : DT := fun env Ed Q => da env Ed fun c => (c = true → db env Ed Q) ∧ (c = false → Q false)
def tor (da db : DT) : DT := fun env Ed Q => da env Ed fun c => (c = true → Q true) ∧ (c = false → db env Ed Q)
def tnot (da : DT) : DT := fun env Ed Q => da env Ed fun c => Q (!c)
section
variable {K : PySem.W.Frag} {σ : L2.St} {H : Hp} {Q : Bool → Hp → Prop} {da db : DT}
theorem lift_tand (h : liftT K W (tand da db) σ H Q) : tAnd (liftT K W da) (liftT K W db) σ H Q := by
  obtain ⟨g, env, Ed, Qd, R, h, kv, kx⟩ := h
  refine ⟨g, env, Ed, _, R, h, fun c H1 g1 l1 R1 ⟨q1, q2⟩ => ?_, kx⟩
  cases c with
  | true => rw [if_pos rfl]; exact ⟨g1, env, Ed, Qd, R1, q1 rfl, fun b H' g' l => kv b H' g' (l1.trans l), kx.mono l1⟩
  | false => rw [if_neg (by decide)]; exact kv false H1 g1 l1 R1 (q2 rfl)
theorem lift_tor (h : liftT K W (tor da db) σ H Q) : tOr (liftT K W da) (liftT K W db) σ H Q := by
  obtain ⟨g, env, Ed, Qd, R, h, kv, kx⟩ := h
  refine ⟨g, env, Ed, _, R, h, fun c H1 g1 l1 R1 ⟨q1, q2⟩ => ?_, kx⟩
  cases c with
  | true => rw [if_pos rfl]; exact kv true H1 g1 l1 R1 (q1 rfl)
  | false => rw [if_neg (by decide)]; exact ⟨g1, env, Ed, Qd, R1, q2 rfl, fun b H' g' l => kv b H' g' (l1.trans l), kx.mono l1⟩
theorem pand_tand {pa pb : PF} {env Ed Q} (h : dPT (pand pa pb) env Ed Q) : tand (dPT pa) (dPT pb) env Ed Q := by
  obtain ⟨z, h, q⟩ := h
  obtain ⟨k, e1, h⟩ := andD_some h
  rcases h with ⟨rfl, b, e2, e3⟩ | ⟨rfl, e3⟩
  · cases e3; exact ⟨_, e1, fun _ => ⟨_, e2, q⟩, fun z => by cases z⟩
  · cases e3; exact ⟨_, e1, fun z => (by cases z), fun _ => q⟩
theorem por_tor {pa pb : PF} {env Ed Q} (h : dPT (por pa pb) env Ed Q) : tor (dPT pa) (dPT pb) env Ed Q := by
  obtain ⟨z, h, q⟩ := h
  obtain ⟨k, e1, h⟩ := orD_some h
  rcases h with ⟨rfl, b, e2, e3⟩ | ⟨rfl, e3⟩
  · cases e3; exact ⟨_, e1, fun z => (by cases z), fun _ => ⟨_, e2, q⟩⟩
  · cases e3; exact ⟨_, e1, fun _ => q, fun z => by cases z⟩
end
theorem qw_and {da db rest pos} (ha : QT X W a da) (hb : QW X W (.BoolOp .And (b :: rest) pos) db) : QW X W (.BoolOp .And (a :: b :: rest) pos) (tand da db) := (pw_and ha hb).mono fun _ _ _ h => lift_tand h
theorem qw_or {da db rest pos} (ha : QT X W a da) (hb : QW X W (.BoolOp .Or (b :: rest) pos) db) : QW X W (.BoolOp .Or (a :: b :: rest) pos) (tor da db) := (pw_or ha hb).mono fun _ _ _ h => lift_tor h
theorem qw_or1 {d pos} (h : QT X W a d) : QW X W (.BoolOp .Or [a] pos) d := pw_or1 h
theorem QW.qt {d} (h : QW X W e d) : QT X W e d := PW.pt h
def QPW (X : Cx) (e : Expr) (p : PF) : Prop := ∀ W, QW X W e (dPT p)
theorem qpw_and {pa pb rest pos} (ha : QPT X a pa) (hb : QPW X (.BoolOp .And (b :: rest) pos) pb) : QPW X (.BoolOp .And (a :: b :: rest) pos) (pand pa pb) := fun W => (qw_and (ha W) (hb W)).mono fun _ _ _ h => h.imp fun _ _ _ => pand_tand
theorem qpw_or {pa pb rest pos} (ha : QPT X a pa) (hb : QPW X (.BoolOp .Or (b :: rest) pos) pb) : QPW X (.BoolOp .Or (a :: b :: rest) pos) (por pa pb) := fun W => (qw_or (ha W) (hb W)).mono fun _ _ _ h => h.imp fun _ _ _ => por_tor
theorem qpw_and1 {d pos} (h : QPT X a d) : QPW X (.BoolOp .And [a] pos) d := fun W => pw_and1 (h W)
theorem qpw_or1 {d pos} (h : QPT X a d) : QPW X (.BoolOp .Or [a] pos) d := fun W => pw_or1 (h W)
theorem QPW.qpt {d} (h : QPW X e d) : QPT X e d := fun W => PW.pt (h W)
theorem qt_not {d pos} (h : QT X W a d) : QT X W (.UnaryOp .Not a pos) (tnot d) := (pt_not h).mono fun σ H Q ⟨g, env, Ed, Qd, R, h, kv, kx⟩ => ⟨g, env, Ed, _, R, h, fun c H1 g1 l1 R1 q => kv (!c) H1 g1 l1 R1 q, kx⟩
theorem qpt_not {p pos} (h : QPT X a p) : QPT X (.UnaryOp .Not a pos) (p1 notD p) := fun W => (qt_not (h W)).mono fun _ _ _ h => h.imp fun env Ed Q ⟨b, e, q⟩ => by
  obtain ⟨x, e1, e2⟩ := p1_some e
  cases x with
  | bl c => cases e2; exact ⟨c, e1, q⟩
  | _ => cases e2
/-- a value's truth -/
def truD : D → Option D
  | .non => some (.bl false)
  | .bl b => some (.bl b)
  | .int i => some (.bl (i != 0))
  | .lst l => some (.bl (!l.isEmpty))
  | .tup l => some (.bl (!l.isEmpty))
  | .dic ks _ => some (.bl (!ks.isEmpty))
  | _ => none
theorem Iss.isEmpty {K B xs ds} (h : Iss K B xs ds) : xs.isEmpty = ds.isEmpty := by cases h <;> rfl
theorem tru_is {K : PySem.W.Frag} {B H : Hp} {v : V} {x : D} {k : Bool} (s : Same B H) (i : Is K B v x) (h : truD x = some (.bl k)) : TruV K v H k := by
  cases i <;> simp [truD] at h
  · exact h
  · exact h.symm
  · exact h.symm
  · rename_i l a z; exact .inl ⟨_, SqL.of (s _ _ l), by rw [a.isEmpty, h, Bool.not_not]⟩
  · rename_i l a z; exact .inr (.inl ⟨_, SqT.of (s _ _ l), by rw [a.isEmpty, h, Bool.not_not]⟩)
  · rename_i l hk a z
    refine .inr (.inr ⟨_, s _ _ l, ?_⟩)
    have : ∀ {kvs : List (Key × V)} {ks : List Int}, kvs.map (·.1) = ks.map Sum.inl → kvs.isEmpty = ks.isEmpty := fun {kvs ks} e => by
      cases kvs <;> cases ks <;> first | rfl | simp at e
    rw [this hk, h, Bool.not_not]
def dTru (d : DE) : DT := fun env Ed Q => d env Ed (asD fun x => ∃ k, truD x = some (.bl k) ∧ Q k)
theorem qt_truth {d} (h : QE X W a d) (he : ∀ whole, isTrue a X.env whole = (do let v ← whole; standAt a.pos; holding [v] (truthy v)) := by intro _; rfl) : QT X W a (dTru d) := (pt_truth h he).mono fun σ H Q ⟨g, env, Ed, Qd, R, h, kv, kx⟩ => by
  refine lift.useD R h (fun v x H1 g1 l1 R1 i1 ⟨k, e, q⟩ => ?_) kx
  exact ⟨k, tru_is R1.ok.sb i1 e, kv k H1 g1 l1 R1 q⟩
theorem qpt_truth {p} (h : QP X a p) (he : ∀ whole, isTrue a X.env whole = (do let v ← whole; standAt a.pos; holding [v] (truthy v)) := by intro _; rfl) : QPT X a (p1 truD p) := fun W => (qt_truth (h W) he).mono fun _ _ _ h => h.imp fun env Ed Q ⟨b, e, q⟩ => by
  obtain ⟨x, e1, e2⟩ := p1_some e
  exact ⟨x, e1, b, e2, q⟩
/-! ### a if c else b -/
end
/-! ## arguments, lists and tuples -/
def argR (k : Ar → Prop) : Ar → Prop
  | .fr l => k (.d l.d)
  | a => k a
def daNil : DA := fun _ _ Q => Q []
def daCons (d : DE) (r : DA) : DA := fun env Ed Q => d env Ed (argR fun a => r env Ed fun as => Q (a :: as))
def allD : List Ar → Option (List D)
  | [] => some []
  | .d x :: r => match allD r with
    | some l => some (x :: l)
    | none => none
  | _ :: _ => none
def dTup (da : DA) : DE := fun env Ed Q => da env Ed fun as => ∃ l, allD as = some l ∧ l.length ≤ 1000 ∧ Q (.d (.tup l))
def dLst (da : DA) : DE := fun env Ed Q => da env Ed fun as => ∃ l, allD as = some l ∧ l.length ≤ 1000 ∧ Q (.fr (.ls l))
def evs : List PF → List Ev → Option (List D)
  | [], _ => some []
  | p :: r, env => match p env, evs r env with
    | some x, some l => some (x :: l)
    | _, _ => none
def daP (ps : List PF) : DA := fun env _ Q => ∃ xs, evs ps env = some xs ∧ Q (xs.map .d)
theorem evs_some {p r env z} (h : evs (p :: r) env = some z) : ∃ x l, p env = some x ∧ evs r env = some l ∧ z = x :: l := by
  unfold evs at h
  cases ea : p env with
  | none => rw [ea] at h; cases h
  | some x => cases eb : evs r env with
    | none => rw [ea, eb] at h; cases h
    | some y => rw [ea, eb] at h; cases h; exact ⟨x, y, rfl, rfl, rfl⟩
theorem allD_map : ∀ l : List D, allD (l.map .d) = some l
  | [] => rfl
  | x :: r => by rw [List.map_cons, allD, allD_map r]
section
variable {K : PySem.W.Frag} {g : G}
theorem IsAs.all : ∀ {vs as l}, IsAs K g vs as → allD as = some l → Iss K g.B vs l
  | _, _, _, .nil, h => by cases h; exact .nil
  | _, _, _, @IsAs.d _ _ v x vs as i t, h => by
    unfold allD at h
    cases e : allD as with
    | none => rw [e] at h; cases h
    | some m => rw [e] at h; cases h; exact .cons i (t.all e)
  | _, _, _, .pool _ _, h => by cases h
  | _, _, _, .scr _ _, h => by cases h
theorem IsAs.ofD : ∀ {vs l}, Iss K g.B vs l → IsAs K g vs (l.map .d)
  | _, _, .nil => .nil
  | _, _, .cons h t => .d h (IsAs.ofD t)
end
section
variable {X : Cx} {W : WX} {e : Expr} {es : List Expr}
theorem qa_nil : QA X W [] daNil := pa_nil.mono fun σ H Q ⟨g, env, Ed, Qd, R, h, kv, kx⟩ => kv [] [] H g .rfl R .nil h
theorem IsR.arg {K : PySem.W.Frag} {g : G} {σ : L2.St} {H : Hp} {env : List Ev} (r : Rep K g σ H env) {v : V} {a : Ar} {k : Ar → Prop} (h : IsR K g H v a) (q : argR k a) : ∃ b g', G.Le g g' ∧ Rep K g' σ H env ∧ (∀ g'' vs as, G.Le g' g'' → IsAs K g'' vs as → IsAs K g'' (v :: vs) (b :: as)) ∧ k b := by
  cases a with
  | d x => exact ⟨_, g, .rfl, r, fun g'' vs as le t => .d (Is.mono le.b h) t, q⟩
  | pool => obtain ⟨p, rfl, m⟩ := h; exact ⟨_, g, .rfl, r, fun g'' vs as le t => .pool (le.m _ m) t, q⟩
  | scr ns => obtain ⟨p, rfl, m⟩ := h; exact ⟨_, g, .rfl, r, fun g'' vs as le t => .scr (by rw [le.h0, le.m0, le.xa]; exact m) t, q⟩
  | fr l => obtain ⟨fs, o, ns⟩ := h; exact ⟨_, _, G.frz_le o.pv, r.frzR o ns, fun g'' vs as le t => .d (Is.mono le.b (.frz o)) t, q⟩
theorem qa_cons {d r} (h : QE X W e d) (t : QA X W es r) (hs : starEach (e :: es) X.env = (false, eval e X.env) :: starEach es X.env := by rfl) : QA X W (e :: es) (daCons d r) := (pa_cons h t hs).mono fun σ H Q ⟨g, env, Ed, Qd, R, h, kv, kx⟩ => by
  refine lift.use R h (fun v a H1 g1 l1 R1 i1 q1 => ?_) kx
  obtain ⟨b, g2, l2, R2, add, q⟩ := i1.arg R1 q1
  exact ⟨g2, env, Ed, _, R2, q, fun vs as H3 g3 l3 R3 i3 q3 => kv _ _ H3 g3 ((l1.trans l2).trans l3) R3 (add _ _ _ l3 i3) q3, (kx.mono l1).mono l2⟩
def QPs (X : Cx) (es : List Expr) (ps : List PF) : Prop := ∀ W, QA X W es (daP ps)
theorem qps_nil : QPs X [] [] := fun W => qa_nil.mono fun σ H Q ⟨g, env, Ed, Qd, R, ⟨xs, e, h⟩, kv, kx⟩ => by
  cases e
  exact ⟨g, env, Ed, Qd, R, h, kv, kx⟩
theorem qps_cons {p ps} (h : QP X e p) (t : QPs X es ps) (hs : starEach (e :: es) X.env = (false, eval e X.env) :: starEach es X.env := by rfl) : QPs X (e :: es) (p :: ps) := fun W => (qa_cons (h W) (t W) hs).mono fun σ H Q ⟨g, env, Ed, Qd, R, ⟨xs, e, h⟩, kv, kx⟩ => by
  obtain ⟨x, l, e1, e2, rfl⟩ := evs_some e
  exact ⟨g, env, Ed, Qd, R, ⟨x, e1, l, e2, h⟩, kv, kx⟩
theorem len_1000 {n : Nat} (h : n ≤ 1000) : n ≤ sizeLine := by rw [sizeLine_eq]; omega
theorem qe_tup {da x1 pos} (h : QA X W es da) : QE X W (.Tuple es x1 pos) (dTup da) := (pe_tup h).mono fun σ H Q ⟨g, env, Ed, Qd, R, h, kv, kx⟩ => by
  refine ⟨g, env, Ed, _, R, h, fun vs as H1 g1 l1 R1 i1 ⟨l, e, z, q⟩ => ⟨?_, fun p hp => ?_⟩, kx⟩
  · rw [(i1.all e).length]; exact len_1000 z
  · have i2 := i1.all e
    refine kv _ (.d (.tup l)) _ _ (l1.trans (R1.le_new hp)) (R1.new hp) (Is.tup (xs := vs) (by show upd g1.B p _ p = _; exact upd_same) (i2.mono (R1.le_new hp).b) (by rw [i2.length]; omega)) q
theorem qe_lst {da pos} (h : QA X W es da) : QE X W (.List es pos) (dLst da) := (pe_lst h).mono fun σ H Q ⟨g, env, Ed, Qd, R, h, kv, kx⟩ => by
  refine ⟨g, env, Ed, _, R, h, fun vs as H1 g1 l1 R1 i1 ⟨l, e, z, q⟩ => ⟨?_, fun p hp => ?_⟩, kx⟩
  · rw [(i1.all e).length]; exact len_1000 z
  · obtain ⟨R2, r2⟩ := upd_own R1 hp (i1.all e) (by rw [(i1.all e).length]; omega)
    exact kv _ _ _ _ l1 R2 r2 q
def ptup (ps : List PF) : PF := fun env => match evs ps env with
  | some l => some (.tup l)
  | none => none
def plst (ps : List PF) : PF := fun env => match evs ps env with
  | some l => some (.lst l)
  | none => none
theorem evs_len : ∀ {ps env l}, evs ps env = some l → l.length = ps.length
  | [], _, _, h => by cases h; rfl
  | p :: ps, _, _, h => by
    obtain ⟨x, m, _, e, rfl⟩ := evs_some h
    rw [List.length_cons, List.length_cons, evs_len e]
theorem qp_tup {ps x1 pos} (h : QPs X es ps) (z : ps.length ≤ 1000 := by decide) : QP X (.Tuple es x1 pos) (ptup ps) := fun W => (qe_tup (h W)).mono fun σ H Q ⟨g, env, Ed, Qd, R, ⟨x, e, q⟩, kv, kx⟩ => by
  unfold ptup at e
  cases ee : evs ps env with
  | none => rw [ee] at e; cases e
  | some l => rw [ee] at e; cases e; exact ⟨g, env, Ed, Qd, R, ⟨l, ee, l, allD_map l, by rw [evs_len ee]; exact z, q⟩, kv, kx⟩
/-- a fresh list as data -/
theorem lift_fr {K : PySem.W.Frag} {g : G} {σ : L2.St} {H : Hp} {env : List Ev} {Ed : Er → Prop} {Qd : Ar → Prop} {Q : VK} {l : List D} (kv : KV K g σ env Qd Q) (q : Qd (.d (.lst l))) : KV K g σ env (fun r => r = .fr (.ls l)) Q := fun v r H' g' le R' ir e => by
  subst e
  obtain ⟨fs, o, ns⟩ := ir
  exact kv _ (.d (.lst l)) H' _ (le.trans (G.frz_le o.pv)) (R'.frzR o ns) (.frz o) q
theorem qp_lst {ps pos} (h : QPs X es ps) (z : ps.length ≤ 1000 := by decide) : QP X (.List es pos) (plst ps) := fun W => (qe_lst (h W)).mono fun σ H Q ⟨g, env, Ed, Qd, R, ⟨x, e, q⟩, kv, kx⟩ => by
  unfold plst at e
  cases ee : evs ps env with
  | none => rw [ee] at e; cases e
  | some l => rw [ee] at e; cases e; exact ⟨g, env, Ed, fun r => r = .fr (.ls l), R, ⟨l, ee, l, allD_map l, by rw [evs_len ee]; exact z, rfl⟩, lift_fr (H := H) (Ed := Ed) kv q, kx⟩
end
end LR
set_option Elab.async false
set_option maxRecDepth 100000
set_option linter.all false
set_option maxHeartbeats 4000000
namespace LR
open PySem PySem.Spec PyProof.Rows L2
/-! # the data layer: the operators -/
theorem OpR.or {X : Cx} {f : Value → Value → Sem Value} {r r' : R2} (h : OpR X f r) (h' : OpR X f r') : OpR X f (fun x y H Q => r x y H Q ∨ r' x y H Q) := by
  intro pins s σ H x y v u Q I rx ry q
  rcases q with q | q
  · exact h pins s σ H x y v u Q I rx ry q
  · exact h' pins s σ H x y v u Q I rx ry q
theorem IxR.or {X : Cx} {r r' : R2} (h : IxR X r) (h' : IxR X r') : IxR X (fun x y H Q => r x y H Q ∨ r' x y H Q) := by
  intro value slice pins s σ H x y v u Q I rx ry q hs
  rcases q with q | q
  · exact h value slice pins s σ H x y v u Q I rx ry q hs
  · exact h' value slice pins s σ H x y v u Q I rx ry q hs
theorem CallR.or {X : Cx} {f : Value} {r r' : List V → Hp → VK → Prop} (h : CallR X f r) (h' : CallR X f r') : CallR X f (fun xs H Q => r xs H Q ∨ r' xs H Q) := by
  intro pins s σ H xs us Q I rx q
  rcases q with q | q
  · exact h pins s σ H xs us Q I rx q
  · exact h' pins s σ H xs us Q I rx q
section
variable {K : PySem.W.Frag}
/-- a new list, a new tuple, as data -/
theorem new_lst {g : G} {σ : L2.St} {H : Hp} {env : List Ev} (R : Rep K g σ H env) {xs : List V} {l : List D} (i : Iss K g.B xs l) (z : xs.length ≤ 100000) {Q : VK} (k : ∀ v' H' g', G.Le g g' → Rep K g' σ H' env → Is K g'.B v' (.lst l) → Q v' H') : ∀ p, H p = none → Q (.ref p) (upd H p (.lst xs)) :=
  fun p hp => k _ _ _ (R.le_new hp) (R.new hp) (.lst (xs := xs) (by show upd g.B p _ p = _; exact upd_same) (i.mono (R.le_new hp).b) z)
theorem new_tup {g : G} {σ : L2.St} {H : Hp} {env : List Ev} (R : Rep K g σ H env) {xs : List V} {l : List D} (i : Iss K g.B xs l) (z : xs.length ≤ 100000) {Q : VK} (k : ∀ v' H' g', G.Le g g' → Rep K g' σ H' env → Is K g'.B v' (.tup l) → Q v' H') : ∀ p, H p = none → Q (.ref p) (upd H p (.tup xs)) :=
  fun p hp => k _ _ _ (R.le_new hp) (R.new hp) (.tup (xs := xs) (by show upd g.B p _ p = _; exact upd_same) (i.mono (R.le_new hp).b) z)
/-! ## + -/
def addD : D → D → Option D
  | .int i, .int j => some (.int (i + j))
  | .str a, .str b => if a.length + b.length ≤ 100000 then some (.str (a ++ b)) else none
  | .lst a, .lst b => if a.length + b.length ≤ 100000 then some (.lst (a ++ b)) else none
  | .tup a, .tup b => if a.length + b.length ≤ 100000 then some (.tup (a ++ b)) else none
  | _, _ => none
def rAddA (K : PySem.W.Frag) : R2 := fun x y H Q => (rI0 fun i j => .int (i + j)) x y H Q ∨ ((∃ i j, x = .str i ∧ y = .str j ∧ i.length + j.length ≤ sizeLine ∧ Q (.str (i ++ j)) H) ∨ (rCat x y H Q ∨ rCatA K x y H Q))
theorem op_addA {X : Cx} : OpR X (binaryOp .Add) (rAddA X.K) := OpR.or op_add (OpR.or op_add_str (OpR.or op_cat op_catA))
theorem line5 {n : Nat} (h : n ≤ 100000) : n ≤ sizeLine := by rw [sizeLine_eq]; omega
theorem o_add : Op2 K (rAddA K) addD := ⟨fun {g σ H env v u x y z Q} R i j e k => by
  have sb := R.ok.sb
  unfold addD at e
  split at e
  · cases e; exact .inl ⟨_, _, i.intE, j.intE, k _ _ _ .rfl R (.int _)⟩
  · split at e
    · rename_i h; cases e; exact .inr (.inl ⟨_, _, i.strE, j.strE, line5 h, k _ _ _ .rfl R (.str _)⟩)
    · cases e
  · split at e
    · rename_i h; cases e
      obtain ⟨p, xs, rfl, hp, ip, zp⟩ := i.lstE
      obtain ⟨q, ys, rfl, hq, iq, zq⟩ := j.lstE
      have l1 := ip.length
      have l2 := iq.length
      exact .inr (.inr (.inl ⟨p, q, xs, ys, rfl, rfl, sb _ _ hp, sb _ _ hq, line5 (by omega), new_lst R (ip.append iq) (by rw [List.length_append]; omega) k⟩))
    · cases e
  · split at e
    · rename_i h; cases e
      obtain ⟨p, xs, rfl, hp, ip, zp⟩ := i.tupE
      obtain ⟨q, ys, rfl, hq, iq, zq⟩ := j.tupE
      have l1 := ip.length
      have l2 := iq.length
      refine .inr (.inr (.inr ⟨p, q, xs, ys, rfl, rfl, SqT.of (sb _ _ hp), SqT.of (sb _ _ hq), line5 (by omega), fun ex => ?_, fun _ ey => ?_, fun _ _ => new_tup R (ip.append iq) (by rw [List.length_append]; omega) k⟩))
      · subst ex; cases ip; exact k _ _ _ .rfl R (.tup hq iq zq)
      · subst ey; cases iq; rw [List.append_nil] at k; exact k _ _ _ .rfl R (.tup hp ip zp)
    · cases e
  · cases e⟩
/-! ## ints -/
def subD : D → D → Option D
  | .int i, .int j => some (.int (i - j))
  | _, _ => none
theorem o_sub : Op2 K (rI0 fun i j => .int (i - j)) subD := ⟨fun {g σ H env v u x y z Q} R i j e k => by
  unfold subD at e
  split at e
  · cases e; exact ⟨_, _, i.intE, j.intE, k _ _ _ .rfl R (.int _)⟩
  · cases e⟩
def smI (i : Int) : Bool := decide (-1000000 < i) && decide (i < 1000000)
theorem smI_cm {i : Int} (h : smI i = true) : -(2 ^ 64) < i ∧ i < 2 ^ 64 := by
  unfold smI at h
  simp only [Bool.and_eq_true, decide_eq_true_eq] at h
  omega
/-- a text repeated -/
def repS (a : Str) (n : Nat) : Str := ⟨(List.replicate n a.cps).foldl (· ++ ·) #[]⟩
theorem repS_foldl (x : Array Nat) : ∀ (n : Nat) (b : Array Nat), ((List.replicate n x).foldl (· ++ ·) b).toList = b.toList ++ (List.replicate n x.toList).flatten
  | 0, b => by simp
  | n + 1, b => by rw [List.replicate_succ, List.foldl_cons, repS_foldl x n, Array.toList_append, List.replicate_succ, List.flatten_cons, List.append_assoc]
theorem repS_list (a : Str) (n : Nat) : (repS a n).cps.toList = (List.replicate n a.cps.toList).flatten := by
  exact (repS_foldl a.cps n #[]).trans (List.nil_append _)
theorem repS_len {a : Str} {n : Nat} : (repS a n).length = a.length * n := by
  show (repS a n).cps.size = a.cps.size * n
  rw [← Array.length_toList, repS_list]
  simp [Nat.mul_comm]
theorem repS_one {a : Str} : repS a (1 : Int).toNat = a := by
  cases a with
  | mk c =>
    unfold repS
    congr 1
    apply Array.toList_inj.mp
    simp
theorem repS_nil {a : Str} {n : Nat} (h : a.length = 0) : repS a n = a := by
  cases a with
  | mk c =>
    have e : c = #[] := Array.eq_empty_of_size_eq_zero h
    subst e
    unfold repS
    congr 1
    apply Array.toList_inj.mp
    have := repS_foldl #[] n #[]
    rw [this]; simp
/-- a product, a list or a tuple or a text repeated -/
def mulD : D → D → Option D
  | .int i, .int j => if (smI i || smI j) = true then some (.int (i * j)) else none
  | .lst l, .int j => if smI j = true ∧ l.length * j.toNat ≤ 100000 then some (.lst (List.replicate j.toNat l).flatten) else none
  | .str a, .int j => if smI j = true ∧ a.length * j.toNat ≤ 100000 then some (.str (repS a j.toNat)) else none
  | _, _ => none
def rRepS : R2 := fun x y H Q => ∃ a k, x = .str a ∧ y = .int k ∧ smI k = true ∧ a.length * k.toNat ≤ 100000 ∧ Q (.str (repS a k.toNat)) H
theorem op_repS {X : Cx} : OpR X (binaryOp .Mult) rRepS := by
  intro pins s σ H x y v u Q I rx ry h
  obtain ⟨a, k, rfl, rfl, hk, hz, q⟩ := h
  obtain ⟨t, rfl⟩ := rx
  obtain ⟨t', rfl⟩ := ry
  have sm := hk
  unfold smI at sm
  simp only [Bool.and_eq_true, decide_eq_true_eq] at sm
  have hz5 : a.length * k.toNat ≤ sizeLine := by rw [sizeLine_eq]; omega
  refine PySem.P.mul_str (by rw [decide_eq_false (by omega), decide_eq_false (by omega)]; rfl) (fun h1 h2 => ?_) (fun h1 h2 => ?_) ?_
  · have k1 : 1 ≤ k := by omega
    have : (a.length : Int) * k ≤ 100000 := by
      have e : ((a.length * k.toNat : Nat) : Int) = (a.length : Int) * k := by rw [Int.natCast_mul, Int.toNat_of_nonneg (by omega)]
      omega
    have : (a.length : Int) ≤ (2 ^ 63 - 1) / k := (Int.le_ediv_iff_mul_le (by omega)).mpr (by omega)
    omega
  · exact decide_eq_false (Nat.not_lt.mpr hz5)
  · by_cases c : k < 1
    · rw [if_pos c]
      have e : repS a k.toNat = Str.empty := by rw [show k.toNat = 0 by omega]; rfl
      rw [e] at q
      exact ⟨by decide, .str Str.empty, H, I.tok _, ⟨_, rfl⟩, q⟩
    · rw [if_neg c]
      by_cases d : (k == 1 || a.length == 0) = true
      · rw [if_pos d]
        have e : repS a k.toNat = a := by
          rcases (Bool.or_eq_true _ _).mp d with d | d
          · have : k = 1 := by simpa using d
            subst this
            exact repS_one
          · have : a.length = 0 := by simpa using d
            exact repS_nil this
        rw [e] at q
        exact ⟨.str a, H, I, ⟨_, rfl⟩, q⟩
      · rw [if_neg d]
        refine ⟨?_, .str _, H, I.tok _, ⟨_, rfl⟩, q⟩
        show (repS a k.toNat).length ≤ _
        rw [repS_len]; exact hz5
def rMulA : R2 := fun x y H Q => rI CMul (fun i j => .int (i * j)) x y H Q ∨ (rRep x y H Q ∨ rRepS x y H Q)
theorem op_mulA {X : Cx} : OpR X (binaryOp .Mult) rMulA := OpR.or op_mul (OpR.or op_rep op_repS)
theorem Iss.reps {B xs ds} (h : Iss K B xs ds) : ∀ n, Iss K B (List.replicate n xs).flatten (List.replicate n ds).flatten
  | 0 => .nil
  | n + 1 => by rw [List.replicate_succ, List.replicate_succ, List.flatten_cons, List.flatten_cons]; exact h.append (h.reps n)
theorem reps_len {α : Type} {l : List α} : ∀ n, (List.replicate n l).flatten.length = l.length * n
  | 0 => rfl
  | n + 1 => by rw [List.replicate_succ, List.flatten_cons, List.length_append, reps_len n, Nat.mul_succ]; omega
theorem o_mul : Op2 K rMulA mulD := ⟨fun {g σ H env v u x y z Q} R i j e k => by
  have sb := R.ok.sb
  unfold mulD at e
  split at e
  · rename_i a b
    split at e
    · rename_i h; cases e
      refine .inl ⟨_, _, i.intE, j.intE, ?_, k _ _ _ .rfl R (.int _)⟩
      rcases (Bool.or_eq_true _ _).mp h with h | h
      · exact .inl (smI_cm h)
      · exact .inr (smI_cm h)
    · cases e
  · rename_i l b
    split at e
    · rename_i h; cases e
      obtain ⟨p, xs, rfl, hp, ip, zp⟩ := i.lstE
      have l1 := ip.length
      have sm := smI_cm h.1
      have sm2 := h.1
      unfold smI at sm2
      simp only [Bool.and_eq_true, decide_eq_true_eq] at sm2
      exact .inr (.inl ⟨p, b, xs, rfl, j.intE, sb _ _ hp, by omega, by omega, line5 (by rw [l1]; exact h.2), new_lst R (ip.reps _) (by rw [reps_len, l1]; exact h.2) k⟩)
    · cases e
  · split at e
    · rename_i h; cases e
      exact .inr (.inr ⟨_, _, i.strE, j.intE, h.1, h.2, k _ _ _ .rfl R (.str _)⟩)
    · cases e
  · cases e⟩
def modD : D → D → Option D
  | .int i, .int j => if 0 < j then some (.int (i % j)) else none
  | _, _ => none
theorem o_mod : Op2 K (rI (fun _ j => 0 < j) fun i j => .int (i % j)) modD := ⟨fun {g σ H env v u x y z Q} R i j e k => by
  unfold modD at e
  split at e
  · split at e
    · rename_i h; cases e; exact ⟨_, _, i.intE, j.intE, h, k _ _ _ .rfl R (.int _)⟩
    · cases e
  · cases e⟩
def fdivD : D → D → Option D
  | .int i, .int j => if 0 < j ∧ j < 1073741824 then some (.int (i / j)) else none
  | _, _ => none
theorem o_fdiv : Op2 K (rI CDiv fun i j => .int (i / j)) fdivD := ⟨fun {g σ H env v u x y z Q} R i j e k => by
  unfold fdivD at e
  split at e
  · split at e
    · rename_i h; cases e; exact ⟨_, _, i.intE, j.intE, h, k _ _ _ .rfl R (.int _)⟩
    · cases e
  · cases e⟩
def cmpD (f : Int → Int → Bool) : D → D → Option D
  | .int i, .int j => some (.bl (f i j))
  | _, _ => none
theorem o_cmp {f : Int → Int → Bool} : Op2 K (rI0 fun i j => .bl (f i j)) (cmpD f) := ⟨fun {g σ H env v u x y z Q} R i j e k => by
  unfold cmpD at e
  split at e
  · cases e; exact ⟨_, _, i.intE, j.intE, k _ _ _ .rfl R (.bl _)⟩
  · cases e⟩
def isND : D → D → Option D
  | .non, .non => some (.bl true)
  | _, .non => some (.bl false)
  | _, _ => none
theorem is_non {B v x} (i : Is K B v x) : decide (v = .non) = (match x with | .non => true | _ => false) := by
  cases i <;> rfl
theorem o_isN : Op2 K (fun x y H Q => y = .non ∧ Q (.bl (decide (x = .non))) H) isND := ⟨fun {g σ H env v u x y z Q} R i j e k => by
  have := is_non i
  cases y with
  | non => 
    refine ⟨j.nonE, ?_⟩
    rw [this]
    cases x <;> (cases e; exact k _ _ _ .rfl R (.bl _))
  | _ => cases x <;> cases e⟩
/-! ## a[i] -/
def ixD : D → D → Option D
  | .lst l, .int i => atI l i
  | .tup l, .int i => atI l i
  | .str z, .int i => if z.length ≤ 100000 then (atI z.cps.toList i).map (fun c => .str ⟨#[c]⟩) else none
  | _, _ => none
def rIxA (K : PySem.W.Frag) : R2 := fun x y H Q => rIxL K x y H Q ∨ (rIxT K x y H Q ∨ rIxS x y H Q)
theorem ix_A {X : Cx} : IxR X (rIxA X.K) := IxR.or ix_list (IxR.or ix_tup ix_str)
theorem Iss.at {B xs ds i d} (h : Iss K B xs ds) (e : atI ds i = some d) : ∃ v, atI xs i = some v ∧ Is K B v d := by
  unfold atI at e ⊢
  rw [h.length]
  cases c : ixN ds.length i with
  | none => rw [c] at e; cases e
  | some j => rw [c] at e; exact h.getD e
theorem o_ix : Op2 K (rIxA K) ixD := ⟨fun {g σ H env v u x y z Q} R i j e k => by
  have sb := R.ok.sb
  unfold ixD at e
  split at e
  · obtain ⟨p, xs, rfl, hp, ip, zp⟩ := i.lstE
    obtain ⟨w, ew, iw⟩ := ip.at e
    exact .inl ⟨p, xs, _, w, rfl, j.intE, SqL.of (sb _ _ hp), ew, k _ _ _ .rfl R iw⟩
  · obtain ⟨p, xs, rfl, hp, ip, zp⟩ := i.tupE
    obtain ⟨w, ew, iw⟩ := ip.at e
    exact .inr (.inl ⟨p, xs, _, w, rfl, j.intE, SqT.of (sb _ _ hp), ew, k _ _ _ .rfl R iw⟩)
  · split at e
    · rename_i h
      obtain ⟨c, ec, rfl⟩ := Option.map_eq_some_iff.mp e
      exact .inr (.inr ⟨_, _, c, i.strE, j.intE, line5 h, ec, k _ _ _ .rfl R (.str _)⟩)
    · cases e
  · cases e⟩
/-! ## == of data -/
mutual
def D.py : D → PyData
  | .non => .none
  | .bl b => .bool b
  | .int i => .int i
  | .str x => .str x
  | .lst l => .list (pyL l)
  | .tup l => .tuple (pyL l)
  | .ins _ _ _ => .none
  | .cls _ => .none
  | .ty _ => .none
  | .dic _ _ => .none
def pyL : List D → List PyData
  | [] => []
  | x :: r => x.py :: pyL r
end
/-- data of nesting at most n, texts of real signs -/
def okn : Nat → D → Bool
  | _, .non => true
  | _, .bl _ => true
  | _, .int _ => true
  | _, .str x => PyData.strOk x
  | n + 1, .lst l => l.all (okn n)
  | n + 1, .tup l => l.all (okn n)
  | _, _ => false
theorem okn_lay : ∀ (n : Nat) (x : D), okn n x = true → x.py.canLay0 = true ∧ x.py.depth ≤ n ∧ ∀ (B : Hp) (v : V), Is K B v x → ∀ H, Same B H → Dp K H v x.py := by
  intro n
  induction n with
  | zero =>
    intro x h
    cases x with
    | non => exact ⟨by simp [D.py, PyData.canLay0], by simp [D.py, PyData.depth], fun B v i H s => by cases i; exact .non⟩
    | bl b => exact ⟨by simp [D.py, PyData.canLay0], by simp [D.py, PyData.depth], fun B v i H s => by cases i; exact .bl b⟩
    | int b => exact ⟨by simp [D.py, PyData.canLay0], by simp [D.py, PyData.depth], fun B v i H s => by cases i; exact .int b⟩
    | str b => exact ⟨by simpa [D.py, PyData.canLay0, okn] using h, by simp [D.py, PyData.depth], fun B v i H s => by cases i; exact .str b⟩
    | _ => simp [okn] at h
  | succ n ih =>
    have all : ∀ l : List D, l.all (okn n) = true → PyData.canLayAll0 (pyL l) = true ∧ PyData.depthAll (pyL l) ≤ n ∧ ∀ (B : Hp) (vs : List V), Iss K B vs l → ∀ H, Same B H → DpAll K H vs (pyL l) := by
      intro l
      induction l with
      | nil => intro _; exact ⟨by simp [pyL, PyData.canLayAll0], by simp [pyL, PyData.depthAll], fun B vs i H s => by cases i; exact .nil⟩
      | cons x r ihr =>
        intro h
        rw [List.all_cons, Bool.and_eq_true] at h
        obtain ⟨a1, a2, a3⟩ := ih x h.1
        obtain ⟨b1, b2, b3⟩ := ihr h.2
        refine ⟨by simp [pyL, PyData.canLayAll0, a1, b1], by simp only [pyL, PyData.depthAll]; omega, fun B vs i H s => ?_⟩
        cases i with
        | cons i1 i2 => exact .cons (a3 B _ i1 H s) (b3 B _ i2 H s)
    intro x h
    cases x with
    | non => exact ⟨by simp [D.py, PyData.canLay0], by simp [D.py, PyData.depth], fun B v i H s => by cases i; exact .non⟩
    | bl b => exact ⟨by simp [D.py, PyData.canLay0], by simp [D.py, PyData.depth], fun B v i H s => by cases i; exact .bl b⟩
    | int b => exact ⟨by simp [D.py, PyData.canLay0], by simp [D.py, PyData.depth], fun B v i H s => by cases i; exact .int b⟩
    | str b => exact ⟨by simpa [D.py, PyData.canLay0, okn] using h, by simp [D.py, PyData.depth], fun B v i H s => by cases i; exact .str b⟩
    | lst l =>
      obtain ⟨b1, b2, b3⟩ := all l (by simpa [okn] using h)
      refine ⟨by simpa [D.py, PyData.canLay0] using b1, by simp only [D.py, PyData.depth]; omega, fun B v i H s => ?_⟩
      obtain ⟨p, xs, rfl, hp, ip, zp⟩ := i.lstE
      exact .lst (SqL.of (s _ _ hp)) (b3 B _ ip H s)
    | tup l =>
      obtain ⟨b1, b2, b3⟩ := all l (by simpa [okn] using h)
      refine ⟨by simpa [D.py, PyData.canLay0] using b1, by simp only [D.py, PyData.depth]; omega, fun B v i H s => ?_⟩
      obtain ⟨p, xs, rfl, hp, ip, zp⟩ := i.tupE
      exact .tup (SqT.of (s _ _ hp)) (b3 B _ ip H s)
    | _ => simp [okn] at h
theorem okn_shaped (K : PySem.W.Frag) {x : D} (h : okn 30 x = true) : SeqAt.shaped x.py = true := by
  obtain ⟨a, b, _⟩ := okn_lay (K := K) 30 x h
  unfold SeqAt.shaped
  rw [Bool.and_eq_true]
  exact ⟨a, decide_eq_true (by omega)⟩
def deq (x y : D) : Bool := PyData.eqv x.py y.py
def eqD : D → D → Option D
  | .int i, .int j => some (.bl (decide (i = j)))
  | .str i, .str j => if PyData.strOk i = true ∧ PyData.strOk j = true then some (.bl (decide (i = j))) else none
  | .bl i, .bl j => some (.bl (decide (i = j)))
  | .non, .non => some (.bl true)
  | .non, .int _ => some (.bl false)
  | .int _, .non => some (.bl false)
  | x, y => if okn 30 x = true ∧ okn 30 y = true then some (.bl (deq x y)) else none
theorem eqD_deq {x y z : D} (h : eqD x y = some z) : okn 30 x = true ∧ okn 30 y = true ∧ z = .bl (deq x y) := by
  unfold eqD at h
  split at h
  · cases h; exact ⟨rfl, rfl, by simp [deq, D.py, PyData.eqv]; rw [Bool.eq_iff_iff]; simp⟩
  · split at h
    · rename_i h2; cases h; exact ⟨h2.1, h2.2, by simp [deq, D.py, PyData.eqv]; rw [Bool.eq_iff_iff]; simp⟩
    · cases h
  · cases h; exact ⟨rfl, rfl, by simp [deq, D.py, PyData.eqv]; rw [Bool.eq_iff_iff]; simp⟩
  · cases h; exact ⟨rfl, rfl, by simp [deq, D.py, PyData.eqv]⟩
  · cases h; exact ⟨rfl, rfl, by simp [deq, D.py, PyData.eqv]⟩
  · cases h; exact ⟨rfl, rfl, by simp [deq, D.py, PyData.eqv]⟩
  · split at h
    · rename_i h2; cases h; exact ⟨h2.1, h2.2, rfl⟩
    · cases h
def notO : Option D → Option D
  | some (.bl b) => some (.bl (!b))
  | _ => none
def neD (x y : D) : Option D := notO (eqD x y)
theorem notO_some {o z} (h : notO o = some z) : ∃ b, o = some (.bl b) ∧ z = .bl (!b) := by
  unfold notO at h
  split at h
  · cases h; exact ⟨_, rfl, rfl⟩
  · cases h
theorem o_eq : Op2 K (rEqD K) eqD := ⟨fun {g σ H env v u x y z Q} R i j e k => by
  obtain ⟨a, b, rfl⟩ := eqD_deq e
  exact ⟨_, _, (okn_lay 30 x a).2.2 _ _ i H R.ok.sb, (okn_lay 30 y b).2.2 _ _ j H R.ok.sb, okn_shaped K a, okn_shaped K b, k _ _ _ .rfl R (.bl _)⟩⟩
theorem o_ne : Op2 K (rNeD K) neD := ⟨fun {g σ H env v u x y z Q} R i j e k => by
  obtain ⟨b', e', rfl⟩ := notO_some e
  obtain ⟨a, b, e2⟩ := eqD_deq e'
  cases e2
  exact ⟨_, _, (okn_lay 30 x a).2.2 _ _ i H R.ok.sb, (okn_lay 30 y b).2.2 _ _ j H R.ok.sb, okn_shaped K a, okn_shaped K b, k _ _ _ .rfl R (.bl _)⟩⟩
/-! ## in -/
def rInA (K : PySem.W.Frag) (neg : Bool) : R2 := fun x y H Q => ∃ d ds, Dp K H x d ∧ (Dp K H y (.list ds) ∨ Dp K H y (.tuple ds)) ∧ d.canLay0 = true ∧ PyData.canLayAll0 ds = true ∧ d.depth ≤ 30 ∧ Q (.bl (neg ^^ ds.any fun z => PyData.eqv z d)) H
theorem room_in {X : Cx} {ds : List PyData} {d : PyData} (hu : X.A.units + 65 < cLine) (h : d.depth ≤ 30) : X.A.units + 1 + min (PyData.depthAll ds) d.depth < cLine := by
  have : min (PyData.depthAll ds) d.depth ≤ 30 := Nat.le_trans (Nat.min_le_right _ _) h
  omega
theorem op_inA {X : Cx} (hu : X.A.units + 65 < cLine) : OpR X (compareOp .In) (rInA X.K false) := by
  intro pins s σ H x y v u Q I rx ry h
  obtain ⟨d, ds, hd, he, c1, c2, dd, q⟩ := h
  obtain ⟨as, r1⟩ := Dp.reads I d x v hd rx
  rcases he with he | he
  · obtain ⟨bs, r2⟩ := Dp.reads I (.list ds) y u he ry
    exact SeqAt.in_list_reads r2 r1 c2 c1 (room_in hu dd) ⟨.bl _, H, I, by show _ = _; simp, q⟩
  · obtain ⟨bs, r2⟩ := Dp.reads I (.tuple ds) y u he ry
    exact SeqAt.in_tuple_reads r2 r1 c2 c1 (room_in hu dd) ⟨.bl _, H, I, by show _ = _; simp, q⟩
theorem op_notInA {X : Cx} (hu : X.A.units + 65 < cLine) : OpR X (compareOp .NotIn) (rInA X.K true) := by
  intro pins s σ H x y v u Q I rx ry h
  obtain ⟨d, ds, hd, he, c1, c2, dd, q⟩ := h
  obtain ⟨as, r1⟩ := Dp.reads I d x v hd rx
  rcases he with he | he
  · obtain ⟨bs, r2⟩ := Dp.reads I (.list ds) y u he ry
    exact SeqAt.notIn_list_reads r2 r1 c2 c1 (room_in hu dd) ⟨.bl _, H, I, by show _ = _; simp, q⟩
  · obtain ⟨bs, r2⟩ := Dp.reads I (.tuple ds) y u he ry
    exact SeqAt.notIn_tuple_reads r2 r1 c2 c1 (room_in hu dd) ⟨.bl _, H, I, by show _ = _; simp, q⟩
def inL (x : D) (l : List D) : Option D := if okn 30 x = true ∧ l.all (okn 29) = true then some (.bl (l.any fun z => deq z x)) else none
def inD : D → D → Option D
  | x, .lst l => inL x l
  | x, .tup l => inL x l
  | _, _ => none
def ninD (x y : D) : Option D := notO (inD x y)
theorem pyL_any {l : List D} {d : PyData} : ((pyL l).any fun z => PyData.eqv z d) = l.any fun z => PyData.eqv z.py d := by
  induction l with
  | nil => rfl
  | cons x r ih => rw [pyL, List.any_cons, List.any_cons, ih]
theorem inD_ok {g : G} {σ : L2.St} {H : Hp} {env : List Ev} {v u : V} {x y : D} {b neg : Bool} {Q : VK} (R : Rep K g σ H env) (i : Is K g.B v x) (j : Is K g.B u y) (e : inD x y = some (.bl b)) (q : Q (.bl (neg ^^ b)) H) : rInA K neg v u H Q := by
  have sb := R.ok.sb
  have key : ∀ l, inL x l = some (.bl b) → ((Dp K H u (.list (pyL l)) ∨ Dp K H u (.tuple (pyL l)))) → rInA K neg v u H Q := fun l e hd => by
    unfold inL at e
    split at e
    · rename_i h
      cases e
      obtain ⟨a1, a2, a3⟩ := okn_lay (K := K) 30 x h.1
      have hl : okn 30 (.lst l) = true := by simpa [okn] using h.2
      obtain ⟨b1, b2, b3⟩ := okn_lay (K := K) 30 (.lst l) hl
      refine ⟨x.py, pyL l, a3 _ _ i H sb, hd, a1, by simpa [D.py, PyData.canLay0] using b1, a2, ?_⟩
      rw [pyL_any]; exact q
    · cases e
  have okl : ∀ l, inL x l = some (.bl b) → l.all (okn 29) = true := fun l e => by
    unfold inL at e
    split at e
    · rename_i h; exact h.2
    · cases e
  cases y with
  | lst l =>
    have e : inL x l = some (.bl b) := e
    exact key l e (.inl ((okn_lay 30 (.lst l) (by simpa [okn] using okl l e)).2.2 _ _ j H sb))
  | tup l =>
    have e : inL x l = some (.bl b) := e
    exact key l e (.inr ((okn_lay 30 (.tup l) (by simpa [okn] using okl l e)).2.2 _ _ j H sb))
  | _ => cases e
theorem inD_bl {x y z} (h : inD x y = some z) : ∃ b, z = .bl b := by
  have key : ∀ l, inL x l = some z → ∃ b, z = .bl b := fun l e => by
    unfold inL at e
    split at e
    · cases e; exact ⟨_, rfl⟩
    · cases e
  cases y with
  | lst l => exact key l h
  | tup l => exact key l h
  | _ => cases h
theorem o_in : Op2 K (rInA K false) inD := ⟨fun {g σ H env v u x y z Q} R i j e k => by
  obtain ⟨b, rfl⟩ := inD_bl e
  exact inD_ok R i j e (by rw [Bool.false_xor]; exact k _ _ _ .rfl R (.bl _))⟩
theorem o_nin : Op2 K (rInA K true) ninD := ⟨fun {g σ H env v u x y z Q} R i j e k => by
  obtain ⟨b, e', rfl⟩ := notO_some e
  exact inD_ok R i j e' (by rw [Bool.true_xor]; exact k _ _ _ .rfl R (.bl _))⟩
/-! ### .. told by = -/
def nbn : Nat → D → Bool
  | _, .non => true
  | _, .int _ => true
  | _, .str _ => true
  | n + 1, .lst l => l.all (nbn n)
  | n + 1, .tup l => l.all (nbn n)
  | _, _ => false
theorem deq_iff : ∀ (n : Nat) (x y : D), nbn n x = true → nbn n y = true → (deq x y = true ↔ x = y) := by
  intro n
  induction n with
  | zero =>
    intro x y hx hy
    cases x <;> cases y <;> simp [nbn] at hx hy <;> simp [deq, D.py, PyData.eqv]
  | succ n ih =>
    have all : ∀ l m : List D, l.all (nbn n) = true → m.all (nbn n) = true → (PyData.eqvAll (pyL l) (pyL m) = true ↔ l = m) := by
      intro l
      induction l with
      | nil => intro m _ _; cases m <;> simp [pyL, PyData.eqvAll]
      | cons x r ihr =>
        intro m hl hm
        cases m with
        | nil => simp [pyL, PyData.eqvAll]
        | cons y t =>
          rw [List.all_cons, Bool.and_eq_true] at hl hm
          have h1 := ih x y hl.1 hm.1
          have h2 := ihr t hl.2 hm.2
          unfold deq at h1
          simp only [pyL, PyData.eqvAll, Bool.and_eq_true, h1, h2, List.cons.injEq]
    intro x y hx hy
    cases x with
    | lst l => cases y with
      | lst m => 
        have := all l m (by simpa [nbn] using hx) (by simpa [nbn] using hy)
        simp only [deq, D.py, PyData.eqv, this, D.lst.injEq]
      | _ => simp [nbn] at hy <;> simp [deq, D.py, PyData.eqv]
    | tup l => cases y with
      | tup m =>
        have := all l m (by simpa [nbn] using hx) (by simpa [nbn] using hy)
        simp only [deq, D.py, PyData.eqv, this, D.tup.injEq]
      | _ => simp [nbn] at hy <;> simp [deq, D.py, PyData.eqv]
    | non => cases y <;> simp [nbn] at hy <;> simp [deq, D.py, PyData.eqv]
    | int i => cases y <;> simp [nbn] at hy <;> simp [deq, D.py, PyData.eqv]
    | str i => cases y <;> simp [nbn] at hy <;> simp [deq, D.py, PyData.eqv]
    | _ => simp [nbn] at hx
end
end LR
set_option Elab.async false
set_option maxRecDepth 100000
set_option linter.all false
set_option maxHeartbeats 4000000
namespace LR
open PySem PySem.Spec PyProof.Rows L2
/-! # the data layer: fields, built-in functions, slices -/
def lkD (ks : List Str) (ds : List D) (f : Str) : Option D := (ks.zip ds).lookup f
def fldD (f : Str) : D → Option D
  | .ins _ ks ds => lkD ks ds f
  | _ => none
section
variable {K : PySem.W.Frag}
theorem lk_is {B : Hp} {f : Str} : ∀ {fs : List (Str × V)} {ds : List D} {d : D}, Iss K B (fs.map (·.2)) ds → lkD (fs.map (·.1)) ds f = some d → ∃ v, fs.lookup f = some v ∧ Is K B v d ∧ f ∈ fs.map (·.1) := by
  intro fs
  induction fs with
  | nil => intro ds d i h; cases h
  | cons p r ih =>
    intro ds d i h
    obtain ⟨k, v⟩ := p
    cases i with
    | cons i1 i2 =>
      rename_i e es
      unfold lkD at h
      rw [List.map_cons, List.zip_cons_cons, List.lookup_cons] at h
      rw [List.lookup_cons, List.map_cons]
      cases c : (f == k) with
      | true =>
        rw [c] at h
        simp only [if_true] at h
        cases h
        exact ⟨v, by simp, i1, by rw [beq_iff_eq] at c; rw [c]; exact List.mem_cons_self⟩
      | false =>
        rw [c] at h
        simp only [Bool.false_eq_true, if_false] at h
        obtain ⟨w, e1, e2, e3⟩ := ih i2 h
        exact ⟨w, by simpa using e1, e2, List.mem_cons_of_mem _ e3⟩
end
section
variable {X : Cx} {W : WX} {e : Expr} {f : Str} {pos : Pos}
theorem qe_fld {d} (h : QE X W e d) (hb : attributeBase e f X.env (eval e X.env) = eval e X.env) : QE X W (.Attribute e f pos) (d1 (fldD f) d) := (pe_fld h hb).mono fun σ H Q ⟨g, env, Ed, Qd, R, h, kv, kx⟩ => by
  refine lift.useD R h (fun v x H1 g1 l1 R1 i1 ⟨z, ez, q⟩ => ?_) kx
  cases i1 with
  | ins hp k a cl na =>
    subst k
    obtain ⟨w, e1, e2, e3⟩ := lk_is a ez
    exact ⟨_, _, _, _, w, rfl, R1.ok.sb _ _ hp, cl, na _ e3, e1, kv _ (.d z) _ _ l1 R1 e2 q⟩
  | _ => cases ez
theorem qp_fld {p} (h : QP X e p) (hb : attributeBase e f X.env (eval e X.env) = eval e X.env) : QP X (.Attribute e f pos) (p1 (fldD f) p) := fun W => (qe_fld (h W) hb).mono fun _ _ _ h => h.imp fun _ _ _ => p1_d1
end
/-! ## functions of values -/
structure OpN (K : PySem.W.Frag) (r : List V → Hp → VK → Prop) (f : List D → Option D) : Prop where
  ok : ∀ {g : G} {σ : L2.St} {H : Hp} {env : List Ev} {vs : List V} {xs : List D} {z : D} {Q : VK}, Rep K g σ H env → Iss K g.B vs xs → f xs = some z →
    (∀ v' H' g', G.Le g g' → Rep K g' σ H' env → Is K g'.B v' z → Q v' H') → r vs H Q
def pN (f : List D → Option D) (ps : List PF) : PF := fun env => match evs ps env with
  | some l => f l
  | none => none
def dN (f : List D → Option D) (da : DA) : DE := fun env Ed Q => da env Ed fun as => ∃ l z, allD as = some l ∧ f l = some z ∧ Q (.d z)
theorem pN_dN {f ps env Ed Q} (h : dP (pN f ps) env Ed Q) : dN f (daP ps) env Ed Q := by
  obtain ⟨z, h, q⟩ := h
  unfold pN at h
  cases e : evs ps env with
  | none => rw [e] at h; cases h
  | some l => rw [e] at h; exact ⟨l, e, l, z, allD_map l, h, q⟩
section
variable {X : Cx} {W : WX} {e : Expr} {es : List Expr} {x : Str} {p pos : Pos} {id : String} {r : List V → Hp → VK → Prop} {f : List D → Option D}
theorem lift_callN {da : DA} {σ : L2.St} {H : Hp} {Q : VK} (hf : OpN X.K r f) (h : lift X.K W (dN f da) σ H Q) : tCB r (liftA X.K W da) σ H Q := by
  obtain ⟨g, env, Ed, Qd, R, h, kv, kx⟩ := h
  exact ⟨g, env, Ed, _, R, h, fun vs as H1 g1 l1 R1 i1 ⟨l, z, e1, e2, q⟩ => hf.ok R1 (i1.all e1) e2 fun v' H' g' l2 R2 i2 => kv _ (.d z) _ _ (l1.trans l2) R2 i2 q, kx⟩
theorem qe_callB {da} (hf : OpN X.K r f) (hc : CallR X (.builtin id) r) (hg : Gl X x) (hm : X.mg x = none) (hv : bootBuiltins x = some (.builtin id)) (ha : QA X W (e :: es) da) (hn : x ≠ "__name__" := by decide) (hdb : (x == ("__debug__" : Str)) = false := by decide)
    (he : starEach (e :: es) X.env = (false, eval e X.env) :: starEach es X.env := by rfl) (hpl : (backTo pos (starEach es X.env)).any (·.1) = false := by rfl) : QE X W (.Call (.Name x p) (e :: es) [] pos) (dN f da) :=
  (pe_callB hc hg hm hv ha hn hdb he hpl).mono fun _ _ _ h => lift_callN hf h
theorem qp_callB {ps} (hf : OpN X.K r f) (hc : CallR X (.builtin id) r) (hg : Gl X x) (hm : X.mg x = none) (hv : bootBuiltins x = some (.builtin id)) (ha : QPs X (e :: es) ps) (hn : x ≠ "__name__" := by decide) (hdb : (x == ("__debug__" : Str)) = false := by decide)
    (he : starEach (e :: es) X.env = (false, eval e X.env) :: starEach es X.env := by rfl) (hpl : (backTo pos (starEach es X.env)).any (·.1) = false := by rfl) : QP X (.Call (.Name x p) (e :: es) [] pos) (pN f ps) :=
  fun W => (pe_callB hc hg hm hv (ha W) hn hdb he hpl).mono fun _ _ _ h => lift_callN hf (h.imp fun _ _ _ => pN_dN)
theorem qp_callTy {ps} {T : String} (hf : OpN X.K r f) (hc : CallR X (.type T) r) (hg : Gl X x) (hm : X.mg x = none) (hv : bootBuiltins x = some (.type T)) (ha : QPs X (e :: es) ps) (hn : x ≠ "__name__" := by decide) (hdb : (x == ("__debug__" : Str)) = false := by decide)
    (he : starEach (e :: es) X.env = (false, eval e X.env) :: starEach es X.env := by rfl) (hpl : (backTo pos (starEach es X.env)).any (·.1) = false := by rfl) : QP X (.Call (.Name x p) (e :: es) [] pos) (pN f ps) :=
  fun W => (pe_callTy hc hg hm hv (ha W) hn hdb he hpl).mono fun _ _ _ h => lift_callN hf (h.imp fun _ _ _ => pN_dN)
end
section
variable {K : PySem.W.Frag} {X : Cx}
theorem Iss.one_inv {B vs d} (h : Iss K B vs [d]) : ∃ v, vs = [v] ∧ Is K B v d := by
  cases h with | cons a t => cases t; exact ⟨_, rfl, a⟩
theorem Iss.two_inv {B vs d e} (h : Iss K B vs [d, e]) : ∃ v u, vs = [v, u] ∧ Is K B v d ∧ Is K B u e := by
  cases h with | cons a t => cases t with | cons b t => cases t; exact ⟨_, _, rfl, a, b⟩
def rLenA (K : PySem.W.Frag) : List V → Hp → VK → Prop := fun xs H Q => (∃ p ys, xs = [.ref p] ∧ (SqL K H p ys ∨ SqT K H p ys) ∧ Q (.int ys.length) H) ∨ (∃ z, xs = [.str z] ∧ z.length ≤ sizeLine ∧ Q (.int z.length) H)
theorem c_len : CallR X (.builtin "len") (rLenA X.K) := CallR.or call_len_seq call_len_str
def lenD : List D → Option D
  | [.lst l] => some (.int l.length)
  | [.tup l] => some (.int l.length)
  | [.str z] => if z.length ≤ 100000 then some (.int z.length) else none
  | _ => none
theorem o_len : OpN K (rLenA K) lenD := ⟨fun {g σ H env vs xs z Q} R i e k => by
  have sb := R.ok.sb
  unfold lenD at e
  split at e
  · cases e
    obtain ⟨v, rfl, i1⟩ := i.one_inv
    obtain ⟨p, ys, rfl, hp, ip, _⟩ := i1.lstE
    exact .inl ⟨p, ys, rfl, .inl (SqL.of (sb _ _ hp)), by rw [ip.length]; exact k _ _ _ .rfl R (.int _)⟩
  · cases e
    obtain ⟨v, rfl, i1⟩ := i.one_inv
    obtain ⟨p, ys, rfl, hp, ip, _⟩ := i1.tupE
    exact .inl ⟨p, ys, rfl, .inr (SqT.of (sb _ _ hp)), by rw [ip.length]; exact k _ _ _ .rfl R (.int _)⟩
  · split at e
    · rename_i h
      cases e
      obtain ⟨v, rfl, i1⟩ := i.one_inv
      cases i1
      exact .inr ⟨_, rfl, line5 h, k _ _ _ .rfl R (.int _)⟩
    · cases e
  · cases e⟩
def max2D : List D → Option D
  | [.int i, .int j] => some (.int (if j > i then j else i))
  | _ => none
def min2D : List D → Option D
  | [.int i, .int j] => some (.int (if j < i then j else i))
  | _ => none
theorem o_max2 : OpN K (fun xs H Q => ∃ i j, xs = [.int i, .int j] ∧ Q (.int (if j > i then j else i)) H) max2D := ⟨fun {g σ H env vs xs z Q} R i e k => by
  unfold max2D at e
  split at e
  · cases e
    obtain ⟨v, u, rfl, i1, j1⟩ := i.two_inv
    cases i1; cases j1
    exact ⟨_, _, rfl, k _ _ _ .rfl R (.int _)⟩
  · cases e⟩
theorem o_min2 : OpN K (fun xs H Q => ∃ i j, xs = [.int i, .int j] ∧ Q (.int (if j < i then j else i)) H) min2D := ⟨fun {g σ H env vs xs z Q} R i e k => by
  unfold min2D at e
  split at e
  · cases e
    obtain ⟨v, u, rfl, i1, j1⟩ := i.two_inv
    cases i1; cases j1
    exact ⟨_, _, rfl, k _ _ _ .rfl R (.int _)⟩
  · cases e⟩
def listD : List D → Option D
  | [.lst l] => some (.lst l)
  | [.tup l] => some (.lst l)
  | _ => none
theorem o_list : OpN K (fun xs H Q => ∃ p ys, xs = [.ref p] ∧ (SqL K H p ys ∨ SqT K H p ys) ∧ ∀ l, H l = none → Q (.ref l) (upd H l (.lst ys))) listD := ⟨fun {g σ H env vs xs z Q} R i e k => by
  have sb := R.ok.sb
  unfold listD at e
  split at e
  · cases e
    obtain ⟨v, rfl, i1⟩ := i.one_inv
    obtain ⟨p, ys, rfl, hp, ip, zp⟩ := i1.lstE
    exact ⟨p, ys, rfl, .inl (SqL.of (sb _ _ hp)), new_lst R ip zp k⟩
  · cases e
    obtain ⟨v, rfl, i1⟩ := i.one_inv
    obtain ⟨p, ys, rfl, hp, ip, zp⟩ := i1.tupE
    exact ⟨p, ys, rfl, .inr (SqT.of (sb _ _ hp)), new_lst R ip zp k⟩
  · cases e⟩
def tuplD : List D → Option D
  | [.lst l] => some (.tup l)
  | [.tup l] => some (.tup l)
  | _ => none
theorem o_tuple : OpN K (fun xs H Q => ∃ p ys, xs = [.ref p] ∧ ((SqL K H p ys ∧ ∀ l, H l = none → Q (.ref l) (upd H l (.tup ys))) ∨ (SqT K H p ys ∧ Q (.ref p) H))) tuplD := ⟨fun {g σ H env vs xs z Q} R i e k => by
  have sb := R.ok.sb
  unfold tuplD at e
  split at e
  · cases e
    obtain ⟨v, rfl, i1⟩ := i.one_inv
    obtain ⟨p, ys, rfl, hp, ip, zp⟩ := i1.lstE
    exact ⟨p, ys, rfl, .inl ⟨SqL.of (sb _ _ hp), new_tup R ip zp k⟩⟩
  · cases e
    obtain ⟨v, rfl, i1⟩ := i.one_inv
    obtain ⟨p, ys, rfl, hp, ip, zp⟩ := i1.tupE
    exact ⟨p, ys, rfl, .inr ⟨SqT.of (sb _ _ hp), k _ _ _ .rfl R (.tup hp ip zp)⟩⟩
  · cases e⟩
def bls : List D → Option (List Bool)
  | [] => some []
  | .bl b :: r => match bls r with
    | some l => some (b :: l)
    | none => none
  | _ :: _ => none
def ins : List D → Option (List Int)
  | [] => some []
  | .int b :: r => match ins r with
    | some l => some (b :: l)
    | none => none
  | _ :: _ => none
theorem bls_map : ∀ l : List Bool, bls (l.map .bl) = some l
  | [] => rfl
  | x :: r => by rw [List.map_cons, bls, bls_map r]
theorem iss_insE {B} : ∀ {bs : List Int} {vs}, Iss K B vs (bs.map .int) → vs = bs.map V.int
  | [], _, h => by cases h; rfl
  | b :: r, _, h => by cases h with | cons a t => cases a; rw [iss_insE t]; rfl
def anyD : List D → Option D
  | [.lst l] => (bls l).map fun bs => .bl (bs.any id)
  | _ => none
def allDD : List D → Option D
  | [.lst l] => (bls l).map fun bs => .bl (bs.all id)
  | _ => none
def intD : List D → Option D
  | [.int i] => some (.int i)
  | [.bl b] => some (.int (if b then 1 else 0))
  | _ => none
theorem o_int : OpN K (fun xs H Q => (∃ i, xs = [.int i] ∧ Q (.int i) H) ∨ ∃ k, xs = [.bl k] ∧ Q (.int (if k then 1 else 0)) H) intD := ⟨fun {g σ H env vs xs z Q} R i e k => by
  unfold intD at e
  split at e
  · cases e
    obtain ⟨v, rfl, i1⟩ := i.one_inv
    cases i1
    exact .inl ⟨_, rfl, k _ _ _ .rfl R (.int _)⟩
  · cases e
    obtain ⟨v, rfl, i1⟩ := i.one_inv
    cases i1
    exact .inr ⟨_, rfl, k _ _ _ .rfl R (.int _)⟩
  · cases e⟩
/-! ## isinstance(x, T) of data, T a built-in type -/
def Dt.of : D → Option Dt
  | .non => some .non
  | .bl b => some (.bl b)
  | .int i => some (.int i)
  | .str x => some (.str x)
  | .lst _ => some (.lst [])
  | .tup _ => some (.tup [])
  | _ => none
theorem is_tyX {B H : Hp} {v x d} (s : Same B H) (i : Is K B v x) (h : Dt.of x = some d) : TyX K H v (.type (LR.ty d)) := by
  cases i <;> cases h
  · exact .base .non
  · exact .base (.bl _)
  · exact .base (.int _)
  · exact .base (.str _)
  · rename_i h _ _; exact .base (.lst (s _ _ h))
  · rename_i h _ _; exact .base (.tup (s _ _ h))
def isiD (T : String) (f : Dt → Bool) : List D → Option D
  | [x, .ty n] => if n = T then (Dt.of x).map fun d => .bl (f d) else none
  | _ => none
theorem o_isi {T : String} {f : Dt → Bool} (hf : ∀ d, kitB (LR.ty d) T = some (f d)) : OpN K (rIsi K) (isiD T f) := ⟨fun {g σ H env vs xs z Q} R i e k => by
  unfold isiD at e
  split at e
  · split at e
    · rename_i h; subst h
      obtain ⟨d, ed, rfl⟩ := Option.map_eq_some_iff.mp e
      obtain ⟨v, u, rfl, i1, j1⟩ := i.two_inv
      cases j1
      exact ⟨v, .ty _, _, _, f d, rfl, .ty _, is_tyX R.ok.sb i1 ed, kit_ty (hf d), k _ _ _ .rfl R (.bl _)⟩
    · cases e
  · cases e⟩
end
/-! ## slices -/
def cutD (xs : List D) (lo hi : Option Int) : List D := (xs.drop (HT.sIx xs.length 0 lo)).take (HT.sIx xs.length xs.length hi - HT.sIx xs.length 0 lo)
def sliD : D → Option Int → Option Int → Option D
  | .lst l, lo, hi => some (.lst (cutD l lo hi))
  | .tup l, lo, hi => some (.tup (cutD l lo hi))
  | .str z, lo, hi => if z.length ≤ 100000 then some (.str (cutS z lo hi)) else none
  | _, _, _ => none
def evO : Option PF → List Ev → Option (Option Int)
  | none, _ => some none
  | some p, env => match p env with
    | some (.int i) => some (some i)
    | _ => none
def psli (p : PF) (lo hi : Option PF) : PF := fun env => match p env, evO lo env, evO hi env with
  | some x, some l, some h => sliD x l h
  | _, _, _ => none
section
variable {K : PySem.W.Frag} {X : Cx} {e : Expr} {pos p2 : Pos}
def QPO (X : Cx) (e : Option Expr) (p : Option PF) : Prop := match e, p with
  | none, none => True
  | some e, some p => QP X e p
  | _, _ => False
theorem qpo_none : QPO X none none := trivial
theorem qpo_some {e p} (h : QP X e p) : QPO X (some e) (some p) := h
theorem cut_is {B xs ds} (h : Iss K B xs ds) (lo hi : Option Int) : Iss K B (cutV xs lo hi) (cutD ds lo hi) := by
  unfold cutV cutD
  rw [h.length]
  exact (h.drop _).take _
def rSlAll (K : PySem.W.Frag) : V → Option Int → Option Int → Hp → VK → Prop := fun x lo hi H Q => rSlL K x lo hi H Q ∨ (rSlA K x lo hi H Q ∨ rSlS x lo hi H Q)
theorem sl_all : SlR X (rSlAll X.K) := SlR.or sl_list (SlR.or sl_tupA sl_str)
theorem cut_whole {xs : List D} {lo hi : Option Int} (h : HT.sIx xs.length 0 lo = 0 ∧ HT.sIx xs.length xs.length hi = xs.length) : cutD xs lo hi = xs := by
  unfold cutD
  rw [h.1, h.2, List.drop_zero, Nat.sub_zero, List.take_length]
theorem qp_slice {p : PF} {lo hi : Option Expr} {pl ph : Option PF} (he : QP X e p) (hl : QPO X lo pl) (hu : QPO X hi ph) : QP X (.Subscript e (.Slice lo hi none p2) pos) (psli p pl ph) := by
  intro W
  have part : ∀ {o : Option Expr} {q : Option PF}, QPO X o q → ∃ t : TO, PO X o t ∧ ∀ {g σ H env} {i : Option Int} {Q : Option Int → Hp → Prop}, Rep X.K g σ H env → evO q env = some i → (∀ H' g', G.Le g g' → Rep X.K g' σ H' env → Q i H') → t σ H Q := by
    intro o q h
    cases o with
    | none => cases q with
      | none => exact ⟨_, po_none, fun {g σ H env i Q} R e k => by cases e; exact k _ _ .rfl R⟩
      | some q => exact h.elim
    | some o => cases q with
      | none => exact h.elim
      | some q =>
        refine ⟨_, po_some (h W), fun {g σ H env i Q} R e k => ?_⟩
        have e : (match q env with | some (.int i) => some (some i) | _ => none) = some i := e
        split at e
        · rename_i j ej
          cases e
          exact lift.useP R ej fun v H1 g1 l1 R1 i1 => ⟨j, i1.intE, k _ _ l1 R1⟩
        · cases e
  obtain ⟨tl, h1, u1⟩ := part hl
  obtain ⟨th, h2, u2⟩ := part hu
  refine (pe_slice sl_all (he W) h1 h2).mono fun σ H Q ⟨g, env, Ed, Qd, R, ⟨z, ez, q⟩, kv, kx⟩ => ?_
  unfold psli at ez
  split at ez
  · rename_i x l h e1 e2 e3
    refine lift.useP R e1 fun v H1 g1 l1 R1 i1 => u1 R1 e2 fun H2 g2 l2 R2 => u2 R2 e3 fun H3 g3 l3 R3 => ?_
    have i3 := (i1.mono l2.b).mono l3.b
    have sb := R3.ok.sb
    have fin : ∀ v' H' g', G.Le g3 g' → Rep X.K g' σ H' env → Is X.K g'.B v' z → Q v' H' := fun v' H' g' l4 R4 i4 => kv v' (.d z) H' g' (l1.trans (l2.trans (l3.trans l4))) R4 i4 q
    unfold sliD at ez
    split at ez
    · cases ez
      obtain ⟨p, xs, rfl, hp, ip, zp⟩ := i3.lstE
      exact .inl ⟨p, xs, rfl, SqL.of (sb _ _ hp), new_lst R3 (cut_is ip l h) (Nat.le_trans (cutV_length _ _ _) zp) fin⟩
    · cases ez
      obtain ⟨p, xs, rfl, hp, ip, zp⟩ := i3.tupE
      refine .inr (.inl ⟨p, xs, rfl, SqT.of (sb _ _ hp), fun w => ?_, fun _ => new_tup R3 (cut_is ip l h) (Nat.le_trans (cutV_length _ _ _) zp) fin⟩)
      rw [ip.length] at w
      rw [cut_whole w] at fin
      exact fin _ _ _ .rfl R3 (.tup hp ip zp)
    · split at ez
      · rename_i hz
        cases ez
        exact .inr (.inr ⟨_, i3.strE, line5 hz, fin _ _ _ .rfl R3 (.str _)⟩)
      · cases ez
    · cases ez
  · cases ez
end
end LR
set_option Elab.async false
set_option maxRecDepth 100000
set_option linter.all false
set_option maxHeartbeats 4000000
namespace LR
open PySem PySem.Spec PyProof.Rows L2
/-! # the data layer: targets, iterations, comprehensions -/
def onS {α : Type} : Option α → (α → Prop) → Prop
  | some a, k => k a
  | none, _ => False
theorem onS_some {α : Type} {o : Option α} {k : α → Prop} (h : onS o k) : ∃ a, o = some a ∧ k a := by
  cases o with
  | some a => exact ⟨a, rfl, h⟩
  | none => exact h.elim
structure Only (vs : List Nat) (σ : L2.St) (env : List Ev) (σ' : L2.St) (env' : List Ev) : Prop where
  ln : σ'.length = σ.length
  at_ : ∀ j, j ∉ vs → σ'[j]? = σ[j]? ∧ nth env' j = nth env j
theorem Only.trans {vs σ env σ' env' σ2 env2} (a : Only vs σ env σ' env') (b : Only vs σ' env' σ2 env2) : Only vs σ env σ2 env2 :=
  ⟨b.ln.trans a.ln, fun j h => ⟨(b.at_ j h).1.trans (a.at_ j h).1, (b.at_ j h).2.trans (a.at_ j h).2⟩⟩
abbrev DG := D → List Ev → Option (List Ev)
def liftG (K : PySem.W.Frag) (vs : List Nat) (b : DG) : TG := fun v σ H Q => ∃ g env x e, Rep K g σ H env ∧ Is K g.B v x ∧ b x env = some e ∧ ∀ σ' g', G.Le g g' → Rep K g' σ' H e → Only vs σ env σ' e → Q σ' H
def QG (X : Cx) (vs : List Nat) (tg : Expr) (b : DG) : Prop := PG X tg (liftG X.K vs b)
def bNm (i : Nat) : DG := fun x env => some (sth env i (.d x))
theorem _root_.L2.PG.mono {X tg t t'} (h : PG X tg t) (m : ∀ v σ H Q, t' v σ H Q → t v σ H Q) : PG X tg t' := ⟨fun pins s σ H v u Q I r q => h.run pins s σ H v u Q I r (m _ _ _ _ q)⟩
theorem _root_.L2.PGs.mono {X tg t t'} (h : PGs X tg t) (m : ∀ v σ H Q, t' v σ H Q → t v σ H Q) : PGs X tg t' := ⟨fun pins s σ H v u Q I r q => h.run pins s σ H v u Q I r (m _ _ _ _ q)⟩
section
variable {X : Cx} {vs : List Nat} {x : Str} {i : Nat} {pos : Pos}
theorem qg_name (h : PG X (.Name x pos) (gName i)) (hv : i ∈ vs := by decide) : QG X vs (.Name x pos) (bNm i) := h.mono fun v σ H Q ⟨g, env, y, e, R, iy, eb, k⟩ => by
  cases eb
  obtain ⟨g', l, _, R'⟩ := R.setD (i := i) (e := .d y) ⟨v, rfl, iy⟩ rfl
  exact k _ g' l R' ⟨List.length_set, fun j hj => ⟨get_set_ne fun e => hj (e ▸ hv), nth_sth_ne fun e => hj (e ▸ hv)⟩⟩
end
/-! ## iterations -/
structure Runs (K : PySem.W.Frag) (g : G) (J : It) (l : List D) : Prop where
  le : l.length ≤ 100000
  wk : ∃ (Gd : Hp → Prop) (Y : Nat → Hp → V → Hp → Prop), Walk J l.length Gd Y ∧ (∀ g2 σ env H', Same g.B g2.B → Rep K g2 σ H' env → Gd H') ∧
    ∀ i H v H', i < l.length → Y i H v H' → ∀ g2 σ env, Same g.B g2.B → Rep K g2 σ H env → ∃ g3 x, l[i]? = some x ∧ G.Le g2 g3 ∧ Rep K g3 σ H' env ∧ Is K g3.B v x
abbrev DI := List Ev → (Er → Prop) → (List D → Prop) → Prop
def liftI (K : PySem.W.Frag) (W : WX) (d : DI) : TI := fun σ H R => ∃ g env Ed Ld, Rep K g σ H env ∧ d env Ed Ld ∧ (∀ J l H' g', G.Le g g' → Rep K g' σ H' env → Runs K g' J l → Ld l → R J H') ∧ KX K W g σ env Ed
def QI (X : Cx) (W : WX) (tg e : Expr) (d : DI) : Prop := PI X tg e (liftI X.K W d)
theorem _root_.L2.PI.mono {X tg e t t'} (h : PI X tg e t) (m : ∀ σ H R, t' σ H R → t σ H R) : PI X tg e t' := ⟨fun pins s σ H R I q => h.run pins s σ H R I (m _ _ _ q)⟩
def seqI (k : List D → Prop) : D → Prop
  | .lst l => k l
  | .tup l => k l
  | _ => False
def iSeqD (d : DE) : DI := fun env Ed Ld => d env Ed (asD (seqI Ld))
def rgD (lo : Int) (n : Nat) : List D := (List.range n).map fun i => .int (lo + (i : Nat))
def iRng1D (d : DE) : DI := fun env Ed Ld => d env Ed (asD fun x => match x with
  | .int n => (-100000 ≤ n ∧ n ≤ 100000) ∧ Ld (rgD 0 n.toNat)
  | _ => False)
def iRng2D (d d2 : DE) : DI := fun env Ed Ld => d env Ed (asD fun x => d2 env Ed (asD fun y => match x, y with
  | .int a, .int b => (-100000 ≤ a ∧ a ≤ 100000 ∧ -100000 ≤ b ∧ b ≤ 100000 ∧ b - a ≤ 100000) ∧ Ld (rgD a (b - a).toNat)
  | _, _ => False))
def ltrs (z : Str) : List D := z.cps.toList.map fun c => .str ⟨#[c]⟩
def iStrD (d : DE) : DI := fun env Ed Ld => d env Ed (asD fun x => match x with
  | .str z => z.cps.size ≤ 100000 ∧ Ld (ltrs z)
  | _ => False)
section
variable {K : PySem.W.Frag}
theorem gd_of {g : G} {Gd : Hp → Prop} (hg : ∀ H', Same g.B H' → Gd H') : ∀ g2 σ env H', Same g.B g2.B → Rep K g2 σ H' env → Gd H' := fun _ _ _ H' le R => hg H' (le.trans R.ok.sb)
theorem runs_at {g : G} {J : It} {xs : List V} {l : List D} {Gd : Hp → Prop} (w : Walk J xs.length Gd (YAt xs)) (hg : ∀ H', Same g.B H' → Gd H') (i : Iss K g.B xs l) (z : xs.length ≤ 100000) : Runs K g J l := by
  refine ⟨by rw [← i.length]; exact z, Gd, _, by rw [← i.length]; exact w, gd_of hg, fun j H v H' hj y g2 σ env le R => ?_⟩
  obtain ⟨rfl, e⟩ := y
  obtain ⟨d, ed, id⟩ := i.get e
  exact ⟨g2, d, ed, .rfl, R, id.mono le⟩
theorem runs_fn {g : G} {J : It} {n : Nat} {f : Nat → V} {f' : Nat → D} {Gd : Hp → Prop} (w : Walk J n Gd (YFn f)) (hg : ∀ H', Same g.B H' → Gd H') (i : ∀ (B : Hp) j, Is K B (f j) (f' j)) (z : n ≤ 100000) : Runs K g J ((List.range n).map f') := by
  have hl : ((List.range n).map f').length = n := by rw [List.length_map, List.length_range]
  refine ⟨by rw [hl]; exact z, Gd, _, by rw [hl]; exact w, gd_of hg, fun j H v H' hj y g2 σ env le R => ?_⟩
  obtain ⟨rfl, rfl⟩ := y
  rw [hl] at hj
  exact ⟨g2, f' j, by rw [List.getElem?_map, List.getElem?_range hj]; rfl, .rfl, R, i _ _⟩
theorem seqI_is {B : Hp} {v : V} {x : D} {k : List D → Prop} (i : Is K B v x) (q : seqI k x) : ∃ p xs l, v = .ref p ∧ (B p = some (.lst xs) ∨ B p = some (.tup xs)) ∧ Iss K B xs l ∧ xs.length ≤ 100000 ∧ k l := by
  cases i with
  | lst h a z => exact ⟨_, _, _, rfl, .inl h, a, z, q⟩
  | tup h a z => exact ⟨_, _, _, rfl, .inr h, a, z, q⟩
  | _ => exact q.elim
theorem sq_of {B H : Hp} {p : Addr} {xs : List V} (s : Same B H) (h : B p = some (.lst xs) ∨ B p = some (.tup xs)) : Sq K H p xs := by
  rcases h with h | h
  · exact .inl (SqL.of (s _ _ h))
  · exact .inr (SqT.of (s _ _ h))
end
section
variable {X : Cx} {W : WX} {tg e e2 : Expr} {p pos tpos : Pos} {elts : List Expr} {kk : Nat}
theorem qi_seq {d} (h : QE X W e d) : QI X W tg e (iSeqD d) := (pi_seq h).mono fun σ H R ⟨g, env, Ed, Ld, Rp, h, kv, kx⟩ => by
  refine lift.useD Rp h (fun v x H1 g1 l1 R1 i1 q => ?_) kx
  obtain ⟨a, xs, l, rfl, hp, ip, zp, q⟩ := seqI_is i1 q
  refine ⟨a, rfl, (sq_of (K := X.K) (Same.rfl' (H := g1.B)) hp).walk R1.ok.sb fun J Gd w g1' _ => kv J l H1 g1 l1 R1 (runs_at w (fun H' s => g1' H' s) ip zp) q⟩
theorem qi_range1 {d} (hg : Gl X "range") (hm : X.mg "range" = none) (h : QE X W e d) (hs : starEach [e] X.env = [(false, eval e X.env)] := by rfl) :
    QI X W tg (.Call (.Name "range" p) [e] [] pos) (iRng1D d) := (pi_range1 hg hm (pa_cons h pa_nil hs) hs).mono fun σ H R ⟨g, env, Ed, Ld, Rp, h, kv, kx⟩ => by
  refine lift.useD Rp h (fun v x H1 g1 l1 R1 i1 q => ?_) kx
  cases x with
  | int n =>
    obtain ⟨b, q⟩ := q
    exact ⟨n, by rw [i1.intE], by omega, by omega, kv _ _ H1 g1 l1 R1 (runs_fn walk_range (fun _ _ => trivial) (fun _ _ => .int _) (by omega)) q⟩
  | _ => exact q.elim
theorem qi_range2 {d d2} (hg : Gl X "range") (hm : X.mg "range" = none) (h : QE X W e d) (h2 : QE X W e2 d2) (hs : starEach [e, e2] X.env = [(false, eval e X.env), (false, eval e2 X.env)] := by rfl) (hs2 : starEach [e2] X.env = [(false, eval e2 X.env)] := by rfl) :
    QI X W tg (.Call (.Name "range" p) [e, e2] [] pos) (iRng2D d d2) := (pi_range2 hg hm (pa_cons h (pa_cons h2 pa_nil hs2) (by rw [hs2]; exact hs)) hs hs2).mono fun σ H R ⟨g, env, Ed, Ld, Rp, h, kv, kx⟩ => by
  refine lift.useD Rp h (fun v x H1 g1 l1 R1 i1 q => lift.useD R1 q (fun u y H2 g2 l2 R2 i2 q => ?_) (kx.mono l1)) kx
  cases x with
  | int a => cases y with
    | int b =>
      obtain ⟨c, q⟩ := q
      exact ⟨a, b, by rw [i1.intE, i2.intE], ⟨by omega, by omega, by omega, by omega⟩, kv _ _ H2 g2 (l1.trans l2) R2 (runs_fn walk_range (fun _ _ => trivial) (fun _ _ => .int _) (by omega)) q⟩
    | _ => exact q.elim
  | _ => cases y <;> exact q.elim
theorem qi_str {d} (h : QE X W e d) : QI X W tg e (iStrD d) := (pi_str h).mono fun σ H R ⟨g, env, Ed, Ld, Rp, h, kv, kx⟩ => by
  refine lift.useD Rp h (fun v x H1 g1 l1 R1 i1 q => ?_) kx
  cases x with
  | str z =>
    obtain ⟨hz, q⟩ := q
    have hl : (ltrs z).length = z.cps.size := by unfold ltrs; rw [List.length_map, Array.length_toList]
    refine ⟨z, i1.strE, kv _ _ H1 g1 l1 R1 ⟨by rw [hl]; exact hz, _, _, by rw [hl]; exact walk_str, fun _ _ _ _ _ _ => trivial, fun j H v H' hj y g2 σ env le R => ?_⟩ q⟩
    obtain ⟨rfl, c, e, rfl⟩ := y
    refine ⟨g2, _, ?_, .rfl, R, .str _⟩
    unfold ltrs
    rw [List.getElem?_map, Array.getElem?_toList, e]; rfl
  | _ => exact q.elim
end
/-! ## comprehensions -/
def wipeE (env : List Ev) : List Nat → List Ev
  | [] => env
  | v :: vs => sth (wipeE env vs) v .any
def ownFree (env : List Ev) : List Nat → Bool
  | [] => true
  | v :: vs => !isOwn (nth env v) && ownFree env vs
theorem ownFree_at {env vs} (h : ownFree env vs = true) : ∀ v ∈ vs, isOwn (nth env v) = false := by
  induction vs with
  | nil => intro v h; cases h
  | cons u r ih =>
    unfold ownFree at h
    rw [Bool.and_eq_true] at h
    intro v hv
    rcases List.mem_cons.mp hv with rfl | hv
    · simpa using h.1
    · exact ih h.2 v hv
def WF : WX := fun _ _ _ _ => False
section
variable {K : PySem.W.Frag} {g g' : G} {σ σ' : L2.St} {H H' : Hp} {env env' : List Ev} {vs : List Nat}
theorem Rep.setN (r : Rep K g σ H env) (i : Nat) : Rep K (g.setF i []) (σ.set i none) H (sth env i .any) := r.dropS i List.length_set fun j n => get_set_ne n
theorem Rep.wipe (r : Rep K g σ H env) : ∀ vs, ∃ g', G.Le g g' ∧ g'.B = g.B ∧ Rep K g' (L2.wipe σ vs) H (wipeE env vs)
  | [] => ⟨g, .rfl, rfl, r⟩
  | v :: vs =>
    let ⟨_, l, e, R⟩ := r.wipe vs
    ⟨_, l.trans G.setF_le, e, R.setN v⟩
theorem wipe_get : ∀ {vs : List Nat} {j : Nat}, j ∉ vs → (L2.wipe σ vs)[j]? = σ[j]?
  | [], _, _ => rfl
  | v :: vs, j, h => by
    show ((L2.wipe σ vs).set v none)[j]? = _
    rw [get_set_ne (fun e => h (by rw [e]; exact List.mem_cons_self)), wipe_get fun z => h (List.mem_cons_of_mem _ z)]
theorem wipeE_get : ∀ {vs : List Nat} {j : Nat}, j ∉ vs → nth (wipeE env vs) j = nth env j
  | [], _, _ => rfl
  | v :: vs, j, h => by
    show nth (sth (wipeE env vs) v .any) j = _
    rw [nth_sth_ne (fun e => h (by rw [e]; exact List.mem_cons_self)), wipeE_get fun z => h (List.mem_cons_of_mem _ z)]
theorem wipe_in : ∀ {vs : List Nat} {j : Nat}, j ∈ vs → j < σ.length → (L2.wipe σ vs)[j]? = some none
  | v :: vs, j, h, hl => by
    show ((L2.wipe σ vs).set v none)[j]? = _
    by_cases e : j = v
    · subst e; exact get_set_eq (by rw [wipe_length]; exact hl)
    · rw [get_set_ne e]
      exact wipe_in ((List.mem_cons.mp h).resolve_left e) hl
theorem wipe_only (o : Only vs (L2.wipe σ vs) (wipeE env vs) σ' env') : L2.wipe σ' vs = L2.wipe σ vs := by
  have hl := o.ln
  rw [wipe_length] at hl
  refine List.ext_getElem? fun j => ?_
  by_cases h : j ∈ vs
  · rcases Nat.lt_or_ge j σ.length with z | z
    · rw [wipe_in h z, wipe_in h (by omega)]
    · rw [List.getElem?_eq_none (by rw [wipe_length]; omega), List.getElem?_eq_none (by rw [wipe_length]; omega)]
  · rw [wipe_get h, (o.at_ j h).1]
/-- out of a comprehension's turn -/
theorem Sl.monoN {q e fs gs} (le : G.Le g g') (n : isOwn e = false) (s : Sl K g H q fs e) : Sl K g' H' q gs e := by
  cases e with
  | any => trivial
  | d x => obtain ⟨v, e, h⟩ := s; exact ⟨v, e, h.mono le.b⟩
  | own l b => cases n
  | pool => obtain ⟨p, e, h⟩ := s; exact ⟨p, e, le.m _ h⟩
  | scr ns => obtain ⟨a, e, h⟩ := s; exact ⟨a, e, by rw [le.h0, le.m0, le.xa]; exact h⟩
  | err a dd fs => exact ⟨s.1, fun d h => le.b _ _ (s.2 d h)⟩
  | raw v => exact s
open Classical in
theorem Rep.unwipe (r0 : Rep K g σ H env) (le : G.Le g g') (r : Rep K g' σ' H' env') (o : Only vs (L2.wipe σ vs) (wipeE env vs) σ' env') (ow : ownFree env vs = true) : ∃ F', Rep K { g' with F := F' } σ H' env ∧ ∀ j a, a ∈ F' j → a ∈ g'.F j := by
  have l2 : G.Le g' { g' with F := fun j => if j ∈ vs then [] else g'.F j } := ⟨rfl, rfl, fun _ h => h, Same.rfl', rfl, rfl, rfl⟩
  have fin : ∀ {j}, j ∈ vs → (fun j => if j ∈ vs then [] else g'.F j) j = [] := fun {j} h => if_pos h
  have fout : ∀ {j}, j ∉ vs → (fun j => if j ∈ vs then [] else g'.F j) j = g'.F j := fun {j} h => if_neg h
  have sub : ∀ {j a}, a ∈ (fun j => if j ∈ vs then [] else g'.F j) j → a ∈ g'.F j := fun {j a} m => by
    by_cases h : j ∈ vs
    · rw [fin h] at m; cases m
    · rwa [fout h] at m
  have eqv : ∀ {j}, j ∉ vs → nth env' j = nth env j := fun {j} h => by
    rw [(o.at_ j h).2, wipeE_get h]
  refine ⟨fun j => if j ∈ vs then [] else g'.F j, ⟨⟨r.ok.sb, r.ok.pl, r.ok.im, r.ok.fr, r.ok.nw, r.ok.pv, r.ok.m0, r.ok.bn, r.ok.xp⟩, r0.ln, fun j => ?_, fun j hj => ?_, fun i j a n hi hj => r.di i j a n (sub hi) (sub hj)⟩, fun j a h => sub h⟩
  · by_cases h : j ∈ vs
    · exact (r0.sl j).monoN (le.trans l2) (ownFree_at ow j h)
    · have s := r.sl j
      rw [(o.at_ j h).1, eqv h, wipe_get h] at s
      show Sl K _ H' σ[j]? ((fun j => if j ∈ vs then [] else g'.F j) j) (nth env j)
      rw [fout h]
      exact s.mono l2 fun b v o a => a.keep (g' := { g' with F := fun j => if j ∈ vs then [] else g'.F j }) rfl Same.rfl' (fun _ _ => rfl) fun p m q => ⟨q.nb, q.nm, q.n0, q.np⟩
  · show (fun j => if j ∈ vs then [] else g'.F j) j = []
    by_cases h : j ∈ vs
    · exact fin h
    · rw [fout h]; exact r.nf j (by rw [eqv h]; exact hj)
/-- cells under way are set aside -/
def G.side (g : G) (H : Hp) (fs : List Addr) : G := { g with P := frzB g.P H fs }
def G.back (g : G) (P : Hp) : G := { g with P := P }
theorem Rep.side {b v o fs} (r : Rep K g σ H env) (a : OwnAt K g H b v o fs) (ns : Off g fs) : Rep K (g.side H fs) σ H env := by
  refine ⟨⟨r.ok.sb, r.ok.pl, r.ok.im, r.ok.fr, r.ok.nw, fun c u e => ?_, r.ok.m0, r.ok.bn, r.ok.xp⟩, r.ln, fun i => ?_, r.nf, r.di⟩
  · have e : frzB g.P H fs c = some u := e
    by_cases m : c ∈ fs
    · rw [frzB_in m] at e; exact ⟨e, (a.pv c m).nb, (a.pv c m).nm⟩
    · rw [frzB_out m] at e; exact r.ok.pv c u e
  · have s := r.sl i
    cases e : nth env i with
    | own o' b' =>
      rw [e] at s
      obtain ⟨v, e1, a'⟩ := s
      refine ⟨v, e1, a'.is_, a'.nd, fun p m => ?_, a'.pin⟩
      have q := a'.pv p m
      refine ⟨q.nb, q.nm, q.n0, ?_⟩
      show frzB g.P H fs p = none
      rw [frzB_out fun h => ns i p h m]; exact q.np
    | any => trivial
    | d x => rw [e] at s; exact s
    | pool => rw [e] at s; exact s
    | scr ns => rw [e] at s; exact s
    | err ea dd fs => rw [e] at s; exact s
    | raw v => rw [e] at s; exact s
/-- .. and taken back -/
theorem Rep.back {b v o fs} (a : OwnAt K g H b v o fs) (le : G.Le (g.side H fs) g') (r : Rep K g' σ' H' env') :
    Rep K (g'.back g.P) σ' H' env' ∧ OwnAt K (g'.back g.P) H' b v o fs ∧ Off (g'.back g.P) fs ∧ G.Le g (g'.back g.P) ∧ (∀ p ∈ fs, H' p = H p) ∧ (∀ b' v' o' fs', OwnAt K g' H' b' v' o' fs' → OwnAt K (g'.back g.P) H' b' v' o' fs' ∧ ∀ p ∈ fs', p ∉ fs) ∧ ∀ b' p, Priv g' b' p → Priv (g'.back g.P) b' p ∧ p ∉ fs := by
  have hP : g'.P = frzB g.P H fs := le.p
  have cell : ∀ p ∈ fs, H' p = H p ∧ g'.B p = none ∧ ¬ g'.M p := fun p m => by
    obtain ⟨u, hu⟩ := a.ex p m
    obtain ⟨h1, h2, h3⟩ := r.ok.pv p u (by rw [hP, frzB_in m]; exact hu)
    exact ⟨h1.trans hu.symm, h2, h3⟩
  have outP : ∀ {p}, g'.P p = none → p ∉ fs := fun {p} e m => by
    obtain ⟨u, hu⟩ := a.ex p m
    rw [hP, frzB_in m, hu] at e; cases e
  have l2 : G.Le g (g'.back g.P) := ⟨le.h0, le.m0, le.m, le.b, rfl, le.b0, le.x⟩
  refine ⟨⟨⟨r.ok.sb, r.ok.pl, r.ok.im, r.ok.fr, r.ok.nw, fun c u e => ?_, r.ok.m0, r.ok.bn, r.ok.xp⟩, r.ln, fun i => ?_, r.nf, r.di⟩, ⟨a.is_.mono l2.b fun p m => (cell p m).1, a.nd, fun p m => ⟨(cell p m).2.1, (cell p m).2.2, ?_, (a.pv p m).np⟩, fun u e => by rw [l2.x]; exact a.pin u e⟩, fun i p m h => ?_, l2, fun p m => (cell p m).1, fun b' v' o' fs' a' => ⟨⟨a'.is_, a'.nd, fun p m => ?_, a'.pin⟩, fun p m => outP (a'.pv p m).np⟩, fun b' p q => ⟨⟨q.nb, q.nm, q.n0, ?_⟩, outP q.np⟩⟩
  rotate_right
  · have := q.np
    rw [hP, frzB_out (outP q.np)] at this; exact this
  rotate_right
  · have q := a'.pv p m
    refine ⟨q.nb, q.nm, q.n0, ?_⟩
    have := q.np
    rw [hP, frzB_out (outP q.np)] at this; exact this
  · have e : g.P c = some u := e
    have n : c ∉ fs := fun m => by rw [(a.pv c m).np] at e; cases e
    exact r.ok.pv c u (by rw [hP, frzB_out n]; exact e)
  · have s := r.sl i
    cases e : nth env' i with
    | own o' b' =>
      rw [e] at s
      obtain ⟨v, e1, a'⟩ := s
      refine ⟨v, e1, a'.is_, a'.nd, fun p m => ?_, a'.pin⟩
      have q := a'.pv p m
      refine ⟨q.nb, q.nm, q.n0, ?_⟩
      have := q.np
      rw [hP, frzB_out (outP q.np)] at this; exact this
    | any => trivial
    | d x => rw [e] at s; exact s
    | pool => rw [e] at s; exact s
    | scr ns => rw [e] at s; exact s
    | err ea dd fs => rw [e] at s; exact s
    | raw v => rw [e] at s; exact s
  · have q := (a.pv p m).n0
    rcases q with q | q
    · exact .inl ((congrFun l2.h0 p).trans q)
    · exact .inr ⟨q.1, by rw [l2.xa]; exact q.2⟩
  · obtain ⟨v', o', b', _, _, a'⟩ := r.ownC h
    exact outP (a'.pv p h).np m
end
/-- a result as something one owns -/
def asO (k : Ow → Prop) : Ar → Prop
  | .d x => k (.da x)
  | .fr o => k o
  | .pool => False
  | .scr _ => False
/-- how an element is taken up: as data, or as something one owns -/
def TakeUp (K : PySem.W.Frag) {β : Type} (cv : (β → Prop) → Ar → Prop) (e : β → Ow) : Prop := ∀ {g : G} {σ : L2.St} {H : Hp} {env : List Ev} {v : V} {r : Ar} {k : β → Prop}, Rep K g σ H env → IsR K g H v r → cv k r →
  ∃ y fs g', G.Le g g' ∧ Rep K g' σ H env ∧ OwnAt K g' H none v (e y) fs ∧ Off g' fs ∧ k y
theorem OwnAt.da {K : PySem.W.Frag} {g : G} {H : Hp} {v x} (i : Is K g.B v x) : OwnAt K g H none v (.da x) [] := ⟨.da i, .nil, (fun _ m => nomatch m), fun _ h => by cases h⟩
theorem Off.nil {g : G} : Off g [] := fun _ _ m => nomatch m
theorem up_d {K : PySem.W.Frag} : TakeUp K asD Ow.da := fun {g σ H env v r k} R i q => by
  obtain ⟨x, g', l, R', ix, q⟩ := i.asD R q
  exact ⟨_, [], g', l, R', .da ix, .nil, q⟩
theorem up_o {K : PySem.W.Frag} : TakeUp K asO id := fun {g σ H env v r k} R i q => by
  cases r with
  | d x => exact ⟨.da x, [], g, .rfl, R, .da i, .nil, q⟩
  | fr o => obtain ⟨fs, a, ns⟩ := i; exact ⟨o, fs, g, .rfl, R, a, ns, q⟩
  | pool => exact q.elim
  | scr _ => exact q.elim
section
variable {K : PySem.W.Frag} {B H : Hp}
theorem OwIss.toD : ∀ {l : List D} {vs gs}, OwIss K B H vs (l.map .da) gs → gs = [] ∧ Iss K B vs l
  | [], _, _, h => by
    cases h; exact ⟨rfl, .nil⟩
  | x :: l, _, _, h => by
    cases h with
    | cons a r =>
      cases a with
      | da i =>
        obtain ⟨rfl, t⟩ := OwIss.toD r
        exact ⟨rfl, .cons i t⟩
theorem OwIs.toLs {l : List D} {v fs} (h : OwIs K B H v (.tr (l.map .da)) fs) : OwIs K B H v (.ls l) fs := by
  obtain ⟨p, vs, gs, rfl, rfl, hp, a, z⟩ := h.trE
  obtain ⟨rfl, i⟩ := a.toD
  exact .l hp i z
theorem OwIs.toTr {l : List D} {v fs} (h : OwIs K B H v (.ls l) fs) : OwIs K B H v (.tr (l.map .da)) fs := by
  obtain ⟨p, xs, rfl, rfl, hp, i, z⟩ := h.lE
  exact .tr hp (.ofD i) z
end
/-- one more item of a list one owns -/
theorem OwnAt.app {K : PySem.W.Frag} {g : G} {H : Hp} {D : Addr} {xs : List V} {acc : List Ow} {gs fs : List Addr} {v : V} {o : Ow} {b b' : Option Nat} (a : OwnAt K g H b (.ref D) (.tr acc) (D :: gs)) (hD : H D = some (.lst xs)) (q : OwnAt K g H b' v o fs) (hb : b'.isSome = true → b.isSome = true) (dj : ∀ p ∈ fs, p ∉ D :: gs) (z : xs.length + 1 ≤ 100000) :
    OwnAt K g (upd H D (.lst (xs ++ [v]))) b (.ref D) (.tr (acc ++ [o])) (D :: (gs ++ fs)) := by
  obtain ⟨p, vs, gs', e1, e2, hp, ai, _⟩ := a.is_.trE
  cases e1; cases e2
  rw [hD] at hp; cases hp
  have nd := List.nodup_cons.mp a.nd
  have nDg : ∀ p ∈ gs, p ≠ D := fun p m e => nd.1 (e ▸ m)
  have nDf : ∀ p ∈ fs, p ≠ D := fun p m e => dj p m (by rw [e]; exact List.mem_cons_self)
  refine ⟨.tr upd_same ((ai.mono Same.rfl' fun p m => upd_ne (nDg p m)).append ?_) (by rw [List.length_append]; exact z), ?_, fun p m => ?_, a.pin⟩
  · have := OwIss.cons (q.is_.mono (H' := upd H D (.lst (xs ++ [v]))) Same.rfl' fun p m => upd_ne (nDf p m)) .nil
    rwa [List.append_nil] at this
  · refine List.nodup_cons.mpr ⟨fun m => ?_, List.nodup_append.mpr ⟨nd.2, q.nd, fun x m y m2 e => dj y m2 (by rw [← e]; exact List.mem_cons_of_mem _ m)⟩⟩
    rcases List.mem_append.mp m with m | m
    · exact nd.1 m
    · exact nDf D m rfl
  · rcases List.mem_cons.mp m with rfl | m
    · exact a.pv _ List.mem_cons_self
    · rcases List.mem_append.mp m with m | m
      · exact a.pv p (List.mem_cons_of_mem _ m)
      · have := q.pv p m
        exact ⟨this.nb, this.nm, this.n0.elim .inl fun h => .inr ⟨hb h.1, h.2⟩, this.np⟩
/-- cells that no slot holds change -/
theorem Rep.ownR {K : PySem.W.Frag} {g : G} {σ : L2.St} {H : Hp} {env : List Ev} {p : Addr} {ys : HO} {b : Option Nat} (r : Rep K g σ H env) (a : Priv g b p) (hp : ∃ u, H p = some u) (ns : ∀ i, p ∉ g.F i) (ni : ¬ Imm ys) : Rep K g σ (upd H p ys) env :=
  r.move (r.ok.own a ni hp) .rfl rfl fun i c m => ⟨fun b q => q, upd_ne fun e => ns i (e ▸ m)⟩
def dLcG {β : Type} (cv : (β → Prop) → Ar → Prop) (out : List β → Ow) (vs : List Nat) (it : DI) (b : DG) (dt : DT) (de : DE) : DE := fun env Ed Q => ownFree env vs = true ∧ it env Ed fun l => ∃ I : Nat → List β → Prop, I 0 [] ∧
  (∀ i x acc, l[i]? = some x → I i acc → onS (b x (wipeE env vs)) fun e2 => dt e2 (fun _ => False) fun c => (c = true → de e2 (fun _ => False) (cv fun y => I (i + 1) (acc ++ [y]))) ∧ (c = false → I (i + 1) acc)) ∧
  ∀ acc, I l.length acc → Q (.fr (out acc))
def dLc (vs : List Nat) (it : DI) (b : DG) (dt : DT) (de : DE) : DE := dLcG asD Ow.ls vs it b dt de
section
variable {K : PySem.W.Frag} {W : WX} {σ : L2.St} {H : Hp} {Q : VK} {β : Type} {cv : (β → Prop) → Ar → Prop} {e : β → Ow} {out : List β → Ow}
theorem lift_lcG {vs : List Nat} {it : DI} {b : DG} {dt : DT} {de : DE} (up : TakeUp K cv e) (ho : ∀ {B H v fs} {acc : List β}, OwIs K B H v (.tr (acc.map e)) fs → OwIs K B H v (out acc) fs) (h : lift K W (dLcG cv out vs it b dt de) σ H Q) : tLc (liftI K W it) (liftG K vs b) (liftT K WF dt) (lift K WF de) vs σ H Q := by
  obtain ⟨g, env, Ed, Qd, R, ⟨ow, h⟩, kv, kx⟩ := h
  refine ⟨g, env, Ed, _, R, h, fun J l H1 g1 l1 R1 rn ⟨I, I0, step, fin⟩ => ?_, kx⟩
  intro D hD
  obtain ⟨zl, Gd, Y, w, hgd, hy⟩ := rn
  have kx0 : ∀ {g σ env}, KX K WF g σ env (fun _ => False) := fun _ _ _ _ _ _ _ _ z => z.elim
  refine lc_it w (fun i H' => ∃ g' acc xs gs, G.Le g1 g' ∧ Rep K g' σ H' env ∧ H' D = some (.lst xs) ∧ OwnAt K g' H' none (.ref D) (.tr (acc.map e)) (D :: gs) ∧ xs.length ≤ i ∧ Off g' (D :: gs) ∧ I i acc) ?_ (fun i H' hi ⟨g', acc, xs, gs, l2, R2, _⟩ => hgd g' _ _ H' l2.b R2) ?_ ?_
  · obtain ⟨R2, ow, ns⟩ := upd_ls (xs := []) (l := []) R1 hD .nil (by decide)
    exact ⟨g1, [], [], [], .rfl, R2, upd_same, ⟨ow.is_.toTr, ow.nd, ow.pv, ow.pin⟩, Nat.zero_le _, ns, I0⟩
  · rintro i x H2 H3 hi ⟨g2, acc, xs, gs, l2, R2, hxs, o2, zl2, ns2, Ii⟩ y
    have S2 := R2.side o2 ns2
    obtain ⟨g3, dx, el, l3, S3, ix⟩ := hy i H2 x H3 hi y (g2.side H2 (D :: gs)) σ env l2.b S2
    obtain ⟨e2, eb, st⟩ := onS_some (step i dx acc el Ii)
    obtain ⟨g4, l4, eB, S4⟩ := S3.wipe vs
    refine ⟨g4, wipeE env vs, dx, e2, S4, by rw [eB]; exact ix, eb, fun σ2 g5 l5 R5 o => ⟨wipe_only o, g5, e2, fun _ => False, _, R5, st, fun c H4 g6 l6 R6 ⟨q1, q2⟩ => ?_, kx0⟩⟩
    cases c with
    | true =>
      rw [if_pos rfl]
      refine lift.use R6 (q1 rfl) (fun u r H5 g7 l7 R7 i7 q => ?_) kx0
      obtain ⟨yo, fs, g8, l8, R8, o8, ns8, Inext⟩ := up R7 i7 q
      have l38 := l4.trans (l5.trans (l6.trans (l7.trans l8)))
      obtain ⟨F', R9, sub⟩ := S3.unwipe l38 R8 o ow
      have l9 : G.Le g8 { g8 with F := F' } := ⟨rfl, rfl, fun _ h => h, Same.rfl', rfl, rfl, rfl⟩
      have o9 : OwnAt K { g8 with F := F' } H5 none u (e yo) fs := ⟨o8.is_, o8.nd, fun p m => ⟨(o8.pv p m).nb, (o8.pv p m).nm, (o8.pv p m).n0, (o8.pv p m).np⟩, o8.pin⟩
      obtain ⟨RA, oA, nsA, lA, hA, tr, _⟩ := Rep.back o2 (l3.trans (l38.trans l9)) R9
      obtain ⟨oB, djB⟩ := tr _ _ _ _ o9
      have hD5 : H5 D = some (.lst xs) := (hA D List.mem_cons_self).trans hxs
      have hb : xs.length + 1 ≤ 100000 := by omega
      refine ⟨xs, hD5, by rw [sizeLine_eq]; omega, _, acc ++ [yo], xs ++ [u], gs ++ fs, l2.trans lA, RA.ownR (oA.pv D List.mem_cons_self) ⟨_, hD5⟩ (fun i => nsA i D List.mem_cons_self) (fun h => h), upd_same, by rw [List.map_append]; exact oA.app hD5 oB (fun h => h) djB hb, by rw [List.length_append]; exact Nat.succ_le_succ zl2, fun i p m h => ?_, Inext⟩
      rcases List.mem_cons.mp m with rfl | m
      · exact nsA i _ List.mem_cons_self h
      · rcases List.mem_append.mp m with m | m
        · exact nsA i p (List.mem_cons_of_mem _ m) h
        · exact ns8 i p m (sub i p h)
    | false =>
      rw [if_neg (by decide)]
      have l36 := l4.trans (l5.trans l6)
      obtain ⟨F', R9, sub⟩ := S3.unwipe l36 R6 o ow
      have l9 : G.Le g6 { g6 with F := F' } := ⟨rfl, rfl, fun _ h => h, Same.rfl', rfl, rfl, rfl⟩
      obtain ⟨RA, oA, nsA, lA, hA, tr, _⟩ := Rep.back o2 (l3.trans (l36.trans l9)) R9
      exact ⟨_, acc, xs, gs, l2.trans lA, RA, (hA D List.mem_cons_self).trans hxs, oA, by omega, nsA, q2 rfl⟩
  · rintro H2 ⟨g2, acc, xs, gs, l2, R2, hxs, o2, zl2, ns2, Ii⟩
    exact kv _ (.fr (out acc)) H2 g2 (l1.trans l2) R2 ⟨_, ⟨ho o2.is_, o2.nd, o2.pv, o2.pin⟩, ns2⟩ (fin acc Ii)
theorem lift_lc {vs : List Nat} {it : DI} {b : DG} {dt : DT} {de : DE} (h : lift K W (dLc vs it b dt de) σ H Q) : tLc (liftI K W it) (liftG K vs b) (liftT K WF dt) (lift K WF de) vs σ H Q := lift_lcG up_d (fun h => h.toLs) h
end
/-! ### as a value -/
section
variable {X : Cx} {W : WX} {elt tg iter : Expr} {ifs : List Expr} {scope : Scope} {own : List (Str × Nat)} {pos : Pos}
def QTs (X : Cx) (W : WX) (es : List Expr) (d : DT) : Prop := PTs X es (liftT X.K W d)
def QPTs (X : Cx) (es : List Expr) (p : PF) : Prop := ∀ W, QTs X W es (dPT p)
theorem _root_.L2.PTs.mono {X es t t'} (h : PTs X es t) (m : ∀ σ H Q, t' σ H Q → t σ H Q) : PTs X es t' := ⟨fun pins s σ H Q I q => h.run pins s σ H Q I (m _ _ _ q)⟩
def dYes : DT := fun _ _ Q => Q true
theorem qts_nil : QTs X W [] dYes := pts_nil.mono fun σ H Q ⟨g, env, Ed, Qd, R, h, kv, kx⟩ => kv true H g .rfl R h
theorem qpts_nil : QPTs X [] (pc (.bl true)) := fun W => qts_nil.mono fun σ H Q h => h.imp fun env Ed Q ⟨b, e, q⟩ => by cases e; exact q
theorem qpts_one {c p} (h : QPT X c p) : QPTs X [c] p := fun W => pts_one (h W)
theorem qe_lc {it : DI} {b : DG} {dt : DT} {de : DE} (hc : X.calm = true) (hN : X.N.Nodup) (hi : QI X W tg iter it) (ok : BlkOk X.N X.env.scope scope own)
    (hg : ∀ (s : Shared) (H : Hp) (C : Addr) (cl : List (Str × Addr)) (fp : List Addr), QG (X.blk s H scope (compEnvC scope cl C X.env) fp) (own.map Prod.snd) tg b)
    (ht : ∀ (s : Shared) (H : Hp) (C : Addr) (cl : List (Str × Addr)) (fp : List Addr), QTs (X.blk s H scope (compEnvC scope cl C X.env) fp) WF ifs dt)
    (he : ∀ (s : Shared) (H : Hp) (C : Addr) (cl : List (Str × Addr)) (fp : List Addr), QE (X.blk s H scope (compEnvC scope cl C X.env) fp) WF elt de) (hs : ∀ x, foldedSetIterable iter X.env x = pure x := by intro _; rfl) :
    QE X W (.ListComp elt [⟨tg, iter, ifs, 0⟩] scope pos) (dLc (own.map Prod.snd) it b dt de) :=
  (pe_lc (g := liftG X.K (own.map Prod.snd) b) (tt := liftT X.K WF dt) (te := lift X.K WF de) hc hN hi ok hg ht he hs).mono fun _ _ _ h => lift_lc h
def pcol (f : D → Option (Option D)) : List D → Option (List D)
  | [] => some []
  | x :: l => match f x, pcol f l with
    | some none, some r => some r
    | some (some y), some r => some (y :: r)
    | _, _ => none
theorem pcol_cons {f x l r} (h : pcol f (x :: l) = some r) : ∃ o m, f x = some o ∧ pcol f l = some m ∧ r = o.toList ++ m := by
  unfold pcol at h
  split at h
  · rename_i e1 e2; cases h; exact ⟨_, _, e1, e2, rfl⟩
  · rename_i e1 e2; cases h; exact ⟨_, _, e1, e2, rfl⟩
  · cases h
/-- the comprehension's turn -/
def pturn (b : DG) (pt pe : PF) (env : List Ev) (x : D) : Option (Option D) := match b x env with
  | some e2 => match pt e2 with
    | some (.bl true) => match pe e2 with
      | some y => some (some y)
      | none => none
    | some (.bl false) => some none
    | _ => none
  | none => none
/-- an iteration whose items are known -/
structure DIp where
  di : DI
  p : List Ev → Option (List D)
  ok : ∀ env Ed Ld l, p env = some l → Ld l → di env Ed Ld
def plc (vs : List Nat) (it : List Ev → Option (List D)) (b : DG) (pt pe : PF) : PF := fun env => if ownFree env vs = true then match it env with
  | some l => match pcol (pturn b pt pe (wipeE env vs)) l with
    | some r => some (.lst r)
    | none => none
  | none => none
  else none
theorem pcol_app {f} : ∀ {l : List D} {r}, pcol f l = some r → ∀ i, ∃ a b, pcol f (l.take i) = some a ∧ pcol f (l.drop i) = some b ∧ r = a ++ b
  | [], _, h, i => by cases h; exact ⟨[], [], by simp [pcol], by simp [pcol], rfl⟩
  | x :: l, r, h, 0 => ⟨[], r, rfl, h, rfl⟩
  | x :: l, r, h, i + 1 => by
    obtain ⟨o, m, e1, e2, rfl⟩ := pcol_cons h
    obtain ⟨a, b, h1, h2, rfl⟩ := pcol_app e2 i
    refine ⟨o.toList ++ a, b, ?_, h2, by rw [List.append_assoc]⟩
    rw [List.take_succ_cons, pcol, e1, h1]
    cases o <;> rfl
theorem plc_dLc {vs : List Nat} {it : DIp} {b : DG} {pt pe : PF} {env Ed} {l : List D} {Q : Ar → Prop} (h : plc vs it.p b pt pe env = some (.lst l)) (q : Q (.fr (.ls l))) : dLc vs it.di b (dPT pt) (dP pe) env Ed Q := by
  unfold plc at h
  split at h
  · rename_i ow
    refine ⟨ow, ?_⟩
    split at h
    · rename_i its ei
      split at h
      · rename_i r er
        cases h
        refine it.ok env Ed _ _ ei ⟨fun i acc => pcol (pturn b pt pe (wipeE env vs)) (its.take i) = some acc, rfl, fun i x acc ex Ii => ?_, fun acc hI => ?_⟩
        · have Ii : pcol (pturn b pt pe (wipeE env vs)) (its.take i) = some acc := Ii
          obtain ⟨a, d, h1, h2, e3⟩ := pcol_app er i
          have hi := (List.getElem?_eq_some_iff.mp ex).1
          rw [List.drop_eq_getElem_cons hi, (List.getElem?_eq_some_iff.mp ex).2] at h2
          obtain ⟨o, m, e1, e2, _⟩ := pcol_cons h2
          have nxt : pcol (pturn b pt pe (wipeE env vs)) (its.take (i + 1)) = some (acc ++ o.toList) := by
            obtain ⟨a2, d2, h3, h4, e4⟩ := pcol_app er (i + 1)
            rw [h3]
            rw [h1] at Ii; cases Ii
            rw [e2] at h4; cases h4
            rw [e3] at e4
            have : d = o.toList ++ m := by
              obtain ⟨o', m', e1', e2', e5⟩ := pcol_cons h2
              rw [e1] at e1'; cases e1'; rw [e2] at e2'; cases e2'; exact e5
            rw [this, ← List.append_assoc] at e4
            exact congrArg some (List.append_cancel_right e4).symm
          unfold pturn at e1
          cases eb : b x (wipeE env vs) with
          | none => rw [eb] at e1; cases e1
          | some e2 =>
            rw [eb] at e1
            show dPT pt e2 (fun _ => False) _
            dsimp only at e1
            split at e1
            · rename_i ht
              split at e1
              · rename_i y hy
                cases e1
                exact ⟨true, ht, fun _ => ⟨y, hy, nxt⟩, fun z => by cases z⟩
              · cases e1
            · rename_i ht
              cases e1
              exact ⟨false, ht, fun z => (by cases z), fun _ => by simpa using nxt⟩
            · cases e1
        · have hI : pcol (pturn b pt pe (wipeE env vs)) (its.take its.length) = some acc := hI
          rw [List.take_length, er] at hI; cases hI; exact q
      · cases h
    · cases h
  · cases h
/-- a pure expression that gives a fresh list -/
def dF (p : PF) : DE := fun env _ Q => ∃ l, p env = some (.lst l) ∧ Q (.fr (.ls l))
theorem plc_lst {vs it b pt pe env z} (h : plc vs it b pt pe env = some z) : ∃ l, z = .lst l := by
  unfold plc at h
  split at h
  · split at h
    · split at h
      · cases h; exact ⟨_, rfl⟩
      · cases h
    · cases h
  · cases h
theorem lift_F {K : PySem.W.Frag} {p : PF} {σ : L2.St} {H : Hp} {Q : VK} (hl : ∀ env z, p env = some z → ∃ l, z = .lst l) (h : lift K W (dP p) σ H Q) : lift K W (dF p) σ H Q := by
  obtain ⟨g, env, Ed, Qd, R, ⟨z, e, q⟩, kv, kx⟩ := h
  obtain ⟨l, rfl⟩ := hl _ _ e
  exact ⟨g, env, Ed, fun r => r = .fr (.ls l), R, ⟨l, e, rfl⟩, lift_fr (H := H) (Ed := Ed) kv q, kx⟩
theorem qf_lc {it : DIp} {b : DG} {pt pe : PF} (hc : X.calm = true) (hN : X.N.Nodup) (hi : QI X W tg iter it.di) (ok : BlkOk X.N X.env.scope scope own)
    (hg : ∀ (s : Shared) (H : Hp) (C : Addr) (cl : List (Str × Addr)) (fp : List Addr), QG (X.blk s H scope (compEnvC scope cl C X.env) fp) (own.map Prod.snd) tg b)
    (ht : ∀ (s : Shared) (H : Hp) (C : Addr) (cl : List (Str × Addr)) (fp : List Addr), QPTs (X.blk s H scope (compEnvC scope cl C X.env) fp) ifs pt)
    (he : ∀ (s : Shared) (H : Hp) (C : Addr) (cl : List (Str × Addr)) (fp : List Addr), QP (X.blk s H scope (compEnvC scope cl C X.env) fp) elt pe) (hs : ∀ x, foldedSetIterable iter X.env x = pure x := by intro _; rfl) :
    QE X W (.ListComp elt [⟨tg, iter, ifs, 0⟩] scope pos) (dF (plc (own.map Prod.snd) it.p b pt pe)) :=
  (qe_lc hc hN hi ok hg (fun s H C cl fp => ht s H C cl fp WF) (fun s H C cl fp => he s H C cl fp WF) hs).mono fun _ _ _ h => h.imp fun env Ed Q ⟨l, e, q⟩ => plc_dLc e q
theorem qp_lc {it : DIp} {b : DG} {pt pe : PF} (hc : X.calm = true) (hN : X.N.Nodup) (hi : ∀ W, QI X W tg iter it.di) (ok : BlkOk X.N X.env.scope scope own)
    (hg : ∀ (s : Shared) (H : Hp) (C : Addr) (cl : List (Str × Addr)) (fp : List Addr), QG (X.blk s H scope (compEnvC scope cl C X.env) fp) (own.map Prod.snd) tg b)
    (ht : ∀ (s : Shared) (H : Hp) (C : Addr) (cl : List (Str × Addr)) (fp : List Addr), QPTs (X.blk s H scope (compEnvC scope cl C X.env) fp) ifs pt)
    (he : ∀ (s : Shared) (H : Hp) (C : Addr) (cl : List (Str × Addr)) (fp : List Addr), QP (X.blk s H scope (compEnvC scope cl C X.env) fp) elt pe) (hs : ∀ x, foldedSetIterable iter X.env x = pure x := by intro _; rfl) :
    QP X (.ListComp elt [⟨tg, iter, ifs, 0⟩] scope pos) (plc (own.map Prod.snd) it.p b pt pe) :=
  fun W => (qf_lc hc hN (hi W) ok hg ht he hs).mono fun _ _ _ h => lift_F (fun _ _ => plc_lst) h
end
/-! ### known items -/
def pseq (p : PF) : List Ev → Option (List D) := fun env => match p env with
  | some (.lst l) => some l
  | some (.tup l) => some l
  | _ => none
def ipSeq (p : PF) : DIp := ⟨iSeqD (dP p), pseq p, fun env Ed Ld l h q => by
  unfold pseq at h
  split at h
  · rename_i e; cases h; exact ⟨_, e, q⟩
  · rename_i e; cases h; exact ⟨_, e, q⟩
  · cases h⟩
def prng1 (p : PF) : List Ev → Option (List D) := fun env => match p env with
  | some (.int n) => if -100000 ≤ n ∧ n ≤ 100000 then some (rgD 0 n.toNat) else none
  | _ => none
def ipRng1 (p : PF) : DIp := ⟨iRng1D (dP p), prng1 p, fun env Ed Ld l h q => by
  unfold prng1 at h
  split at h
  · rename_i e
    split at h
    · rename_i b; cases h; exact ⟨_, e, b, q⟩
    · cases h
  · cases h⟩
def pstr (p : PF) : List Ev → Option (List D) := fun env => match p env with
  | some (.str z) => if z.cps.size ≤ 100000 then some (ltrs z) else none
  | _ => none
def ipStr (p : PF) : DIp := ⟨iStrD (dP p), pstr p, fun env Ed Ld l h q => by
  unfold pstr at h
  split at h
  · rename_i e1
    split at h
    · rename_i b; cases h; exact ⟨_, e1, b, q⟩
    · cases h
  · cases h⟩
end LR
set_option Elab.async false
set_option maxRecDepth 100000
set_option linter.all false
set_option maxHeartbeats 4000000
namespace LR
open PySem PySem.Spec PyProof.Rows L2
/-! # the data layer: statements -/
structure Dn where
  nx : List Ev → Prop
  rt : List Ev → Ar → Prop
  bk : List Ev → Prop := fun _ => False
  ct : List Ev → Prop := fun _ => False
  er : Er → List Ev → Prop := fun _ _ => False
abbrev DS := Dn → List Ev → Prop
structure Lk (K : PySem.W.Frag) (W : WX) (g : G) (D : Ends) (Dd : Dn) : Prop where
  nx : ∀ σ' H' g' env', G.Le g g' → Rep K g' σ' H' env' → Dd.nx env' → D.nx σ' H'
  bk : ∀ σ' H' g' env', G.Le g g' → Rep K g' σ' H' env' → Dd.bk env' → D.bk σ' H'
  ct : ∀ σ' H' g' env', G.Le g g' → Rep K g' σ' H' env' → Dd.ct env' → D.ct σ' H'
  rt : ∀ v r σ' H' g' env', G.Le g g' → Rep K g' σ' H' env' → IsR K g' H' v r → Dd.rt env' r → D.rt v H'
  er : ∀ e cls dd σ' H' g' env', G.Le g g' → Rep K g' σ' H' env' → IsEr g'.B cls dd e → Dd.er e env' → W cls dd σ' H'
def liftS (K : PySem.W.Frag) (W : WX) (ds : DS) : TS := fun D σ H => ∃ g env Dd, Rep K g σ H env ∧ ds Dd env ∧ Lk K W g D Dd
def QS (X : Cx) (W : WX) (st : Stmt) (ds : DS) : Prop := PS X st (liftS X.K W ds)
def QSs (X : Cx) (W : WX) (st : List Stmt) (ds : DS) : Prop := PSs X st (liftS X.K W ds)
theorem _root_.L2.PS.mono {X st t t'} (h : PS X st t) (m : ∀ D σ H, t' D σ H → t D σ H) : PS X st t' := ⟨fun pins s σ H D I q => h.run pins s σ H D I (m _ _ _ q)⟩
theorem _root_.L2.PSs.mono {X st t t'} (h : PSs X st t) (m : ∀ D σ H, t' D σ H → t D σ H) : PSs X st t' := ⟨fun pins s σ H D I q => h.run pins s σ H D I (m _ _ _ q)⟩
section
variable {K : PySem.W.Frag} {W : WX} {g g' : G} {D : Ends} {Dd : Dn} {σ : L2.St} {H : Hp} {env : List Ev}
theorem Lk.mono (l : Lk K W g D Dd) (le : G.Le g g') : Lk K W g' D Dd :=
  ⟨fun σ' H' g2 env' l2 => l.nx σ' H' g2 env' (le.trans l2), fun σ' H' g2 env' l2 => l.bk σ' H' g2 env' (le.trans l2), fun σ' H' g2 env' l2 => l.ct σ' H' g2 env' (le.trans l2),
    fun v r σ' H' g2 env' l2 => l.rt v r σ' H' g2 env' (le.trans l2), fun e cls dd σ' H' g2 env' l2 => l.er e cls dd σ' H' g2 env' (le.trans l2)⟩
theorem Lk.kx (l : Lk K W g D Dd) : KX K W g σ env (fun e => Dd.er e env) := fun e cls dd H' g' le R i q => l.er e cls dd σ H' g' env le R i q
theorem liftS.imp {d d' : DS} (m : ∀ Dd env, d' Dd env → d Dd env) (h : liftS K W d' D σ H) : liftS K W d D σ H :=
  let ⟨g, env, Dd, R, h, l⟩ := h; ⟨g, env, Dd, R, m _ _ h, l⟩
end
section
variable {X : Cx} {W : WX} {st : Stmt} {rest sts : List Stmt} {pos : Pos} {e : Expr} {i : Nat}
def dNext : DS := fun Dd env => Dd.nx env
def dSeq (a b : DS) : DS := fun Dd env => a { Dd with nx := b Dd } env
theorem qss_nil : QSs X W [] dNext := pss_nil.mono fun D σ H ⟨g, env, Dd, R, h, l⟩ => l.nx _ _ _ _ .rfl R h
theorem qss_cons {a b} (h : QS X W st a) (t : QSs X W rest b) : QSs X W (st :: rest) (dSeq a b) := (pss_cons h t).mono fun D σ H ⟨g, env, Dd, R, h, l⟩ =>
  ⟨g, env, { Dd with nx := b Dd }, R, h, ⟨fun σ' H' g' env' le R' q => ⟨g', env', Dd, R', q, l.mono le⟩, l.bk, l.ct, l.rt, l.er⟩⟩
theorem qss_one {a} (h : QS X W st a) : QSs X W [st] a := pss_one h
/-- a list of the def's own is data from here on -/
def dFz (is : List Nat) (s : DS) : DS := fun Dd env => s Dd (is.foldl fz env)
theorem Rep.frzs {K : PySem.W.Frag} {g : G} {σ : L2.St} {H : Hp} {env : List Ev} (R : Rep K g σ H env) (is : List Nat) : ∃ g', G.Le g g' ∧ Rep K g' σ H (is.foldl fz env) := by
  induction is generalizing g env with
  | nil => exact ⟨g, .rfl, R⟩
  | cons i r ih =>
    obtain ⟨g1, l1, R1⟩ := R.frz i
    obtain ⟨g2, l2, R2⟩ := ih R1
    exact ⟨g2, l1.trans l2, R2⟩
theorem qss_fz {a} (is : List Nat) (h : QSs X W sts a) : QSs X W sts (dFz is a) := PSs.mono h fun D σ H ⟨g, env, Dd, R, h, l⟩ => by
  obtain ⟨g', le, R'⟩ := R.frzs is
  exact ⟨g', _, Dd, R', h, l.mono le⟩
def dRet (d : DE) : DS := fun Dd env => d env (fun e => Dd.er e env) (Dd.rt env)
theorem qs_ret {d} (h : QE X W e d) : QS X W (.Return (some e) pos) (dRet d) := (ps_ret h).mono fun D σ H ⟨g, env, Dd, R, h, l⟩ =>
  lift.use R h (fun v r H1 g1 l1 R1 i1 q => l.rt _ _ _ _ _ _ l1 R1 i1 q) l.kx
/-- what one owns, what may be changed -/
def ownO : Ev → Option Ow
  | .own o _ => some o
  | _ => none
def reown : Ev → Ow → Ev
  | .own _ b, o => .own o b
  | e, _ => e
/-- return x, x of the def's own -/
def dRetO (i : Nat) : DS := fun Dd env => match nth env i with
  | .own l none => Dd.rt (sth env i .any) (.fr l)
  | _ => False
theorem Rep.giveUp {K : PySem.W.Frag} {g : G} {σ : L2.St} {H : Hp} {env : List Ev} {i : Nat} {o : Ow} {b : Option Nat} {v : V} (R : Rep K g σ H env) (a : OwnAt K g H b v o (g.F i)) : Rep K (g.setF i []) σ H (sth env i .any) ∧ OwnAt K (g.setF i []) H b v o (g.F i) ∧ Off (g.setF i []) (g.F i) :=
  ⟨R.drop i, a.setF, fun j p m h => by
    have h : p ∈ LR.setF g.F i [] j := h
    by_cases n : j = i
    · subst n; rw [setF_eq] at h; cases h
    · rw [setF_ne n] at h; exact R.di i j p (Ne.symm n) m h⟩
theorem qs_retO (h : PE X e (tVar i)) : QS X W (.Return (some e) pos) (dRetO i) := (ps_ret h).mono fun D σ H ⟨g, env, Dd, R, h, l⟩ => by
  unfold dRetO at h
  cases en : nth env i with
  | own m b =>
    cases b with
    | none =>
      rw [en] at h
      have s := R.sl i
      rw [en] at s
      obtain ⟨v, es, o⟩ := s
      obtain ⟨R2, o2, ns⟩ := R.giveUp o
      exact ⟨v, es, l.rt _ (.fr m) σ H _ _ G.setF_le R2 ⟨_, o2, ns⟩ h⟩
    | some _ => rw [en] at h; exact h.elim
  | _ => rw [en] at h; exact h.elim
def dIfS (c : DT) (t u : DS) : DS := fun Dd env => c env (fun e => Dd.er e env) fun b => (b = true → t Dd env) ∧ (b = false → u Dd env)
theorem qs_if {c : Expr} {a b : List Stmt} {dc ta tb} (hc : QT X W c dc) (ha : QSs X W a ta) (hb : QSs X W b tb) : QS X W (.If c a b pos) (dIfS dc ta tb) := (ps_if hc ha hb).mono fun D σ H ⟨g, env, Dd, R, h, l⟩ => by
  refine ⟨g, env, _, _, R, h, fun c H1 g1 l1 R1 ⟨q1, q2⟩ => ?_, l.kx⟩
  cases c with
  | true => rw [if_pos rfl]; exact ⟨g1, env, Dd, R1, q1 rfl, l.mono l1⟩
  | false => rw [if_neg (by decide)]; exact ⟨g1, env, Dd, R1, q2 rfl, l.mono l1⟩
/-! ## stores -/
def dSet (w : Bool) (i : Nat) (d : DE) : DS := fun Dd env => d env (fun e => Dd.er e env) fun a => Dd.nx (sth env i (toEv w a))
theorem lift_set {K : PySem.W.Frag} {W : WX} {w : Bool} {d : DE} {D : Ends} {σ : L2.St} {H : Hp} (h : liftS K W (dSet w i d) D σ H) : tAsg (lift K W d) (gName i) D σ H := by
  obtain ⟨g, env, Dd, R, h, l⟩ := h
  refine lift.use R h (fun v r H1 g1 l1 R1 i1 q => ?_) l.kx
  obtain ⟨g2, l2, R2⟩ := R1.set (i := i) w i1
  exact l.nx _ _ _ _ (l1.trans l2) R2 q
/-! ## lists of the def's own -/
theorem Rep.ownS {K : PySem.W.Frag} {g : G} {σ : L2.St} {H : Hp} {env : List Ev} (R : Rep K g σ H env) {i : Nat} {l m : Ow} {b : Option Nat} {v : V} {p : Addr} {ys : HO} {fs : List Addr} (en : nth env i = .own l b) (es : σ[i]? = some (some v)) (mp : p ∈ g.F i) (ni : ¬ Imm ys)
    (iy : OwIs K g.B (upd H p ys) v m fs) (nd : fs.Nodup) (sub : ∀ a ∈ fs, a ∈ g.F i ∨ (Priv g none a ∧ ∀ j, a ∉ g.F j)) : Rep K (g.setF i fs) σ (upd H p ys) (sth env i (reown (nth env i) m)) := by
  have s := R.sl i
  rw [en] at s
  obtain ⟨v', es', o⟩ := s
  have pvs : ∀ a ∈ fs, Priv g b a := fun a ma => (sub a ma).elim (o.pv a) fun ⟨q, _⟩ => ⟨q.nb, q.nm, q.n0.elim .inl (fun z => by cases z.1), q.np⟩
  rw [en]
  refine R.moveS (lt_of_own en) _ ((R.ok.own (o.pv p mp) ni (o.ex p mp)).setF) G.setF_le rfl rfl (fun _ _ => rfl) ⟨v, es, iy, nd, fun a ma => (pvs a ma).setF, by rw [es] at es'; cases es'; exact o.pin⟩ (fun z => by cases z) (fun j n a ma h => ?_) fun j n a ma => ⟨fun b' q => q.setF, upd_ne fun e => R.di i j p (Ne.symm n) mp (e ▸ ma)⟩
  rcases sub a ma with q | ⟨_, q⟩
  · exact R.di i j a (Ne.symm n) q h
  · exact q j h
/-- .. a list of data -/
theorem Rep.ownL {K : PySem.W.Frag} {g : G} {σ : L2.St} {H : Hp} {env : List Ev} (R : Rep K g σ H env) {i : Nat} {l : Ow} {m : List D} {b : Option Nat} {p : Addr} {ys : List V} (en : nth env i = .own l b) (es : σ[i]? = some (some (.ref p))) (mp : p ∈ g.F i) (iy : Iss K g.B ys m) (z : ys.length ≤ 100000) :
    Rep K (g.setF i [p]) σ (upd H p (.lst ys)) (sth env i (reown (nth env i) (.ls m))) :=
  R.ownS en es mp (fun h => h) (.l upd_same iy z) (by simp) fun a ma => .inl (by rw [List.mem_singleton.mp ma]; exact mp)
theorem Rep.lsE {K : PySem.W.Frag} {g : G} {σ : L2.St} {H : Hp} {env : List Ev} (R : Rep K g σ H env) {i : Nat} {l : List D} (en : ownO (nth env i) = some (.ls l)) : ∃ b p xs, nth env i = .own (.ls l) b ∧ σ[i]? = some (some (.ref p)) ∧ p ∈ g.F i ∧ H p = some (.lst xs) ∧ Iss K g.B xs l ∧ xs.length ≤ 100000 := by
  have s := R.sl i
  cases e : nth env i with
  | own o b =>
    rw [e] at s en
    obtain ⟨v, es, o'⟩ := s
    cases en
    obtain ⟨p, xs, rfl, ef, hp, i1, z⟩ := o'.is_.lE
    exact ⟨b, p, xs, rfl, es, by rw [ef]; exact List.mem_cons_self, hp, i1, z⟩
  | _ => rw [e] at en; cases en
/-- x.m(e ..), x a list of the def's own: what becomes of it -/
def dOwn (i : Nat) (f : List D → List D → Option (List D)) (da : DA) : DS := fun Dd env => ∃ l, ownO (nth env i) = some (.ls l) ∧ da env (fun e => Dd.er e env) fun as => ∃ ys m, allD as = some ys ∧ f l ys = some m ∧ m.length ≤ 100000 ∧ Dd.nx (sth env i (reown (nth env i) (.ls m)))
/-- .. as the library's rule has it -/
structure OwnM (K : PySem.W.Frag) (r : V → List V → Hp → VK → Prop) (f : List D → List D → Option (List D)) : Prop where
  ok : ∀ {g : G} {H : Hp} {p : Addr} {xs us : List V} {l ys m : List D} {Q : VK}, Same g.B H → H p = some (.lst xs) → Iss K g.B xs l → Iss K g.B us ys → f l ys = some m → m.length ≤ 100000 →
    (∀ v zs, Iss K g.B zs m → Q v (upd H p (.lst zs))) → r (.ref p) us H Q
theorem qs_own {r : V → List V → Hp → VK → Prop} {f : List D → List D → Option (List D)} {da} (hf : OwnM X.K r f) (hp : PS X st (tDrop (tBM X.K "list" r (tVar i) (liftA X.K W da)))) : QS X W st (dOwn i f da) := hp.mono fun D σ H ⟨g, env, Dd, R, ⟨l0, en, h⟩, l⟩ => by
  obtain ⟨b, p, xs, e0, es, mp, hx, _, _⟩ := R.lsE en
  refine ⟨.ref p, es, .inl ⟨rfl, _, SqL.of hx⟩, g, env, _, _, R, h, fun us as H1 g1 l1 R1 i1 ⟨ys, m, e1, e2, z, q⟩ => ?_, l.kx⟩
  obtain ⟨b', p', xs', e0', es', mp', hx', ix', _⟩ := R1.lsE en
  rw [es] at es'; cases es'
  exact hf.ok R1.ok.sb hx' ix' (i1.all e1) e2 z fun v zs iz => l.nx _ _ _ _ (l1.trans G.setF_le) (R1.ownL e0 es mp' iz (by rw [iz.length]; exact z)) q
theorem qs_own0 {r : V → List V → Hp → VK → Prop} {f : List D → List D → Option (List D)} (hf : OwnM X.K r f) (hp : PS X st (tDrop (tBM0 X.K "list" r (tVar i)))) : QS X W st (dOwn i f daNil) := hp.mono fun D σ H ⟨g, env, Dd, R, ⟨l0, en, ys, m, e1, e2, z, q⟩, l⟩ => by
  obtain ⟨b, p, xs, e0, es, mp, hx, ix, _⟩ := R.lsE en
  cases e1
  exact ⟨.ref p, es, .inl ⟨rfl, _, SqL.of hx⟩, hf.ok R.ok.sb hx ix .nil e2 z fun v zs iz => l.nx _ _ _ _ G.setF_le (R.ownL e0 es mp iz (by rw [iz.length]; exact z)) q⟩
theorem Rep.trE {K : PySem.W.Frag} {g : G} {σ : L2.St} {H : Hp} {env : List Ev} (R : Rep K g σ H env) {i : Nat} {ts : List Ow} (en : ownO (nth env i) = some (.tr ts)) : ∃ b p vs gs, nth env i = .own (.tr ts) b ∧ σ[i]? = some (some (.ref p)) ∧ g.F i = p :: gs ∧ H p = some (.lst vs) ∧ OwnAt K g H b (.ref p) (.tr ts) (p :: gs) ∧ vs.length = ts.length ∧ vs.length ≤ 100000 := by
  have s := R.sl i
  cases e : nth env i with
  | own o b =>
    rw [e] at s en
    obtain ⟨v, es, o'⟩ := s
    cases en
    obtain ⟨p, vs, gs, rfl, ef, hp, i1, z⟩ := o'.is_.trE
    exact ⟨b, p, vs, gs, rfl, es, ef, hp, by rw [← ef]; exact o', i1.length, z⟩
  | _ => rw [e] at en; cases en
end
section
variable {K : PySem.W.Frag}
def appF : List D → List D → Option (List D)
  | l, [y] => some (l ++ [y])
  | _, _ => none
theorem m_append : OwnM K rAppend appF := ⟨fun {g H p xs us l ys m Q} sb hp ix iu e z k => by
  cases iu with
  | nil => cases e
  | cons i1 t => cases t with
    | nil =>
      cases e
      have hl := ix.length
      rw [List.length_append] at z
      have z : l.length + 1 ≤ 100000 := z
      exact ⟨p, xs, _, rfl, rfl, hp, by rw [sizeLine_eq]; omega, k _ _ (ix.append (.one i1))⟩
    | cons => cases e⟩
def clrF : List D → List D → Option (List D)
  | _, [] => some []
  | _, _ => none
theorem m_clear : OwnM K rClear clrF := ⟨fun {g H p xs us l ys m Q} sb hp ix iu e z k => by
  cases iu with
  | nil => cases e; exact ⟨p, xs, rfl, rfl, hp, k _ _ .nil⟩
  | cons => cases e⟩
end
section
variable {X : Cx} {W : WX} {st : Stmt} {pos : Pos} {e : Expr} {i : Nat}
/-- x[k] and x.pop(k) of a list of the def's own -/
def dIxO (i : Nat) (pk : PF) : DE := fun env _ Q => ∃ l k x, ownO (nth env i) = some (.ls l) ∧ pk env = some (.int k) ∧ atI l k = some x ∧ Q (.d x)
theorem qe_ixO {a b : Expr} {pk} (ha : PE X a (tVar i)) (hb : QP X b pk) (hs : PlainIx b) : QE X W (.Subscript a b pos) (dIxO i pk) := (pe_ix ix_list ha (hb W) hs).mono fun σ H Q ⟨g, env, Ed, Qd, R, ⟨l, k, x, en, ek, ex, q⟩, kv, kx⟩ => by
  obtain ⟨b, p, xs, e0, es, mp, hx, ix, _⟩ := R.lsE en
  refine ⟨.ref p, es, lift.useP R ek fun u H2 g2 l2 R2 i2 => ?_⟩
  obtain ⟨b', p', xs', e0', es', mp', hx', ix', z'⟩ := R2.lsE en
  rw [es] at es'; cases es'
  obtain ⟨w, ew, iw⟩ := ix'.at ex
  exact ⟨p, xs', k, w, rfl, i2.intE, SqL.of hx', ew, kv _ (.d x) _ _ l2 R2 iw q⟩
mutual
def imd : D → Bool
  | .non => true
  | .bl _ => true
  | .int _ => true
  | .str _ => true
  | .cls _ => true
  | .ty _ => true
  | .tup l => imds l
  | .ins _ _ l => imds l
  | .lst _ => false
  | .dic _ _ => false
def imds : List D → Bool
  | [] => true
  | x :: r => imd x && imds r
end
mutual
theorem Is.less {K : PySem.W.Frag} {B B' : Hp} (s : ∀ p o, B p = some o → Imm o → B' p = some o) : ∀ {v x}, Is K B v x → imd x = true → Is K B' v x
  | _, _, .non, _ => .non
  | _, _, .bl b, _ => .bl b
  | _, _, .int i, _ => .int i
  | _, _, .str x, _ => .str x
  | _, _, .lst h a z, q => by cases q
  | _, _, .tup h a z, q => .tup (s _ _ h trivial) (a.less s q) z
  | _, _, .ins h k a c n, q => .ins (s _ _ h trivial) k (a.less s q) c n
  | _, _, .cls a, _ => .cls a
  | _, _, .ty n, _ => .ty n
  | _, _, .dic h k a z, q => by cases q
theorem Iss.less {K : PySem.W.Frag} {B B' : Hp} (s : ∀ p o, B p = some o → Imm o → B' p = some o) : ∀ {v x}, Iss K B v x → imds x = true → Iss K B' v x
  | _, _, .nil, _ => .nil
  | _, _, .cons h t, q => by
    have q := (Bool.and_eq_true _ _).mp q
    exact .cons (h.less s q.1) (t.less s q.2)
end
def un : List Ev → List Ev
  | [] => []
  | .own l _ :: r => .d l.d :: un r
  | e :: r => e :: un r
def dLoanT (p : PF) : DT := fun env _ Q => ∃ b, p (un env) = some (.bl b) ∧ Q b
def unE : Ev → Ev
  | .own l _ => .d l.d
  | e => e
theorem nth_un : ∀ {env : List Ev} {j : Nat}, nth (un env) j = unE (nth env j)
  | [], _ => rfl
  | e :: _, 0 => by cases e <;> rfl
  | e :: r, n + 1 => by
    have := nth_un (env := r) (j := n)
    cases e <;> exact this
theorem un_len : ∀ {env : List Ev}, (un env).length = env.length
  | [] => rfl
  | e :: r => by
    have := un_len (env := r)
    cases e <;> exact congrArg (· + 1) this
open Classical in
/-- all that one owns is data for a while -/
noncomputable def G.lent (g : G) (H : Hp) : G := { g with B := fun a => if ∃ i, a ∈ g.F i then H a else g.B a, F := fun _ => [] }
section
variable {K : PySem.W.Frag} {g g2 : G} {σ : L2.St} {H H' : Hp} {env : List Ev} {a : Addr}
open Classical in
theorem lent_own (c : ∃ i, a ∈ g.F i) : (g.lent H).B a = H a := by
  show (if ∃ i, a ∈ g.F i then H a else g.B a) = _
  rw [if_pos c]
open Classical in
theorem lent_not (c : ¬ ∃ i, a ∈ g.F i) : (g.lent H).B a = g.B a := by
  show (if ∃ i, a ∈ g.F i then H a else g.B a) = _
  rw [if_neg c]
theorem Rep.ownP (R : Rep K g σ H env) (c : ∃ i, a ∈ g.F i) : ∃ b, Priv g b a := by
  obtain ⟨i, m⟩ := c
  obtain ⟨v, o, b, _, _, q⟩ := R.ownC m
  exact ⟨b, q.pv a m⟩
theorem Rep.ownI (R : Rep K g σ H env) (c : ∃ i, a ∈ g.F i) {o} (e : H a = some o) : ¬ Imm o := by
  obtain ⟨i, m⟩ := c
  obtain ⟨v, o, b, _, _, q⟩ := R.ownC m
  exact q.notImm a m _ e
theorem G.lent_le (R : Rep K g σ H env) : G.Le g (g.lent H) := ⟨rfl, rfl, fun _ h => h, fun a o e => by
  by_cases c : ∃ i, a ∈ g.F i
  · obtain ⟨b, q⟩ := R.ownP c
    rw [q.nb] at e; cases e
  · rw [lent_not c]; exact e, rfl, rfl, rfl⟩
theorem Rep.lend (R : Rep K g σ H env) : Rep K (g.lent H) σ H (un env) := by
  have le := G.lent_le R
  refine ⟨⟨fun a o e => ?_, fun a m => ⟨(R.ok.pl a m).1, ?_⟩, fun a o e i => le.b _ _ (R.ok.im a o e i), R.ok.fr, R.ok.nw, fun a o e => ?_, R.ok.m0, fun a o nx e e2 => ?_, R.ok.xp⟩, by rw [un_len]; exact R.ln, fun j => ?_, fun _ _ => rfl, fun i j p _ hi => nomatch hi⟩
  · by_cases c : ∃ i, a ∈ g.F i
    · rw [lent_own c] at e; exact e
    · rw [lent_not c] at e; exact R.ok.sb a o e
  · by_cases c : ∃ i, a ∈ g.F i
    · obtain ⟨b, q⟩ := R.ownP c; exact absurd m q.nm
    · rw [lent_not c]; exact (R.ok.pl a m).2
  · obtain ⟨h1, h2, h3⟩ := R.ok.pv a o e
    refine ⟨h1, ?_, h3⟩
    by_cases c : ∃ i, a ∈ g.F i
    · obtain ⟨b, q⟩ := R.ownP c
      have e : g.P a = some o := e
      rw [q.np] at e; cases e
    · rw [lent_not c]; exact h2
  · by_cases c : ∃ i, a ∈ g.F i
    · obtain ⟨b, q⟩ := R.ownP c
      have e : g.H0 a = some o := e
      rcases q.n0 with q | q
      · rw [q] at e; cases e
      · exact absurd q.2 nx
    · rw [lent_not c]; exact R.ok.bn a o nx e e2
  · have s := R.sl j
    rw [nth_un]
    cases e : nth env j with
    | own l b =>
      rw [e] at s; obtain ⟨v, e1, o⟩ := s
      exact ⟨v, e1, o.is_.is_ le.b fun a m => lent_own ⟨j, m⟩⟩
    | any => trivial
    | d x => rw [e] at s; obtain ⟨v, e1, i1⟩ := s; exact ⟨v, e1, i1.mono le.b⟩
    | pool => rw [e] at s; exact s
    | scr ns => rw [e] at s; exact s
    | err ea dd fs => rw [e] at s; exact ⟨s.1, fun d h => le.b _ _ (s.2 d h)⟩
    | raw v => rw [e] at s; exact s
open Classical in
noncomputable def G.unlent (g g2 : G) : G := { g2 with B := fun a => if ∃ i, a ∈ g.F i then none else g2.B a, F := g.F }
open Classical in
theorem unlent_own (c : ∃ i, a ∈ g.F i) : (g.unlent g2).B a = none := by
  show (if ∃ i, a ∈ g.F i then none else g2.B a) = _
  rw [if_pos c]
open Classical in
theorem unlent_not (c : ¬ ∃ i, a ∈ g.F i) : (g.unlent g2).B a = g2.B a := by
  show (if ∃ i, a ∈ g.F i then none else g2.B a) = _
  rw [if_neg c]
theorem Rep.lentAt (R : Rep K g σ H env) (l2 : G.Le (g.lent H) g2) (c : ∃ i, a ∈ g.F i) : ∃ o, H a = some o ∧ g2.B a = some o := by
  obtain ⟨i, m⟩ := c
  obtain ⟨v, o, b, _, _, q⟩ := R.ownC m
  obtain ⟨u, e⟩ := q.ex a m
  exact ⟨u, e, l2.b _ _ (by rw [lent_own ⟨i, m⟩]; exact e)⟩
theorem Rep.unlend (R : Rep K g σ H env) (l2 : G.Le (g.lent H) g2) (R2 : Rep K g2 σ H' (un env)) : G.Le g (g.unlent g2) ∧ Rep K (g.unlent g2) σ H' env ∧ (∀ a o, g2.B a = some o → Imm o → (g.unlent g2).B a = some o) ∧ (∀ a fs, g2.B a = some (.xd fs) → (g.unlent g2).B a = some (.xd fs)) ∧ ∀ a, (∃ i, a ∈ g.F i) → H' a = H a := by
  have le := (G.lent_le R).trans l2
  have hcell : ∀ a, (∃ i, a ∈ g.F i) → H' a = H a := fun a c => by
    obtain ⟨o, h1, h2⟩ := R.lentAt l2 c
    rw [h1]; exact R2.ok.sb _ _ h2
  have le3 : G.Le g (g.unlent g2) := ⟨le.h0, le.m0, le.m, fun a o e => by
    by_cases c : ∃ i, a ∈ g.F i
    · obtain ⟨b, q⟩ := R.ownP c
      rw [q.nb] at e; cases e
    · rw [unlent_not c]; exact le.b _ _ e, le.p, le.b0, le.x⟩
  have b3 : ∀ {a o}, (g.unlent g2).B a = some o → g2.B a = some o := fun {a o} e => by
    by_cases c : ∃ i, a ∈ g.F i
    · rw [unlent_own c] at e; cases e
    · rw [unlent_not c] at e; exact e
  have n3 : ∀ {a}, g2.B a = none → (g.unlent g2).B a = none := fun {a} e => by
    by_cases c : ∃ i, a ∈ g.F i
    · exact unlent_own c
    · rw [unlent_not c]; exact e
  have keepI : ∀ a o, g2.B a = some o → Imm o → (g.unlent g2).B a = some o := fun a o e i => by
    by_cases c : ∃ i, a ∈ g.F i
    · obtain ⟨u, h1, h2⟩ := R.lentAt l2 c
      rw [e] at h2; cases h2; exact (R.ownI c h1 i).elim
    · rw [unlent_not c]; exact e
  refine ⟨le3, ⟨⟨fun a o e => R2.ok.sb a o (b3 e), fun a m => ⟨(R2.ok.pl a m).1, n3 (R2.ok.pl a m).2⟩, fun a o e i => keepI a o (R2.ok.im a o e i) i, R2.ok.fr, R2.ok.nw, fun a o e => ?_, R2.ok.m0, fun a o nx e e2 => n3 (R2.ok.bn a o nx e e2), R2.ok.xp⟩, R.ln, fun j => ?_, R.nf, R.di⟩, keepI, fun a fs e => ?_, hcell⟩
  · obtain ⟨h1, h2, h3⟩ := R2.ok.pv a o e
    exact ⟨h1, n3 h2, h3⟩
  · have s := R.sl j
    show Sl K (g.unlent g2) H' σ[j]? (g.F j) (nth env j)
    refine s.mono le3 fun b v o a => ⟨a.is_.mono le3.b fun p m => hcell p ⟨j, m⟩, a.nd, fun p m => ⟨unlent_own ⟨j, m⟩, fun mm => ?_, ?_, ?_⟩, fun u e => by rw [le3.x]; exact a.pin u e⟩
    · have := (R2.ok.pl p mm).2
      obtain ⟨u, _, h2⟩ := R.lentAt l2 ⟨j, m⟩
      rw [h2] at this; cases this
    · have := (a.pv p m).n0
      rcases this with q | q
      · exact .inl ((congrFun le3.h0 p).trans q)
      · exact .inr ⟨q.1, by rw [le3.xa]; exact q.2⟩
    · show g2.P p = none
      rw [le.p]; exact (a.pv p m).np
  · by_cases c : ∃ i, a ∈ g.F i
    · obtain ⟨i, m⟩ := c
      obtain ⟨v, o, b, _, _, q⟩ := R.ownC m
      obtain ⟨u, h1, h2⟩ := R.lentAt l2 ⟨i, m⟩
      rw [e] at h2; cases h2
      rcases q.is_.cell a m with ⟨_, h⟩ | ⟨_, h⟩ <;> rw [h1] at h <;> cases h
    · rw [unlent_not c]; exact e
end
theorem qt_loan {p} (h : QPT X e p) : QT X W e (dLoanT p) := PT.mono (h W) fun σ H Q ⟨g, env, Ed, Qd, R, ⟨b, ex, q⟩, kv, kx⟩ =>
  ⟨g.lent H, un env, fun _ => False, fun c => c = b, R.lend, ⟨b, ex, rfl⟩, fun c H1 g1 l1 R1 ec => by
    subst ec
    obtain ⟨l3, R3, _⟩ := R.unlend l1 R1
    exact kv c H1 _ l3 R3 q, fun _ _ _ _ _ _ _ _ z => z.elim⟩
/-! ## loops -/
theorem Rep.dropE {K : PySem.W.Frag} {g : G} {σ : L2.St} {H : Hp} {env : List Ev} (R : Rep K g σ H env) : ∀ js, ∃ g', G.Le g g' ∧ g'.B = g.B ∧ Rep K g' σ H (wipeE env js)
  | [] => ⟨g, .rfl, rfl, R⟩
  | j :: js =>
    let ⟨_, l, e, R'⟩ := R.dropE js
    ⟨_, l.trans G.setF_le, e, R'.drop j⟩
def dFor (it : DI) (b : DG) (js : List Nat) (body : DS) : DS := fun Dd env => it env (fun e => Dd.er e env) fun l => ∃ I : Nat → List Ev → Prop, I 0 (wipeE env js) ∧
  (∀ i x e, l[i]? = some x → I i e → onS (b x e) fun e2 => body { Dd with nx := fun e' => I (i + 1) (wipeE e' js), ct := fun e' => I (i + 1) (wipeE e' js), bk := Dd.nx } e2) ∧
  ∀ e, I l.length e → Dd.nx e
theorem qs_for {tg iter : Expr} {body : List Stmt} {it vs b db} (js : List Nat) (hp : PassesOwn (model X.prog X.w) X.A X.env X.xe) (hc : X.calm = true) (hi : QI X W tg iter it) (hg : QG X vs tg b) (hb : QSs X W body db)
    (hs : ∀ x, foldedSetIterable iter X.env x = pure x := by intro _; rfl) : QS X W (.For tg iter body [] pos) (dFor it b js db) := (ps_for hp hc hi hg hb hs).mono fun D σ H ⟨g, env, Dd, R, h, l⟩ => by
  refine ⟨g, env, _, _, R, h, fun J l0 H1 g1 l1 R1 rn ⟨I, I0, step, fin⟩ => ?_, l.kx⟩
  obtain ⟨zl, Gd, Y, w, hgd, hy⟩ := rn
  refine for_it w (fun i σ' H' => ∃ g' e, G.Le g1 g' ∧ Rep X.K g' σ' H' e ∧ I i e) (let ⟨g0, l0, _, R0⟩ := R1.dropE js; ⟨g0, _, l0, R0, I0⟩) (fun i σ' H' hi ⟨g', e, l2, R2, _⟩ => hgd g' _ _ H' l2.b R2) ?_ ?_
  · rintro i x σ2 H2 H3 hi ⟨g2, e, l2, R2, Ii⟩ y
    obtain ⟨g3, dx, el, l3, R3, ix⟩ := hy i H2 x H3 hi y g2 σ2 e l2.b R2
    obtain ⟨e2, eb, st⟩ := onS_some (step i dx e el Ii)
    have back : ∀ {σ' H' g' e'}, G.Le g3 g' → Rep X.K g' σ' H' e' → I (i + 1) (wipeE e' js) → ∃ g' e, G.Le g1 g' ∧ Rep X.K g' σ' H' e ∧ I (i + 1) e := fun {σ' H' g' e'} l4 R4 q => let ⟨g5, l5, _, R5⟩ := R4.dropE js; ⟨g5, _, l2.trans (l3.trans (l4.trans l5)), R5, q⟩
    refine ⟨g3, e, dx, e2, R3, ix, eb, fun σ' g4 l4 R4 o => ⟨g4, e2, _, R4, st, ?_⟩⟩
    have l' := l.mono (l1.trans (l2.trans (l3.trans l4)))
    exact ⟨fun σ' H' g' e' l5 R4 q => back (l4.trans l5) R4 q, fun σ' H' g' e' l4 R4 q => l'.nx _ _ _ _ l4 R4 q, fun σ' H' g' e' l5 R4 q => back (l4.trans l5) R4 q, l'.rt, l'.er⟩
  · rintro σ2 H2 ⟨g2, e, l2, R2, Ii⟩
    exact l.nx _ _ _ _ (l1.trans l2) R2 (fin e Ii)
end
end LR
set_option Elab.async false
set_option maxRecDepth 100000
set_option linter.all false
set_option maxHeartbeats 4000000
namespace LR
open PySem PySem.Spec PyProof.Rows L2
/-! # the data layer: calls and defs -/
abbrev Fs := List Ar → (Er → Prop) → (Ar → Prop) → Prop
def IsRs (K : PySem.W.Frag) (g : G) (H : Hp) (v : V) : Ar → Prop
  | .d x => Is K g.B v x
  | .pool => ∃ p, v = .ref p ∧ g.M p
  | .fr l => ∃ fs, OwnAt K g H none v l fs
  | .scr _ => False
structure Enter (g : G) (H : Hp) : Prop where
  h0 : g.H0 = H
  m0 : g.M0 = g.M
  b0 : g.B0 = g.B
  p : g.P = fun _ => none
  x : g.X = fun _ => none
  f : g.F = fun _ => []
  ok : WOk g H
def spF (K : PySem.W.Frag) (f : Fs) : Sp := fun vs H Q E => ∃ g as Ed Qd, Enter g H ∧ IsAs K g vs as ∧ f as Ed Qd ∧
  (∀ v r H' g', G.Le g g' → WOk g' H' → IsRs K g' H' v r → Qd r → Q v H') ∧
  (∀ e cls dd H' g', G.Le g g' → WOk g' H' → IsEr g'.B cls dd e → Ed e → E cls dd H')
def enter (g : G) (H : Hp) : G := { H0 := H, M0 := g.M, M := g.M, B := g.B, P := fun _ => none, B0 := g.B, X := fun _ => none, F := fun _ => [] }
section
variable {K : PySem.W.Frag} {g : G} {σ : L2.St} {H H' : Hp} {env : List Ev} {vs : List V} {as : List Ar}
theorem no_xa {g : G} (h : g.X = fun _ => none) {a : Addr} : ¬ g.XA a := fun ⟨i, e⟩ => by rw [h] at e; cases e
theorem WOk.enter (w : WOk g H) : Enter (LR.enter g H) H :=
  ⟨rfl, rfl, rfl, rfl, rfl, rfl, ⟨w.sb, w.pl, w.im, fun _ _ _ _ h => h, fun _ m => .inl m, (fun a o e => nomatch (show (none : Option HO) = some o from e)), fun _ m => m, fun _ _ _ _ e => e, fun _ h => (no_xa rfl h).elim⟩⟩
theorem IsAs.enter (w : WOk g H) : ∀ {vs as}, IsAs K g vs as → IsAs K (LR.enter g H) vs as
  | _, _, .nil => .nil
  | _, _, .d h t => .d h (t.enter w)
  | _, _, .pool h t => .pool h (t.enter w)
  | _, _, .scr h t => .scr (by
      rcases h with h | ⟨o, h1, h2, h3⟩
      · exact .inl h
      · refine .inr ⟨o, w.fr _ _ (fun m => h3 (.inl m)) (fun m => h3 (.inr m)) h1, h2, fun m => ?_⟩
        rcases m with m | m
        · rcases w.nw _ m with q | q
          · exact h3 (.inl q)
          · rw [h1] at q; cases q
        · exact no_xa rfl m) (t.enter w)
/-- behind a call -/
def leave (g g' : G) : G := { g with B := g'.B, M := g'.M }
theorem leave_le {g' : G} (le : G.Le (enter g H) g') : G.Le g (leave g g') := ⟨rfl, rfl, le.m, le.b, rfl, rfl, rfl⟩
theorem Rep.leave (R : Rep K g σ H env) {g' : G} (le : G.Le (LR.enter g H) g') (w : WOk g' H') : Rep K (LR.leave g g') σ H' env := by
  have w0 := R.ok
  have notM : ∀ {a o}, H a = some o → ¬ g.M a → ¬ g'.M a := fun {a o} e n m => by
    rcases w.nw a m with q | q
    · rw [le.m0] at q; exact n q
    · rw [le.h0] at q
      have q : H a = none := q
      rw [e] at q; cases q
  have nx : ∀ {a}, ¬ g'.XA a := fun {a} h => by rw [le.xa] at h; exact no_xa rfl h
  have kp : ∀ {a o}, H a = some o → ¬ g.M a → H' a = some o := fun {a o} e n => w.fr a o (by rw [le.m0]; exact n) nx (by rw [le.h0]; exact e)
  have bn : ∀ {a o}, H a = some o → g.B a = none → g'.B a = none := fun {a o} e n => w.bn a o nx (by rw [le.h0]; exact e) (by rw [le.b0]; exact n)
  have l1 := leave_le le
  refine R.move ⟨w.sb, w.pl, w.im, fun a o n n2 e => ?_, fun a m => ?_, fun a o e => ?_, fun a m => le.m _ (w0.m0 a m), fun a o nx e e2 => ?_, fun a x => ?_⟩ l1 rfl fun i a m => ?_
  · refine kp (w0.fr a o n n2 e) fun m => ?_
    rcases w0.nw a m with q | q
    · exact n q
    · have e : g.H0 a = some o := e
      rw [e] at q; cases q
  · rcases w.nw a m with q | q
    · rw [le.m0] at q; exact w0.nw a q
    · rw [le.h0] at q; exact .inr (w0.entry_none q)
  · obtain ⟨h1, h2, h3⟩ := w0.pv a o e
    exact ⟨kp h1 h3, bn h1 h2, notM h1 h3⟩
  · have q := w0.bn a o nx e e2
    rcases Classical.em (g.M a) with m | m
    · exact (w.pl a (le.m _ m)).2
    · by_cases c : g.M0 a
      · exact absurd (w0.m0 a c) m
      · exact bn (w0.fr a o c nx e) q
  · obtain ⟨⟨o, h1⟩, h2⟩ := w0.xp a x
    refine ⟨?_, h2⟩
    by_cases m : g.M a
    · obtain ⟨⟨_, _, _, _, h⟩, _⟩ := w.pl a (le.m _ m); exact ⟨_, h⟩
    · exact ⟨o, kp h1 m⟩
  · obtain ⟨v, o, b, _, _, q⟩ := R.ownC m
    obtain ⟨u, hu⟩ := q.ex a m
    have p := q.pv a m
    exact ⟨fun b' z => ⟨bn hu p.nb, notM hu p.nm, z.n0, z.np⟩, by rw [hu]; exact kp hu p.nm⟩
theorem IsRs.leave (R : Rep K g σ H env) {g' : G} (le : G.Le (LR.enter g H) g') {v r} (i : IsRs K g' H' v r) : IsR K (LR.leave g g') H' v r := by
  cases r with
  | d x => exact i
  | pool => exact i
  | scr ns => exact i.elim
  | fr l =>
    obtain ⟨fs, o⟩ := i
    have n0 : ∀ p ∈ fs, H p = none := fun p m => by
      rcases (o.pv p m).n0 with q | q
      · rw [le.h0] at q; exact q
      · cases q.1
    refine ⟨fs, ⟨o.is_, o.nd, fun p m => ⟨(o.pv p m).nb, (o.pv p m).nm, .inl (R.ok.entry_none (n0 p m)), ?_⟩, fun _ e => by cases e⟩, fun j p m h => ?_⟩
    · show g.P p = none
      cases e : g.P p with
      | none => rfl
      | some u =>
        have := (R.ok.pv p u e).1
        rw [n0 p m] at this; cases this
    · obtain ⟨v', o', b, _, _, q⟩ := R.ownC h
      obtain ⟨u, hu⟩ := q.ex p h
      rw [n0 p m] at hu; cases hu
end
def dCall (f : Fs) (da : DA) : DE := fun env Ed Q => da env Ed fun as => f as Ed Q
section
variable {X : Cx} {W : WX} {k j : Nat} {C : Addr} {x m : Str} {f : Fs} {p pos apos : Pos} {e o : Expr} {es : List Expr}
theorem spF_run {K : PySem.W.Frag} {g : G} {σ : L2.St} {H : Hp} {env : List Ev} {vs as} {Ed Qd} {Q : VK} (R : Rep K g σ H env) (i : IsAs K g vs as) (h : f as Ed Qd) (kv : KV K g σ env Qd Q) (kx : KX K W g σ env Ed) : spF K f vs H Q (WE W σ) := by
  refine ⟨enter g H, as, Ed, Qd, R.ok.enter, i.enter R.ok, h, fun v r H' g' le w ir q => ?_, fun e cls dd H' g' le w ir q => ?_⟩
  · exact kv v r H' _ (leave_le le) (R.leave le w) (ir.leave R le) q
  · exact kx e cls dd H' _ (leave_le le) (R.leave le w) ir q
theorem lift_call {K : PySem.W.Frag} {da : DA} {σ : L2.St} {H : Hp} {Q : VK} (h : lift K W (dCall f da) σ H Q) : tCallT (spF K f) W (liftA K W da) σ H Q := by
  obtain ⟨g, env, Ed, Qd, R, h, kv, kx⟩ := h
  exact ⟨g, env, Ed, _, R, h, fun vs as H1 g1 l1 R1 i1 q => spF_run R1 i1 q (kv.mono l1) (kx.mono l1), kx⟩
theorem qe_cT {da} (c : CalX X.prog X.w X.K X.mg X.base k x (spF X.K f)) (hr : Room j X.A) (hk : k ≤ j) (tk : Takes X W) (hg : Gl X x) (ha : QA X W (e :: es) da)
    (hdb : (x == ("__debug__" : Str)) = false := by decide) (he : starEach (e :: es) X.env = (false, eval e X.env) :: starEach es X.env := by rfl) (hpl : (backTo pos (starEach es X.env)).any (·.1) = false := by rfl) :
    QE X W (.Call (.Name x p) (e :: es) [] pos) (dCall f da) := (pe_cT c hr hk tk hg ha hdb he hpl).mono fun _ _ _ h => lift_call h
/-- an instance of the class at C is made -/
theorem qe_mkT {da} (c : MakX X.prog X.w X.K X.mg X.base k x C sp) (hr : Room j X.A) (hk : k + 1 ≤ j) (tk : Takes X W) (hg : Gl X x) (ha : QA X W (e :: es) da)
    (hsp : ∀ {vs H Q E}, spF X.K f vs H Q E → ∀ y dx, H y = none → H dx = none → dx ≠ y → sp (.ref y :: vs) (upd (upd H dx (.own y)) y (.ins C dx [])) (fun v H2 => v = .non ∧ Q (.ref y) H2) E)
    (hdb : (x == ("__debug__" : Str)) = false := by decide) (he : starEach (e :: es) X.env = (false, eval e X.env) :: starEach es X.env := by rfl) (hpl : (backTo pos (starEach es X.env)).any (·.1) = false := by rfl) :
    QE X W (.Call (.Name x p) (e :: es) [] pos) (dCall f da) := (pe_mkT c hr hk tk hg ha hdb he hpl).mono fun σ H Q ⟨g, env, Ed, Qd, R, h, kv, kx⟩ =>
  ⟨g, env, Ed, _, R, h, fun vs as H1 g1 l1 R1 i1 q y dx h1 h2 h3 => hsp (spF_run R1 i1 q (kv.mono l1) (kx.mono l1)) y dx h1 h2 h3, kx⟩
end
/-! ## a def keeps its promise -/
def arE : Ar → Ev
  | .d x => .d x
  | .pool => .pool
  | .scr ns => .scr ns
  | .fr _ => .any
def envOf : List Ar → Nat → List Ev
  | _, 0 => []
  | [], n + 1 => .any :: envOf [] n
  | a :: r, n + 1 => arE a :: envOf r n
def rtF (Qd : Ar → Prop) : Ar → Prop
  | .scr _ => False
  | .d x => Qd (.d x)
  | .pool => Qd .pool
  | .fr l => Qd (.fr l)
def Dn.ofF (Ed : Er → Prop) (Qd : Ar → Prop) : Dn := { nx := fun _ => Qd (.d .non), rt := fun _ => rtF Qd, er := fun e _ => Ed e }
section
variable {P : Program} {w : World} {K : PySem.W.Frag} {mg : Str → Option Value} {base : Heap}
theorem envOf_len : ∀ (as : List Ar) (n : Nat), (envOf as n).length = n
  | _, 0 => by cases ‹List Ar› <;> rfl
  | [], n + 1 => congrArg (· + 1) (envOf_len [] n)
  | _ :: r, n + 1 => congrArg (· + 1) (envOf_len r n)
theorem envOf_nil : ∀ (n i : Nat), nth (envOf [] n) i = .any
  | 0, _ => rfl
  | n + 1, 0 => rfl
  | n + 1, i + 1 => envOf_nil n i
theorem IsAs.slots {g : G} {H : Hp} {fs : List Addr} : ∀ {vs as} (_ : IsAs K g vs as) (n i : Nat), vs.length ≤ n → Sl K g H ((vs.map some ++ List.replicate (n - vs.length) none)[i]?) fs (nth (envOf as n) i)
  | _, _, .nil, n, i, _ => by rw [envOf_nil]; trivial
  | _, _, .d h t, 0, i, hn => absurd hn (Nat.not_succ_le_zero _)
  | _, _, .pool h t, 0, i, hn => absurd hn (Nat.not_succ_le_zero _)
  | _, _, .scr h t, 0, i, hn => absurd hn (Nat.not_succ_le_zero _)
  | _, _, .d h t, n + 1, 0, _ => ⟨_, rfl, h⟩
  | _, _, .pool h t, n + 1, 0, _ => ⟨_, rfl, h⟩
  | _, _, .scr h t, n + 1, 0, _ => ⟨_, rfl, h⟩
  | _, _, .d h t, n + 1, i + 1, hn => by have := t.slots (H := H) (fs := fs) n i (Nat.le_of_succ_le_succ hn); simpa [envOf, nth] using this
  | _, _, .pool h t, n + 1, i + 1, hn => by have := t.slots (H := H) (fs := fs) n i (Nat.le_of_succ_le_succ hn); simpa [envOf, nth] using this
  | _, _, .scr h t, n + 1, i + 1, hn => by have := t.slots (H := H) (fs := fs) n i (Nat.le_of_succ_le_succ hn); simpa [envOf, nth] using this
theorem IsAs.length {g : G} : ∀ {vs as}, IsAs K g vs as → vs.length = as.length
  | _, _, .nil => rfl
  | _, _, .d _ t => congrArg (· + 1) t.length
  | _, _, .pool _ t => congrArg (· + 1) t.length
  | _, _, .scr _ t => congrArg (· + 1) t.length
theorem rep_start {g : G} {H : Hp} {vs as} {N : List Str} (en : Enter g H) (i : IsAs K g vs as) (hn : vs.length ≤ N.length) : Rep K g (L2.start N vs) H (envOf as N.length) := by
  refine ⟨en.ok, ?_, fun j => i.slots N.length j hn, fun j _ => by rw [en.f], fun a b p _ ha => ?_⟩
  · unfold L2.start
    rw [envOf_len, List.length_append, List.length_map, List.length_replicate]; omega
  · rw [en.f] at ha; cases ha
/-- the def's body by its data: every argument list of the promise leads to its end -/
theorem body_dl {X : Cx} {W : WX} {E : XK} {ds : DS} {f : Fs} {N : List Str} {vs : List V} {H : Hp} {Q : VK} (hW : ∀ cls dd σ H, E cls dd H → W cls dd σ H)
    (hd : ∀ as Ed Qd, f as Ed Qd → as.length ≤ N.length ∧ ds (Dn.ofF Ed Qd) (envOf as N.length)) (h : spF X.K f vs H Q E) : liftS X.K W ds { nx := fun _ H' => Q .non H', rt := Q } (L2.start N vs) H := by
  obtain ⟨g, as, Ed, Qd, en, ia, hf, kv, kx⟩ := h
  obtain ⟨hl, hds⟩ := hd as Ed Qd hf
  refine ⟨g, _, Dn.ofF Ed Qd, rep_start en ia (by rw [ia.length]; exact hl), hds, ⟨fun σ' H' g' env' le R q => kv .non (.d .non) H' g' le R.ok .non q, fun _ _ _ _ _ _ z => z.elim, fun _ _ _ _ _ _ z => z.elim, fun v r σ' H' g' env' le R ir q => ?_, fun e cls dd σ' H' g' env' le R ir q => hW _ _ _ _ (kx e cls dd H' g' le R.ok ir q)⟩⟩
  cases r with
  | d x => exact kv v (.d x) H' g' le R.ok ir q
  | pool => exact kv v .pool H' g' le R.ok ir q
  | scr ns => exact (show False from q).elim
  | fr l => obtain ⟨fs, o, _⟩ := ir; exact kv v (.fr l) H' g' le R.ok ⟨fs, o⟩ q
theorem spF_len {f : Fs} {n : Nat} (hl : ∀ as Ed Qd, f as Ed Qd → as.length = n) : ∀ vs H Q E, spF K f vs H Q E → vs.length = n := fun vs H Q E ⟨g, as, Ed, Qd, _, ia, hf, _⟩ => by
  rw [ia.length]; exact hl _ _ _ hf
theorem DefIn.dl {x : Str} {st : Stmt} {N ps : List Str} {k : Nat} {f : Fs} (D : DefIn K mg x st ps) (S : FnScope N ps (defScope st)) (hl : ∀ as Ed Qd, f as Ed Qd → as.length = ps.length) (hN : ps.length ≤ N.length)
    (hbody : ∀ (fa : Addr) (cdv : Value) (A : Around) (outer : List Env) (s : Shared) (H : Hp) (E : XK), Room k (A.deeper (envOfC x (defScope st) s.heap.objs.size fa cdv)) →
      ∃ ds, QSs (cxOf (L2.CX P w) P w K mg base N x (defScope st) fa cdv A outer s H E) (fun cls d _ H => E cls d H) (defBody st) ds ∧ ∀ as Ed Qd, f as Ed Qd → ds (Dn.ofF Ed Qd) (envOf as N.length)) : CalX P w K mg base (k + 1) x (spF K f) := by
  refine D.calX S (spF_len hl) fun fa cdv A outer s H vs Q E hr h => ?_
  obtain ⟨ds, hq, hd⟩ := hbody fa cdv A outer s H E hr
  exact ⟨_, hq, body_dl (X := cxOf (L2.CX P w) P w K mg base N x (defScope st) fa cdv A outer s H E) (fun _ _ _ _ h => h) (fun as Ed Qd hf => ⟨by rw [hl as Ed Qd hf]; exact hN, hd as Ed Qd hf⟩) h⟩
end
end LR
set_option Elab.async false
set_option maxRecDepth 100000
set_option linter.all false
set_option maxHeartbeats 4000000
namespace LR
open PySem PySem.Spec PyProof.Rows L2
/-! # the data layer: raise and try -/
section
variable {X : Cx} {W : WX} {pos : Pos}
/-! ## raise -/
theorem IsEr.new {K : PySem.W.Frag} {g : G} {σ : L2.St} {H : Hp} {env : List Ev} {C : Addr} {fs : List (Str × V)} {d : Addr} (R : Rep K g σ H env) (hd : H d = none) : Rep K (g.new d (.xd fs)) σ (upd H d (.xd fs)) env ∧ IsEr (g.new d (.xd fs)).B (.ref C) (some d) ⟨C, some fs⟩ :=
  ⟨R.new hd, rfl, d, rfl, by show upd g.B d _ d = _; exact upd_same⟩
/-! ## try -/
abbrev ClD := Value × Option Nat × (Addr → Value → Option Addr → DS)
def emptiedD (i : Nat) (Dd : Dn) : Dn := { nx := fun e => Dd.nx (sth e i .any), rt := Dd.rt, bk := fun e => Dd.bk (sth e i .any), ct := fun e => Dd.ct (sth e i .any) }
def plainD (Dd : Dn) : Dn := { nx := Dd.nx, rt := Dd.rt, bk := Dd.bk, ct := Dd.ct }
def clD (K : PySem.W.Frag) (Dd : Dn) : List ClD → Er → List Ev → Prop
  | [], er, env => Dd.er er env
  | (c, none, ds) :: r, er, env => ∃ b, PySem.W.exmOne K (.ref er.C) c = some b ∧ (b = true → ∀ a dd, ds a (.ref er.C) dd (plainD Dd) env) ∧ (b = false → clD K Dd r er env)
  | (c, some i, ds) :: r, er, env => ∃ b, PySem.W.exmOne K (.ref er.C) c = some b ∧ (b = true → ∀ a dd, (∀ fs, er.fs = some fs → ∃ d, dd = some d) → (er.fs = none → dd = none) → ds a (.ref er.C) dd (emptiedD i Dd) (sth env i (.err a dd (er.fs.getD [])))) ∧ (b = false → clD K Dd r er env)
def dTry (K : PySem.W.Frag) (body : DS) (cl : List ClD) : DS := fun Dd env => body { Dd with er := fun er e => clD K Dd cl er e } env
def clT (K : PySem.W.Frag) (cl : List ClD) : List Clause := cl.map fun c => (c.1, c.2.1, fun a cls d => liftS K WF (c.2.2 a cls d))
theorem lk_suite {K : PySem.W.Frag} {g : G} {D : Ends} {Dd : Dn} (l : Lk K W g D Dd) : Lk K WF g D (plainD Dd) := ⟨l.nx, l.bk, l.ct, l.rt, fun _ _ _ _ _ _ _ _ _ _ z => False.elim z⟩
theorem Rep.setAny {K : PySem.W.Frag} {g : G} {σ : L2.St} {H : Hp} {env : List Ev} (R : Rep K g σ H env) (i : Nat) : Rep K (g.setF i []) (σ.set i none) H (sth env i .any) := R.setN i
theorem lk_emptied {K : PySem.W.Frag} {g : G} {D : Ends} {Dd : Dn} {i : Nat} (l : Lk K W g D Dd) : Lk K WF g (emptied i D) (emptiedD i Dd) :=
  ⟨fun σ' H' g' env' le R q => l.nx _ _ _ _ (le.trans G.setF_le) (R.setAny i) q, fun σ' H' g' env' le R q => l.bk _ _ _ _ (le.trans G.setF_le) (R.setAny i) q, fun σ' H' g' env' le R q => l.ct _ _ _ _ (le.trans G.setF_le) (R.setAny i) q, l.rt, fun _ _ _ _ _ _ _ _ _ _ z => False.elim z⟩
theorem wCl_of {K : PySem.W.Frag} {g : G} {D : Ends} {Dd : Dn} {σ : L2.St} {H : Hp} {env : List Ev} {er : Er} {cls : Value} {dd : Option Addr} (l : Lk K W g D Dd) (R : Rep K g σ H env) (ir : IsEr g.B cls dd er) : ∀ {cl : List ClD}, clD K Dd cl er env → wCl K W D (clT K cl) cls dd σ H
  | [], h => l.er _ _ _ _ _ _ _ .rfl R ir h
  | (c, none, ds) :: r, ⟨b, e, h1, h2⟩ => by
    refine ⟨b, by rw [ir.1]; exact e, fun hb a ha => ?_, fun hb => wCl_of l R ir (h2 hb)⟩
    exact ⟨g, env, _, R, by rw [ir.1]; exact h1 hb a dd, lk_suite l⟩
  | (c, some i, ds) :: r, ⟨b, e, h1, h2⟩ => by
    refine ⟨b, by rw [ir.1]; exact e, fun hb a ha => ?_, fun hb => wCl_of l R ir (h2 hb)⟩
    have h := ir.2
    have hA : ∀ fs, er.fs = some fs → ∃ d, dd = some d := fun fs hf => by
      rw [hf] at h; obtain ⟨d', e1, e2⟩ := h; exact ⟨d', e1⟩
    have hB : er.fs = none → dd = none := fun hf => by
      rw [hf] at h; exact h
    have sl : Sl K g H (some (some (.ref a))) [] (.err a dd (er.fs.getD [])) := ⟨rfl, fun d hd => by
      cases e : er.fs with
      | none => rw [e] at h; rw [hd] at h; cases h
      | some fs => rw [e] at h; obtain ⟨d', e1, e2⟩ := h; rw [hd] at e1; cases e1; exact e2⟩
    obtain ⟨g', l', eB, R'⟩ := R.setD (i := i) (v := .ref a) (e := .err a dd (er.fs.getD [])) sl rfl
    exact ⟨g', _, _, R', by rw [ir.1]; exact h1 hb a dd hA hB, lk_emptied (l.mono l')⟩
theorem qs_try {body : List Stmt} {h₀ : ExceptHandler} {hds : List ExceptHandler} {cl : List ClD} {db : DS} (hs : X.stack = X.env :: X.outer) (hf : X.env.frame = some X.env.locals) (hN : X.N.Nodup) (tk : Takes X W)
    (hb : ∀ (W' : WX) (pn : List (Addr × Obj)) (xe : Value → Shared → Prop), Takes (X.tr pn xe) W' → PassesOwn (model X.prog X.w) X.A X.env xe → QSs (X.tr pn xe) W' body db)
    (hh : ClOk X (h₀ :: hds) (clT X.K cl)) : QS X W (.Try body (h₀ :: hds) [] [] pos) (dTry X.K db cl) :=
  (ps_try_any (tb := fun W' => liftS X.K W' db) hs hf hN tk hb hh).mono fun D σ H ⟨g, env, Dd, R, h, l⟩ =>
    ⟨g, env, _, R, h, ⟨l.nx, l.bk, l.ct, l.rt, fun e cls dd σ' H' g' env' le R' ir q => wCl_of (l.mono le) R' ir q⟩⟩
end
/-! ## in a suite: the error's field, isinstance -/
def toD : V → D
  | .int i => .int i
  | .str s => .str s
  | .bl b => .bl b
  | _ => .non
def dXf (a : Addr) (cls : Value) (dd : Option Addr) (C : Addr) (f : Str) (i : Nat) : DE := fun env _ Q => cls = .ref C ∧ ∃ fs, nth env i = .err a dd fs ∧ (∃ d, dd = some d) ∧
  ((∃ n, fs.lookup f = some (.int n) ∧ Q (.d (.int n))) ∨ ∃ s, fs.lookup f = some (.str s) ∧ Q (.d (.str s)))
section
variable {X : Cx} {W : WX} {pos : Pos}
theorem qe_xf {a C : Addr} {oe : Obj} {cls : Value} {d : Option Addr} {pn : List (Addr × Obj)} {e : Expr} {i : Nat} {n : Str} (T : XfC X.K C) (hno : PySem.W.findIn X.K (.ref C) n = some none)
    (hz : Zc cls d oe) (hf : ∃ vs, oe.data = .fields vs) (he : PE (X.suite a ((a, oe) :: pn)) e (tVar i)) (hb : attributeBase e n X.env (eval e X.env) = eval e X.env := by rfl) :
    QE (X.suite a ((a, oe) :: pn)) W (.Attribute e n pos) (dXf a cls d C n i) := (pe_xf T hno hz hf he hb).mono fun σ H Q ⟨g, env, Ed, Qd, R, ⟨ec, fs, en, ⟨dd, ed⟩, q⟩, kv, kx⟩ => by
  have s := R.sl i
  rw [en] at s
  obtain ⟨s1, s2⟩ := s
  have hx := R.ok.sb _ _ (s2 dd ed)
  rcases q with ⟨m, el, q⟩ | ⟨m, el, q⟩
  · exact ⟨_, s1, rfl, ec, dd, fs, _, ed, hx, el, kv _ (.d (.int m)) H g .rfl R (.int m) q⟩
  · exact ⟨_, s1, rfl, ec, dd, fs, _, ed, hx, el, kv _ (.d (.str m)) H g .rfl R (.str m) q⟩
def dIsX (K : PySem.W.Frag) (a : Addr) (cls : Value) (dd : Option Addr) (i : Nat) (cv : Value) : DE := fun env _ Q => ∃ C fs b, cls = .ref C ∧ ErrC K C ∧ nth env i = .err a dd fs ∧ PySem.W.kitOne K (.ref C) cv = some b ∧ Q (.d (.bl b))
theorem dictKnown {B H : Hp} {dd : Option Addr} {fs} (s : Same B H) (h : ∀ d, dd = some d → B d = some (.xd fs)) : DictKnown H dd := by
  cases dd with
  | none => trivial
  | some d => exact ⟨fs, s _ _ (h d rfl)⟩
theorem qe_isX {a : Addr} {oe : Obj} {cls : Value} {d : Option Addr} {pn : List (Addr × Obj)} {e e2 : Expr} {i : Nat} {p : Pos} {c : V} {cv : Value} (O : ObjC X.K) (hz : Zc cls d oe) (hf : ∃ vs, oe.data = .fields vs) (hc : ClsV c cv)
    (hp : PE (X.suite a ((a, oe) :: pn)) e (tCB (rIsX X.K cls a d) (tCons (tVar i) (tCons (tC c) tNil)))) : QE (X.suite a ((a, oe) :: pn)) W e (dIsX X.K a cls d i cv) := hp.mono fun σ H Q ⟨g, env, Ed, Qd, R, ⟨C, fs, b, ec, ee, en, ek, q⟩, kv, kx⟩ => by
  have s := R.sl i
  rw [en] at s
  obtain ⟨s1, s2⟩ := s
  exact ⟨_, s1, C, ec, ee, dictKnown R.ok.sb s2, .inl ⟨c, cv, b, rfl, hc, ek, kv _ (.d (.bl b)) H g .rfl R (.bl b) q⟩⟩
end
end LR
set_option Elab.async false
set_option maxRecDepth 100000
set_option linter.all false
set_option maxHeartbeats 4000000
namespace LR
open PySem PySem.Spec PyProof.Rows L2
/-! # the data layer: the rules as the texts use them -/
section
variable {X : Cx} {W : WX} {st : Stmt} {pos : Pos} {e : Expr} {i : Nat}
theorem qs_setN {x : Str} {d : DE} {pos' : Pos} (w : Bool) (hN : X.N.Nodup) (hi : X.N[i]? = some x) (hx : Loc X.env.scope x) (he : QE X W e d) (hs : swapsWith e (some (.Name x pos')) pos.line X.env = pure false := by rfl) (hf : X.fn x = true ∨ X.env.scope.names.lookup x = some .local := by first | exact .inl rfl | exact .inr rfl | assumption) :
    QS X W (.Assign [.Name x pos'] e pos) (dSet w i d) := (ps_set hN hi hx he hs hf).mono fun _ _ _ h => lift_set h
theorem lift_setT {K : PySem.W.Frag} {W : WX} {w : Bool} {d : DE} {t : TE} {D : Ends} {σ : L2.St} {H : Hp} (m : ∀ {σ H Q}, lift K W d σ H Q → t σ H Q) (h : liftS K W (dSet w i d) D σ H) : tAsg t (gName i) D σ H := m (lift_set h)
theorem qs_setLc {elt tg iter : Expr} {ifs : List Expr} {scope : Scope} {own : List (Str × Nat)} {spos py : Pos} {y : Str} {it : DI} {b : DG} {dt : DT} {de : DE} (w : Bool) (hc : X.calm = true) (hN : X.N.Nodup) (hy : X.N[i]? = some y) (hyl : X.env.scope.names.lookup y = some .local)
    (hsw : swapsWith (.ListComp elt [⟨tg, iter, ifs, 0⟩] scope pos) (some (.Name y py)) spos.line X.env = pure true) (hi : QI X W tg iter it) (ok : BlkOk X.N X.env.scope scope own)
    (hg : ∀ (s : Shared) (H : Hp) (C : Addr) (cl : List (Str × Addr)) (fp : List Addr), QG (X.blk s H scope (compEnvC scope cl C X.env) fp) (own.map Prod.snd) tg b)
    (ht : ∀ (s : Shared) (H : Hp) (C : Addr) (cl : List (Str × Addr)) (fp : List Addr), QTs (X.blk s H scope (compEnvC scope cl C X.env) fp) WF ifs dt)
    (he : ∀ (s : Shared) (H : Hp) (C : Addr) (cl : List (Str × Addr)) (fp : List Addr), QE (X.blk s H scope (compEnvC scope cl C X.env) fp) WF elt de) (hs : ∀ x, foldedSetIterable iter X.env x = pure x := by intro _; rfl) :
    QS X W (.Assign [.Name y py] (.ListComp elt [⟨tg, iter, ifs, 0⟩] scope pos) spos) (dSet w i (dLc (own.map Prod.snd) it b dt de)) :=
  (ps_setLc (g := liftG X.K (own.map Prod.snd) b) (tt := liftT X.K WF dt) (te := lift X.K WF de) hc hN hy hyl hsw hi ok hg ht he hs).mono fun _ _ _ h => lift_setT lift_lc h
theorem qs_setLcP {elt tg iter : Expr} {ifs : List Expr} {scope : Scope} {own : List (Str × Nat)} {spos py : Pos} {y : Str} {it : DIp} {b : DG} {pt pe : PF} (w : Bool) (hc : X.calm = true) (hN : X.N.Nodup) (hy : X.N[i]? = some y) (hyl : X.env.scope.names.lookup y = some .local)
    (hsw : swapsWith (.ListComp elt [⟨tg, iter, ifs, 0⟩] scope pos) (some (.Name y py)) spos.line X.env = pure true) (hi : QI X W tg iter it.di) (ok : BlkOk X.N X.env.scope scope own)
    (hg : ∀ (s : Shared) (H : Hp) (C : Addr) (cl : List (Str × Addr)) (fp : List Addr), QG (X.blk s H scope (compEnvC scope cl C X.env) fp) (own.map Prod.snd) tg b)
    (ht : ∀ (s : Shared) (H : Hp) (C : Addr) (cl : List (Str × Addr)) (fp : List Addr), QPTs (X.blk s H scope (compEnvC scope cl C X.env) fp) ifs pt)
    (he : ∀ (s : Shared) (H : Hp) (C : Addr) (cl : List (Str × Addr)) (fp : List Addr), QP (X.blk s H scope (compEnvC scope cl C X.env) fp) elt pe) (hs : ∀ x, foldedSetIterable iter X.env x = pure x := by intro _; rfl) :
    QS X W (.Assign [.Name y py] (.ListComp elt [⟨tg, iter, ifs, 0⟩] scope pos) spos) (dSet w i (dF (plc (own.map Prod.snd) it.p b pt pe))) :=
  PS.mono (qs_setLc w hc hN hy hyl hsw hi ok hg (fun s H C cl fp => ht s H C cl fp WF) (fun s H C cl fp => he s H C cl fp WF) hs) fun _ _ _ h => h.imp fun Dd env ⟨l, e, q⟩ => plc_dLc e q
end
end LR
set_option Elab.async false
set_option maxRecDepth 100000
set_option linter.all false
set_option maxHeartbeats 4000000
namespace LR
open PySem PySem.Spec PyProof.Rows L2
/-! # the data layer: what is often asked of data -/
abbrev nat (n : Nat) : D := .int (n : Int)
abbrev intT (l : List Int) : D := .tup (l.map .int)
abbrev edL (l : List (List Int)) : D := .lst (l.map intT)
abbrev edT (l : List (List Int)) : D := .tup (l.map intT)
/-! ## comprehensions -/
theorem pcol_map {α : Type} {f : D → Option (Option D)} {enc : α → D} {P : α → Bool} {F : α → D} : ∀ {l : List α}, (∀ x ∈ l, f (enc x) = some (if P x = true then some (F x) else none)) → pcol f (l.map enc) = some ((l.filter P).map F)
  | [], _ => rfl
  | x :: l, h => by
    have h1 := h x List.mem_cons_self
    have h2 := pcol_map (l := l) fun y hy => h y (List.mem_cons_of_mem _ hy)
    rw [List.map_cons, pcol, h1, h2]
    by_cases c : P x = true
    · rw [if_pos c, List.filter_cons_of_pos c]; rfl
    · rw [if_neg c, List.filter_cons_of_neg c]
theorem pcol_all {α : Type} {f : D → Option (Option D)} {enc : α → D} {F : α → D} {l : List α} (h : ∀ x ∈ l, f (enc x) = some (some (F x))) : pcol f (l.map enc) = some (l.map F) := by
  have := pcol_map (f := f) (enc := enc) (P := fun _ => true) (F := F) (l := l) fun x hx => by rw [h x hx]; rfl
  rwa [List.filter_eq_self.mpr (fun _ _ => rfl)] at this
theorem pturn_of {b : DG} {pt pe : PF} {env e2 : List Ev} {x y : D} {c : Bool} (h1 : b x env = some e2) (h2 : pt e2 = some (.bl c)) (h3 : c = true → pe e2 = some y) : pturn b pt pe env x = some (if c = true then some y else none) := by
  unfold pturn
  rw [h1]
  dsimp only
  rw [h2]
  cases c with
  | true => dsimp only; rw [h3 rfl]; rfl
  | false => rfl
theorem plc_of {vs : List Nat} {it : List Ev → Option (List D)} {b : DG} {pt pe : PF} {env : List Ev} {l r : List D} (h1 : ownFree env vs = true) (h2 : it env = some l) (h3 : pcol (pturn b pt pe (wipeE env vs)) l = some r) : plc vs it b pt pe env = some (.lst r) := by
  unfold plc
  rw [if_pos h1, h2]
  dsimp only
  rw [h3]
theorem pN1 {f : List D → Option D} {p : PF} {env : List Ev} {x z : D} (h : p env = some x) (h2 : f [x] = some z) : pN f [p] env = some z := by
  unfold pN evs
  rw [h]; exact h2
theorem pN2 {f : List D → Option D} {p q : PF} {env : List Ev} {x y z : D} (h : p env = some x) (h1 : q env = some y) (h2 : f [x, y] = some z) : pN f [p, q] env = some z := by
  unfold pN evs evs
  rw [h, h1]; exact h2
theorem p1_of {f : D → Option D} {p : PF} {env : List Ev} {x z : D} (h : p env = some x) (h2 : f x = some z) : p1 f p env = some z := by
  unfold p1
  rw [h]; exact h2
theorem p2_of {f : D → D → Option D} {p q : PF} {env : List Ev} {x y z : D} (h : p env = some x) (h1 : q env = some y) (h2 : f x y = some z) : p2 f p q env = some z := by
  unfold p2
  rw [h, h1]; exact h2
theorem pand_of {p q : PF} {env : List Ev} {a b : Bool} (h : p env = some (.bl a)) (h2 : a = true → q env = some (.bl b)) (h3 : a = false → b = false) : pand p q env = some (.bl b) := by
  unfold pand andD
  rw [h]
  cases a with
  | true => rw [h2 rfl]; simp
  | false =>
    have h3 := h3 rfl
    subst h3
    dsimp only
    split
    · rw [Bool.false_and]
    · rfl
theorem por_of {p q : PF} {env : List Ev} {a b : Bool} (h : p env = some (.bl a)) (h2 : a = false → q env = some (.bl b)) (h3 : a = true → b = true) : por p q env = some (.bl b) := by
  unfold por orD
  rw [h]
  cases a with
  | false => rw [h2 rfl]; simp
  | true =>
    have h3 := h3 rfl
    subst h3
    dsimp only
    split
    · rw [Bool.true_or]
    · rfl
theorem all_map {α : Type} {l : List α} {g : α → Bool} : allDD [.lst (l.map fun e => .bl (g e))] = some (.bl (l.all g)) := by
  show (bls _).map _ = _
  rw [show (fun e : α => D.bl (g e)) = D.bl ∘ g from rfl, ← List.map_map, bls_map]
  show some (D.bl ((l.map g).all id)) = _
  rw [List.all_map]; rfl
theorem any_map {α : Type} {l : List α} {g : α → Bool} : anyD [.lst (l.map fun e => .bl (g e))] = some (.bl (l.any g)) := by
  show (bls _).map _ = _
  rw [show (fun e : α => D.bl (g e)) = D.bl ∘ g from rfl, ← List.map_map, bls_map]
  show some (D.bl ((l.map g).any id)) = _
  rw [List.any_map]; rfl
/-! ## data that == tells apart as = does -/
theorem inL_nb {α : Type} {enc : α → D} {x : α} {l : List α} (n : Nat) (h1 : okn 30 (enc x) = true) (h2 : ∀ y ∈ l, okn 29 (enc y) = true) (h3 : nbn n (enc x) = true) (h4 : ∀ y ∈ l, nbn n (enc y) = true) (inj : ∀ y ∈ l, enc y = enc x → y = x) [DecidableEq α] : inL (enc x) (l.map enc) = some (.bl (decide (x ∈ l))) := by
  unfold inL
  rw [if_pos ⟨h1, by rw [List.all_map, List.all_eq_true]; exact h2⟩]
  congr 2
  rw [Bool.eq_iff_iff, List.any_eq_true, decide_eq_true_eq]
  constructor
  · rintro ⟨z, hz, e⟩
    obtain ⟨y, hy, rfl⟩ := List.mem_map.mp hz
    have := (deq_iff n _ _ (h4 y hy) h3).mp e
    rw [← inj y hy this]; exact hy
  · intro h
    exact ⟨enc x, List.mem_map.mpr ⟨x, h, rfl⟩, (deq_iff n _ _ h3 h3).mpr rfl⟩
/-! ## indices -/
theorem atI_of {α : Type} {xs : List α} {k : Nat} {x : α} (h : xs[k]? = some x) : atI xs (k : Int) = some x := by
  have hk := (List.getElem?_eq_some_iff.mp h).1
  unfold atI ixN
  rw [if_pos (by omega), if_pos (by omega)]
  show xs[(k : Int).toNat]? = some x
  rw [Int.toNat_natCast]; exact h
theorem rgD_nat (n : Nat) : rgD 0 ((n : Int).toNat) = (List.range n).map nat := by
  unfold rgD
  rw [Int.toNat_natCast]
  exact List.map_congr_left fun i _ => by show D.int _ = D.int _; rw [Int.zero_add]
end LR
set_option Elab.async false
set_option maxRecDepth 100000
set_option linter.all false
set_option maxHeartbeats 4000000
namespace LR
open PySem PySem.Spec PyProof.Rows L2
/-! # the data layer: more rules -/
section
variable {X : Cx} {W : WX} {pos : Pos} {e a b : Expr}
def negD : D → Option D
  | .int i => some (.int (-i))
  | _ => none
theorem qp_neg {p : PF} (h : QP X a p) : QP X (.UnaryOp .USub a pos) (p1 negD p) := fun W => (pe_un un_neg (h W)).mono fun σ H Q ⟨g, env, Ed, Qd, R, ⟨z, hz, q⟩, kv, kx⟩ => by
  obtain ⟨x, ex, ez⟩ := p1_some hz
  refine lift.useP R ex fun v H1 g1 l1 R1 i1 => ?_
  cases x with
  | int i => cases ez; exact ⟨i, i1.intE, kv _ (.d (.int (-i))) H1 g1 l1 R1 (.int _) q⟩
  | _ => cases ez
/-! ## fresh lists -/
def dListF (d : DE) : DE := fun env Ed Q => d env Ed (asD fun x => ∃ l, listD [x] = some (.lst l) ∧ Q (.fr (.ls l)))
theorem qe_listF {d : DE} {x : Str} {p : Pos} (hg : Gl X x) (hm : X.mg x = none) (hv : bootBuiltins x = some (.type "list")) (ha : QE X W e d) (hn : x ≠ "__name__" := by decide) (hdb : (x == ("__debug__" : Str)) = false := by decide)
    (he : starEach [e] X.env = (false, eval e X.env) :: starEach [] X.env := by rfl) (hpl : (backTo pos (starEach [] X.env)).any (·.1) = false := by rfl) : QE X W (.Call (.Name x p) [e] [] pos) (dListF d) :=
  (pe_callTy call_list_of hg hm hv (pa_cons ha pa_nil he) hn hdb he hpl).mono fun σ H Q ⟨g, env, Ed, Qd, R, h, kv, kx⟩ => by
  refine lift.useD R h (fun v y H1 g1 l1 R1 i1 ⟨l, el, q⟩ => ?_) kx
  have sb := R1.ok.sb
  have fin : ∀ {ys : List V}, Iss X.K g1.B ys l → ys.length ≤ 100000 → ∀ p, H1 p = none → Q (.ref p) (upd H1 p (.lst ys)) := fun {ys} i z p hp => by
    obtain ⟨R2, r2⟩ := upd_own R1 hp i z
    exact kv _ _ _ _ l1 R2 r2 q
  cases y with
  | lst m =>
    cases el
    obtain ⟨p, xs, rfl, hp, ip, zp⟩ := i1.lstE
    exact ⟨p, xs, rfl, .inl (SqL.of (sb _ _ hp)), fin ip zp⟩
  | tup m =>
    cases el
    obtain ⟨p, xs, rfl, hp, ip, zp⟩ := i1.tupE
    exact ⟨p, xs, rfl, .inr (SqT.of (sb _ _ hp)), fin ip zp⟩
  | _ => cases el
/-! ## what one owns lent to what gives none of it -/
def dLoanE (d : DE) : DE := fun env Ed Q => d (un env) Ed fun r => ∃ x, r = .d x ∧ imd x = true ∧ Q (.d x)
theorem kx_unlend {K : PySem.W.Frag} {W : WX} {g : G} {σ : L2.St} {H : Hp} {env : List Ev} {Ed : Er → Prop} (R : Rep K g σ H env) (kx : KX K W g σ env Ed) : KX K W (g.lent H) σ (un env) Ed := fun er cls dd H1 g1 l1 R1 ir q => by
  obtain ⟨l3, R3, _, hx, _⟩ := R.unlend l1 R1
  refine kx er cls dd H1 _ l3 R3 ⟨ir.1, ?_⟩ q
  have h := ir.2
  cases e : er.fs with
  | none => rw [e] at h; exact h
  | some fs => rw [e] at h; obtain ⟨d, e1, e2⟩ := h; exact ⟨d, e1, hx _ _ e2⟩
theorem qe_loanE {d : DE} (h : QE X W e d) : QE X W e (dLoanE d) := PE.mono h fun σ H Q ⟨g, env, Ed, Qd, R, h, kv, kx⟩ => by
  refine lift.use R.lend h (fun v r H1 g1 l1 R1 i1 ⟨x, er, sx, q⟩ => ?_) (kx_unlend R kx)
  subst er
  obtain ⟨l3, R3, im, _⟩ := R.unlend l1 R1
  exact kv v (.d x) H1 _ l3 R3 (Is.less im i1 sx) q
end
end LR
set_option Elab.async false
set_option maxRecDepth 100000
set_option linter.all false
set_option maxHeartbeats 4000000
namespace LR
open PySem PySem.Spec PyProof.Rows L2
/-! # the data layer: promises told by heaps, told by data -/
section
variable {P : Program} {w : World} {K : PySem.W.Frag} {mg : Str → Option Value} {base : Heap} {k : Nat} {x m : Str} {C : Addr} {sp : Sp}
theorem fn_x {f : Addr} {fd : FuncData} {ps : List Str} (F : FnOk P w K mg base CX0 k f fd ps sp) : FnOk P w K mg base (L2.CX P w) k f fd ps sp :=
  ⟨F.len, fun A outer s H args us vs Q E hr he hb hv hs => codeAny_mono (F.run A outer s H args us vs Q E hr he hb hv hs) fun r s' h => by
    cases r with
    | ok f => cases f <;> exact h
    | error e => exact (show False from h).elim⟩
theorem Cal.toX (c : Cal P w K mg base k x sp) : CalX P w K mg base k x sp := by
  obtain ⟨f, fd, ps, F, r⟩ := c.ex
  exact ⟨f, fd, ps, fn_x F, r⟩
theorem Met.toX (c : Met P w K mg base k C m sp) : MetX P w K mg base k C m sp := by
  obtain ⟨f, fd, ps, a, b, F, r⟩ := c.ex
  exact ⟨f, fd, ps, a, b, fn_x F, r⟩
theorem Mak.toX (c : Mak P w K mg base k x C sp) : MakX P w K mg base k x C sp := by
  obtain ⟨f, fd, ps, a, F, r⟩ := c.ex
  exact ⟨f, fd, ps, a, fn_x F, r⟩
theorem CalX.imp {sp' : Sp} (c : CalX P w K mg base k x sp) (h : ∀ vs H Q E, sp' vs H Q E → sp vs H Q E) : CalX P w K mg base k x sp' := by
  obtain ⟨f, fd, ps, F, r⟩ := c.ex
  exact ⟨f, fd, ps, F.imp h, r⟩
theorem MetX.imp {sp' : Sp} (c : MetX P w K mg base k C m sp) (h : ∀ vs H Q E, sp' vs H Q E → sp vs H Q E) : MetX P w K mg base k C m sp' := by
  obtain ⟨f, fd, ps, a, b, F, r⟩ := c.ex
  exact ⟨f, fd, ps, a, b, F.imp h, r⟩
end
section
variable {K : PySem.W.Frag} {g : G} {H H' : Hp}
/-- all new objects are data -/
def G.grow (g : G) (H H' : Hp) : G := { g with B := fun a => match H a with
  | none => H' a
  | some _ => g.B a }
theorem grow_new {a} (h : H a = none) : (g.grow H H').B a = H' a := by
  show (match H a with | none => H' a | some _ => g.B a) = _
  rw [h]
theorem grow_old {a o} (h : H a = some o) : (g.grow H H').B a = g.B a := by
  show (match H a with | none => H' a | some _ => g.B a) = _
  rw [h]
theorem grow_le (w : WOk g H) : G.Le g (g.grow H H') := ⟨rfl, rfl, fun _ h => h, fun a o e => by rw [grow_old (w.sb _ _ e)]; exact e, rfl, rfl, rfl⟩
theorem WOk.keep (w : WOk g H) {p : Addr} (m : g.M p) (k : Keep p H H') (hp : IsPool H' p) : WOk (g.grow H H') H' := by
  have np : ∀ a, ¬ g.M a → a ≠ p := fun a n e => n (e ▸ m)
  have hpl : ∃ o, H p = some o := by obtain ⟨⟨_, _, _, _, h⟩, _⟩ := w.pl p m; exact ⟨_, h⟩
  have oldM : ∀ a, g.M a → ∃ o, H a = some o := fun a ma => by obtain ⟨⟨_, _, _, _, h⟩, _⟩ := w.pl a ma; exact ⟨_, h⟩
  have e0 : ∀ a o, g.H0 a = some o → ∃ o', H a = some o' := fun a o e => by
    cases h : H a with
    | some o' => exact ⟨o', rfl⟩
    | none => rw [w.entry_none h] at e; cases e
  have sb' : Same (g.grow H H').B H' := fun a o e => by
    cases h : H a with
    | none => rw [grow_new h] at e; exact e
    | some o' =>
      rw [grow_old h] at e
      have := w.sb _ _ e
      refine k a (fun c => ?_) _ this
      subst c; rw [(w.pl a m).2] at e; cases e
  refine ⟨sb', fun a ma => ?_, fun a o e im => ?_, fun a o n n2 e => ?_, w.nw, fun a o e => ?_, w.m0, fun a o nx e e2 => ?_, fun a x => ?_⟩
  · obtain ⟨o, h⟩ := oldM a ma
    refine ⟨?_, by rw [grow_old h]; exact (w.pl a ma).2⟩
    by_cases c : a = p
    · subst c; exact hp
    · obtain ⟨x1, x2, x3, x4, q⟩ := (w.pl a ma).1
      exact ⟨x1, x2, x3, x4, k a c _ q⟩
  · cases h : H a with
    | none => rw [grow_new h]; exact e
    | some o' =>
      rw [grow_old h]
      by_cases c : a = p
      · subst c; obtain ⟨_, _, _, _, q⟩ := hp; rw [q] at e; cases e; exact im.elim
      · have := k a c _ h
        rw [e] at this; cases this
        exact w.im a o h im
  · have h := w.fr a o n n2 e
    refine k a (fun c => ?_) _ h
    subst c
    rcases w.nw a m with q | q
    · exact n q
    · have e : g.H0 a = some o := e
      rw [e] at q; cases q
  · obtain ⟨h1, h2, h3⟩ := w.pv a o e
    exact ⟨k a (np a h3) _ h1, by rw [grow_old h1]; exact h2, h3⟩
  · obtain ⟨o', h⟩ := e0 a o e
    rw [grow_old h]; exact w.bn a o nx e e2
  · obtain ⟨⟨u, e⟩, q⟩ := w.xp a x
    refine ⟨?_, q⟩
    by_cases c : a = p
    · subst c; obtain ⟨_, _, _, _, q⟩ := hp; exact ⟨_, q⟩
    · exact ⟨u, k a c _ e⟩
theorem WOk.same (w : WOk g H) (s : Same H H') : WOk (g.grow H H') H' := by
  have oldM : ∀ a, g.M a → ∃ o, H a = some o := fun a ma => by obtain ⟨⟨_, _, _, _, h⟩, _⟩ := w.pl a ma; exact ⟨_, h⟩
  have e0 : ∀ a o, g.H0 a = some o → ∃ o', H a = some o' := fun a o e => by
    cases h : H a with
    | some o' => exact ⟨o', rfl⟩
    | none => rw [w.entry_none h] at e; cases e
  refine ⟨fun a o e => ?_, fun a ma => ?_, fun a o e im => ?_, fun a o n n2 e => s _ _ (w.fr a o n n2 e), w.nw, fun a o e => ?_, w.m0, fun a o nx e e2 => ?_, fun a x => ?_⟩
  · cases h : H a with
    | none => rw [grow_new h] at e; exact e
    | some o' => rw [grow_old h] at e; exact s _ _ (w.sb _ _ e)
  · obtain ⟨o, h⟩ := oldM a ma
    exact ⟨(w.pl a ma).1.same s, by rw [grow_old h]; exact (w.pl a ma).2⟩
  · cases h : H a with
    | none => rw [grow_new h]; exact e
    | some o' =>
      rw [grow_old h]
      have := s _ _ h
      rw [e] at this; cases this
      exact w.im a o h im
  · obtain ⟨h1, h2, h3⟩ := w.pv a o e
    exact ⟨s _ _ h1, by rw [grow_old h1]; exact h2, h3⟩
  · obtain ⟨o', h⟩ := e0 a o e
    rw [grow_old h]; exact w.bn a o nx e e2
  · obtain ⟨⟨u, e⟩, q⟩ := w.xp a x
    exact ⟨⟨u, s _ _ e⟩, q⟩
/-- a new pool -/
def G.pool (g : G) (p : Addr) : G := { g with M := fun a => g.M a ∨ a = p }
theorem pool_le {p} : G.Le g (g.pool p) := ⟨rfl, rfl, fun _ h => .inl h, Same.rfl', rfl, rfl, rfl⟩
theorem WOk.pool (w : WOk g H) {p} (h : H p = none) {o} (ho : IsPool (upd H p o) p) : WOk (g.pool p) (upd H p o) := by
  have nb : g.B p = none := by
    cases e : g.B p with
    | none => rfl
    | some u => rw [w.sb _ _ e] at h; cases h
  refine ⟨fun a u e => ?_, fun a m => ?_, fun a u e i => ?_, fun a u n n2 e => ?_, fun a m => ?_, fun a u e => ?_, fun a m => .inl (w.m0 a m), w.bn, fun a x => ?_⟩
  · have := w.sb a u e
    rw [upd_ne (ne_of_none this h)]; exact this
  · rcases m with m | m
    · obtain ⟨⟨x1, x2, x3, x4, q⟩, n⟩ := w.pl a m
      exact ⟨⟨x1, x2, x3, x4, by rw [upd_ne (ne_of_none q h)]; exact q⟩, n⟩
    · subst m; exact ⟨ho, nb⟩
  · by_cases c : a = p
    · subst c; obtain ⟨_, _, _, _, q⟩ := ho; rw [q] at e; cases e; exact i.elim
    · rw [upd_ne c] at e; exact w.im a u e i
  · have := w.fr a u n n2 e
    rw [upd_ne (ne_of_none this h)]; exact this
  · rcases m with m | m
    · exact w.nw a m
    · subst m; exact .inr (w.entry_none h)
  · obtain ⟨h1, h2, h3⟩ := w.pv a u e
    refine ⟨by rw [upd_ne (ne_of_none h1 h)]; exact h1, h2, fun m => ?_⟩
    rcases m with m | m
    · exact h3 m
    · subst m; rw [h] at h1; cases h1
  · obtain ⟨⟨u, e⟩, q⟩ := w.xp a x
    exact ⟨⟨u, by rw [upd_ne (ne_of_none e h)]; exact e⟩, q⟩
theorem ScrAt.at_ {a : Addr} {xs : List V} (en : Enter g H) (h : ScrAt K g.H0 (fun a => g.M0 a ∨ g.XA a) a xs) : SqL K H a xs := by
  rcases h with h | ⟨o, h1, h2, _⟩
  · exact h H
  · rw [en.h0] at h1; exact h2 H h1
/-- rows of ints as they lie -/
theorem iss_rows {B : Hp} : ∀ {es : List (List Int)} {xs}, Iss K B xs (es.map intT) → ∃ ts, xs = ts.map V.ref ∧ RowsH B ts es
  | [], _, h => by cases h; exact ⟨[], rfl, rfl, fun k t e a => by simp at a⟩
  | e :: es, _, h => by
    cases h with
    | cons a t =>
      obtain ⟨ts, rfl, r⟩ := iss_rows t
      obtain ⟨p, ys, rfl, hp, ip, _⟩ := Is.tupE a
      rw [iss_insE ip] at hp
      refine ⟨p :: ts, rfl, by rw [List.length_cons, List.length_cons, r.1], fun k t' e' h1 h2 => ?_⟩
      cases k with
      | zero => simp at h1 h2; subst h1; subst h2; exact hp
      | succ k => exact r.2 k t' e' (by simpa using h1) (by simpa using h2)
theorem rows_iss {B : Hp} : ∀ {es : List (List Int)} {ts}, RowsH B ts es → (∀ e ∈ es, e.length ≤ 1000) → Iss K B (ts.map V.ref) (es.map intT)
  | [], ts, h, _ => by
    have := h.1
    cases ts with
    | nil => exact .nil
    | cons => simp at this
  | e :: es, ts, h, z => by
    have hl := h.1
    cases ts with
    | nil => simp at hl
    | cons t ts =>
      refine .cons (.tup (xs := e.map V.int) (h.2 0 t e rfl rfl) (iss_ints e) ?_) (rows_iss ⟨by simpa using hl, fun k t' e' h1 h2 => h.2 (k + 1) t' e' (by simpa using h1) (by simpa using h2)⟩ fun e' he' => z e' (List.mem_cons_of_mem _ he'))
      rw [List.length_map]
      have := z e List.mem_cons_self
      omega
theorem IsAs.d1 {vs x as} (h : IsAs K g vs (.d x :: as)) : ∃ v r, vs = v :: r ∧ Is K g.B v x ∧ IsAs K g r as := by
  cases h with | d a t => exact ⟨_, _, rfl, a, t⟩
theorem IsAs.p1 {vs as} (h : IsAs K g vs (.pool :: as)) : ∃ p r, vs = .ref p :: r ∧ g.M p ∧ IsAs K g r as := by
  cases h with | pool a t => exact ⟨_, _, rfl, a, t⟩
theorem IsAs.s1 {vs ns as} (h : IsAs K g vs (.scr ns :: as)) : ∃ a r, vs = .ref a :: r ∧ ScrAt K g.H0 (fun a => g.M0 a ∨ g.XA a) a (ns.map V.int) ∧ IsAs K g r as := by
  cases h with | scr a t => exact ⟨_, _, rfl, a, t⟩
theorem IsAs.n0 {vs} (h : IsAs K g vs []) : vs = [] := by cases h; rfl
end
/-- a web, a game, as data -/
def webD (C : Addr) (h n : Int) (ss : List (List Int)) : D := .ins C ["height", "size", "edges"] [.int h, .int n, edT ss]
def gameD (C : Addr) (h : Int) (os : List Bool) (ss : List (List Int)) : D := .ins C ["height", "size", "edges", "owners"] [.int h, nat os.length, edT ss, .str (strO os)]
section
variable {K : PySem.W.Frag} {g : G} {H H' : Hp}
theorem ed3 {h n : Int} {es : List (List Int)} (ok : ∀ e ∈ es, EdgeOk h n e) : ∀ e ∈ es, e.length ≤ 1000 := fun e he => by
  obtain ⟨s, r, t, rfl, _⟩ := ok e he
  show 3 ≤ 1000; decide
/-- a web that lies in the heap is data, where what does not change is data -/
theorem webD_of {C x h n ss} (w : WOk g H) (cl : Cls K C) (na : ∀ f ∈ (["height", "size", "edges"] : List Str), NoAttr K C f) (W : WebAt C H x h n ss) (z : ss.length ≤ 1000) (ok : ∀ e ∈ ss, e.length ≤ 1000) : Is K g.B (.ref x) (webD C h n ss) := by
  obtain ⟨dx, te, us, h1, h2, h3⟩ := W
  have b1 := w.im _ _ h1 trivial
  have b2 := w.im _ _ h2 trivial
  have b3 : RowsH g.B us ss := ⟨h3.1, fun k t e a b => w.im _ _ (h3.2 k t e a b) trivial⟩
  refine .ins b1 rfl (.cons (.int h) (.cons (.int n) (.cons (.tup b2 (rows_iss b3 ok) ?_) .nil))) cl na
  rw [List.length_map, h3.1]; omega
theorem gameD_of {C x h os ss} (w : WOk g H) (cl : Cls K C) (na : ∀ f ∈ (["height", "size", "edges", "owners"] : List Str), NoAttr K C f) (W : GameAt C H x h os ss) (z : ss.length ≤ 1000) (ok : ∀ e ∈ ss, e.length ≤ 1000) : Is K g.B (.ref x) (gameD C h os ss) := by
  obtain ⟨dx, te, us, h1, h2, h3⟩ := W
  have b1 := w.im _ _ h1 trivial
  have b2 := w.im _ _ h2 trivial
  have b3 : RowsH g.B us ss := ⟨h3.1, fun k t e a b => w.im _ _ (h3.2 k t e a b) trivial⟩
  refine .ins b1 rfl (.cons (.int h) (.cons (.int _) (.cons (.tup b2 (rows_iss b3 ok) ?_) (.cons (.str _) .nil)))) cl na
  rw [List.length_map, h3.1]; omega
/-- edges passed as a list or as a tuple -/
def edX (tp : Bool) (es : List (List Int)) : D := if tp then edT es else edL es
theorem edX_at {B : Hp} {v : V} {tp es} (i : Is K B v (edX tp es)) : ∃ a ts, v = .ref a ∧ (B a = some (.lst (ts.map V.ref)) ∨ B a = some (.tup (ts.map V.ref))) ∧ RowsH B ts es := by
  cases tp with
  | true =>
    obtain ⟨p, xs, rfl, hp, ip, _⟩ := Is.tupE i
    obtain ⟨ts, rfl, r⟩ := iss_rows ip
    exact ⟨p, ts, rfl, .inr hp, r⟩
  | false =>
    obtain ⟨p, xs, rfl, hp, ip, _⟩ := Is.lstE i
    obtain ⟨ts, rfl, r⟩ := iss_rows ip
    exact ⟨p, ts, rfl, .inl hp, r⟩
end
theorem made_same {H H' : Hp} {y dx C : Addr} (hy : H y = none) (hd : H dx = none) (k : Keep y (upd (upd H dx (.own y)) y (.ins C dx [])) H') : Same H H' := fun b o e => by
  refine k b (ne_of_none e hy) o ?_
  rw [upd_ne (ne_of_none e hy), upd_ne (ne_of_none e hd)]; exact e
end LR
set_option Elab.async false
set_option maxRecDepth 100000
set_option linter.all false
set_option maxHeartbeats 4000000
set_option Elab.async false
set_option maxRecDepth 100000
set_option linter.all false
set_option maxHeartbeats 4000000
namespace LR
open PySem PySem.Spec PyProof.Rows L2
/-! # the data layer: nested lists of the def's own -/
section
variable {X : Cx} {W : WX} {elt tg iter e : Expr} {es ifs : List Expr} {scope : Scope} {own : List (Str × Nat)} {pos : Pos} {i : Nat}
/-! ## displays of what one owns -/
inductive IsOs (K : PySem.W.Frag) (g : G) (H : Hp) (σ : L2.St) : List V → List (Ow ⊕ Nat) → List Addr → Prop
  | nil : IsOs K g H σ [] [] []
  | o {v t fs vs ts gs} (h : OwIs K g.B H v t fs) (r : IsOs K g H σ vs ts gs) : IsOs K g H σ (v :: vs) (.inl t :: ts) (fs ++ gs)
  | s {v i vs ts gs} (h : σ[i]? = some (some v)) (r : IsOs K g H σ vs ts gs) : IsOs K g H σ (v :: vs) (.inr i :: ts) gs
theorem IsOs.same {K : PySem.W.Frag} {g g' : G} {H H' : Hp} {σ : L2.St} (s : Same g.B g'.B) : ∀ {vs ts fs}, IsOs K g H σ vs ts fs → (∀ a ∈ fs, H' a = H a) → IsOs K g' H' σ vs ts fs
  | _, _, _, .nil, _ => .nil
  | _, _, _, .o h r, k => .o (h.mono s fun a m => k a (List.mem_append_left _ m)) (r.same s fun a m => k a (List.mem_append_right _ m))
  | _, _, _, .s h r, k => .s h (r.same s k)
abbrev DO := List Ev → (Er → Prop) → (List (Ow ⊕ Nat) → Prop) → Prop
def liftO (K : PySem.W.Frag) (W : WX) (d : DO) : TA := fun σ H Q => ∃ g env Ed Qd, Rep K g σ H env ∧ d env Ed Qd ∧
  (∀ vs ts fs H' g', G.Le g g' → Rep K g' σ H' env → IsOs K g' H' σ vs ts fs → fs.Nodup → (∀ a ∈ fs, Priv g' none a) → Off g' fs → Qd ts → Q vs H') ∧ KX K W g σ env Ed
def QO (X : Cx) (W : WX) (es : List Expr) (d : DO) : Prop := PA X es (liftO X.K W d)
def doNil : DO := fun _ _ Q => Q []
def doCons (d : DE) (r : DO) : DO := fun env Ed Q => d env Ed (asO fun o => r env Ed fun ts => Q (.inl o :: ts))
def doOwn (i : Nat) (r : DO) : DO := fun env Ed Q => isOwn (nth env i) = true ∧ r env Ed fun ts => Q (.inr i :: ts)
theorem qo_nil : QO X W [] doNil := pa_nil.mono fun σ H Q ⟨g, env, Ed, Qd, R, h, kv, kx⟩ => kv [] [] [] H g .rfl R .nil .nil (fun _ m => nomatch m) Off.nil h
theorem qo_cons {d r} (h : QE X W e d) (t : QO X W es r) (hs : starEach (e :: es) X.env = (false, eval e X.env) :: starEach es X.env := by rfl) : QO X W (e :: es) (doCons d r) := (pa_cons h t hs).mono fun σ H Q ⟨g, env, Ed, Qd, R, h, kv, kx⟩ => by
  refine lift.use R h (fun v a H1 g1 l1 R1 i1 q1 => ?_) kx
  obtain ⟨o, fs, g2, l2, R2, o2, ns2, q⟩ := up_o R1 i1 q1
  refine ⟨g2.side H1 fs, env, Ed, _, R2.side o2 ns2, q, fun vs ts gs H3 g3 l3 R3 i3 nd pv off q3 => ?_, fun er cls dd H3 g3 l3 R3 ir q3 => ?_⟩
  · obtain ⟨R4, o4, ns4, l4, hc, _, tr⟩ := Rep.back o2 l3 R3
    refine kv _ _ (fs ++ gs) H3 _ ((l1.trans l2).trans l4) R4 (.o o4.is_ (i3.same (g := g3) (g' := g3.back g2.P) Same.rfl' fun _ _ => rfl)) (List.nodup_append.mpr ⟨o2.nd, nd, fun a m b m2 e => (tr _ b (pv b m2)).2 (e ▸ m)⟩) (fun a m => ?_) (fun j a m => ?_) q3
    · rcases List.mem_append.mp m with m | m
      · exact o4.pv a m
      · exact (tr _ a (pv a m)).1
    · rcases List.mem_append.mp m with m | m
      · exact ns4 j a m
      · exact off j a m
  · obtain ⟨R4, o4, ns4, l4, hc, _, tr⟩ := Rep.back o2 l3 R3
    exact kx er cls dd H3 _ ((l1.trans l2).trans l4) R4 ir q3
theorem qo_own {r} (h : PE X e (tVar i)) (t : QO X W es r) (hs : starEach (e :: es) X.env = (false, eval e X.env) :: starEach es X.env := by rfl) : QO X W (e :: es) (doOwn i r) := (pa_cons h t hs).mono fun σ H Q ⟨g, env, Ed, Qd, R, ⟨io, h⟩, kv, kx⟩ => by
  have s := R.sl i
  cases en : nth env i with
  | own o b =>
    rw [en] at s
    obtain ⟨v, es, _⟩ := s
    exact ⟨v, es, g, env, Ed, _, R, h, fun vs ts fs H' g' le R' i3 nd pv off q => kv (v :: vs) _ fs H' g' le R' (.s es i3) nd pv off q, kx⟩
  | _ => rw [en] at io; cases io
def takeO : List Ev → List (Ow ⊕ Nat) → Option (List Ev × List Ow)
  | env, [] => some (env, [])
  | env, .inl o :: r => (takeO env r).map fun p => (p.1, o :: p.2)
  | env, .inr i :: r => match nth env i with
    | .own o none => (takeO (sth env i .any) r).map fun p => (p.1, o :: p.2)
    | _ => none
theorem take_own {K : PySem.W.Frag} {σ : L2.St} {H : Hp} : ∀ {ts : List (Ow ⊕ Nat)} {g : G} {env env' : List Ev} {vs : List V} {fs : List Addr} {os : List Ow}, Rep K g σ H env → IsOs K g H σ vs ts fs → fs.Nodup → (∀ a ∈ fs, Priv g none a) → Off g fs → takeO env ts = some (env', os) →
    ∃ g' fs', G.Le g g' ∧ g'.B = g.B ∧ Rep K g' σ H env' ∧ OwIss K g'.B H vs os fs' ∧ fs'.Nodup ∧ (∀ a ∈ fs', Priv g' none a) ∧ Off g' fs' ∧ (∀ j a, a ∈ g'.F j → a ∈ g.F j) ∧ (∀ a ∈ fs', a ∈ fs ∨ ∃ j, a ∈ g.F j) ∧ ∀ b a, Priv g b a → Priv g' b a := by
  intro ts
  induction ts with
  | nil =>
    intro g env env' vs fs os R i nd pv off e
    cases i
    cases e
    exact ⟨g, [], .rfl, rfl, R, .nil, .nil, (fun _ m => nomatch m), Off.nil, fun _ _ h => h, (fun _ m => nomatch m), fun _ _ h => h⟩
  | cons t ts ih =>
    intro g env env' vs fs os R i nd pv off e
    cases t with
    | inl o =>
      cases i with
      | @o v _ hs vs _ gs h r =>
        obtain ⟨p, e1, e2⟩ := Option.map_eq_some_iff.mp e
        cases e2
        obtain ⟨env', os⟩ := p
        have nd' := List.nodup_append.mp nd
        obtain ⟨g', fs', le, eB, R', i', nd2, pv2, off2, sub, or_, kp⟩ := ih R r nd'.2.1 (fun a m => pv a (List.mem_append_right _ m)) (fun j a m => off j a (List.mem_append_right _ m)) e1
        refine ⟨g', hs ++ fs', le, eB, R', .cons (by rw [eB]; exact h) i', List.nodup_append.mpr ⟨nd'.1, nd2, fun a m b m2 ee => ?_⟩, fun a m => ?_, fun j a m => ?_, sub, fun a m => ?_, kp⟩
        · subst ee
          rcases or_ a m2 with q | ⟨j, q⟩
          · exact nd'.2.2 a m a q rfl
          · exact off j a (List.mem_append_left _ m) q
        · rcases List.mem_append.mp m with m | m
          · exact kp _ _ (pv a (List.mem_append_left _ m))
          · exact pv2 a m
        · rcases List.mem_append.mp m with m | m
          · exact fun h => off j a (List.mem_append_left _ m) (sub j a h)
          · exact off2 j a m
        · rcases List.mem_append.mp m with m | m
          · exact .inl (List.mem_append_left _ m)
          · exact (or_ a m).elim (fun q => .inl (List.mem_append_right _ q)) .inr
    | inr k =>
      cases i with
      | @s v _ vs _ _ h r =>
        unfold takeO at e
        split at e
        · rename_i o en
          obtain ⟨p, e1, e2⟩ := Option.map_eq_some_iff.mp e
          cases e2
          obtain ⟨env', os⟩ := p
          have s := R.sl k
          rw [en] at s
          obtain ⟨v', es, ow⟩ := s
          rw [h] at es; cases es
          obtain ⟨R1, o1, ns1⟩ := R.giveUp ow
          have subF : ∀ j a, a ∈ (g.setF k []).F j → a ∈ g.F j := fun j a m => by
            have m : a ∈ LR.setF g.F k [] j := m
            by_cases n : j = k
            · subst n; rw [setF_eq] at m; cases m
            · rw [setF_ne n] at m; exact m
          obtain ⟨g', fs', le, eB, R', i', nd2, pv2, off2, sub, or_, kp⟩ := ih R1 (r.same (g := g) (g' := g.setF k []) Same.rfl' fun _ _ => rfl) nd (fun a m => (pv a m).setF) (fun j a m q => off j a m (subF j a q)) e1
          refine ⟨g', g.F k ++ fs', G.setF_le.trans le, eB, R', .cons (by rw [eB]; exact o1.is_) i', List.nodup_append.mpr ⟨ow.nd, nd2, fun a m b m2 ee => ?_⟩, fun a m => ?_, fun j a m => ?_, fun j a m => subF j a (sub j a m), fun a m => ?_, fun b a q => kp b a q.setF⟩
          · subst ee
            rcases or_ a m2 with q | ⟨j, q⟩
            · exact off k a q m
            · exact ns1 j a m q
          · rcases List.mem_append.mp m with m | m
            · exact kp _ _ (o1.pv a m)
            · exact pv2 a m
          · rcases List.mem_append.mp m with m | m
            · exact fun q => ns1 j a m (sub j a q)
            · exact off2 j a m
          · rcases List.mem_append.mp m with m | m
            · exact .inr ⟨k, m⟩
            · exact (or_ a m).imp id fun ⟨j, q⟩ => ⟨j, subF j a q⟩
        · cases e
def dRetLst (d : DO) : DS := fun Dd env => d env (fun e => Dd.er e env) fun ts => ∃ env' os, takeO env ts = some (env', os) ∧ os.length ≤ 1000 ∧ Dd.rt env' (.fr (.tr os))
theorem qs_retLst {d tpos} (h : QO X W es d) : QS X W (.Return (some (.List es tpos)) pos) (dRetLst d) := (ps_ret (pe_lst h)).mono fun D σ H ⟨g, env, Dd, R, h, l⟩ => by
  refine ⟨g, env, _, _, R, h, fun vs ts fs H1 g1 l1 R1 i1 nd pv off ⟨env', os, et, hz, q⟩ => ?_, l.kx⟩
  obtain ⟨g2, fs', l2, eB, R2, i2, nd2, pv2, off2, _⟩ := take_own R1 i1 nd pv off et
  refine ⟨by rw [i2.length]; exact len_1000 hz, fun p hp => ?_⟩
  have np : ∀ a ∈ fs', a ≠ p := fun a m e => by
    rcases i2.cell a m with ⟨_, c⟩ | ⟨_, c⟩ <;> rw [e, hp] at c <;> cases c
  refine l.rt _ (.fr (.tr os)) _ _ _ _ (l1.trans l2) (R2.put (ho := .lst vs) hp (fun h => h)) ⟨p :: fs', ⟨.tr upd_same (i2.mono Same.rfl' fun a m => upd_ne (np a m)) (by rw [i2.length]; omega), List.nodup_cons.mpr ⟨fun m => np p m rfl, nd2⟩, fun a m => ?_, fun _ h => by cases h⟩, fun j a m => ?_⟩ q
  · rcases List.mem_cons.mp m with rfl | m
    · exact R2.ok.priv hp
    · exact pv2 a m
  · rcases List.mem_cons.mp m with rfl | m
    · exact R2.off hp j a (by simp)
    · exact off2 j a m
end
end LR
set_option Elab.async false
set_option maxRecDepth 100000
set_option linter.all false
set_option maxHeartbeats 4000000
namespace LR
open PySem PySem.Spec PyProof.Rows L2
/-! # the data layer: places inside nested lists -/
def atO1 : Ow → Int → Option Ow
  | .tr ts, k => atI ts k
  | .tu ts, k => atI ts k
  | _, _ => none
def atO : Ow → List Int → Option Ow
  | o, [] => some o
  | o, k :: ks => (atO1 o k).bind fun t => atO t ks
def putO1 : Ow → Int → Ow → Ow
  | .tr ts, k, s => match ixN ts.length k with
    | some j => .tr (ts.set j s)
    | none => .tr ts
  | .tu ts, k, s => match ixN ts.length k with
    | some j => .tu (ts.set j s)
    | none => .tu ts
  | o, _, _ => o
def putO : Ow → List Int → Ow → Ow
  | _, [], s => s
  | o, k :: ks, s => match atO1 o k with
    | some t => putO1 o k (putO t ks s)
    | none => o
section
variable {K : PySem.W.Frag} {B H : Hp}
/-- the part at ks of what lies at v0 -/
structure Foc (K : PySem.W.Frag) (B H : Hp) (v0 : V) (o : Ow) (fs : List Addr) (ks : List Int) (v : V) (s : Ow) (gs : List Addr) : Prop where
  at_ : atO o ks = some s
  is_ : OwIs K B H v s gs
  cut : ∃ pre post, fs = pre ++ gs ++ post ∧ ∀ Bx Hx s2 fs2, Same B Bx → OwIs K Bx Hx v s2 fs2 → (∀ a, a ∈ pre ∨ a ∈ post → Hx a = H a) → OwIs K Bx Hx v0 (putO o ks s2) (pre ++ fs2 ++ post)
theorem Foc.nil {v0 o fs} (i : OwIs K B H v0 o fs) : Foc K B H v0 o fs [] v0 o fs := ⟨rfl, i, [], [], by simp, fun Bx Hx s2 fs2 sb i2 k => by simpa [putO] using i2⟩
end
def liftPl (K : PySem.W.Frag) (i : Nat) (pa : List Ev → Option (List Int)) : TE := fun σ H Q => ∃ g env o v0 fs B0 H0, Rep K g σ H env ∧ σ[i]? = some (some v0) ∧ OwIs K B0 H0 v0 o fs ∧ (∀ a ∈ fs, g.B a = H0 a) ∧ Same B0 g.B ∧
  ∃ ks s, pa env = some ks ∧ atO o ks = some s ∧ ∀ v gs H' g', G.Le g g' → Rep K g' σ H' env → Foc K B0 H0 v0 o fs ks v s gs → Q v H'
section
variable {X : Cx} {W : WX} {i : Nat} {e a b : Expr} {pos : Pos} {pa : List Ev → Option (List Int)} {pk : PF} {st : Stmt}
theorem Rep.pl {K : PySem.W.Frag} {g : G} {σ : L2.St} {H : Hp} {env : List Ev} {o : Ow} {Q : VK} (R : Rep K g σ H env) (en : ownO (nth env i) = some o) {ks s} (ep : pa (un env) = some ks) (ea : atO o ks = some s)
    (k : ∀ b v0 v gs H' g', nth env i = .own o b → σ[i]? = some (some v0) → G.Le (g.lent H) g' → Rep K g' σ H' (un env) → Foc K g.B H v0 o (g.F i) ks v s gs → Q v H') : liftPl K i pa σ H Q := by
  have s' := R.sl i
  cases e : nth env i with
  | own o' b =>
    rw [e] at s' en
    obtain ⟨v0, es, oa⟩ := s'
    cases en
    exact ⟨g.lent H, un env, o, v0, g.F i, g.B, H, R.lend, es, oa.is_, fun a m => lent_own ⟨i, m⟩, (G.lent_le R).b, ks, s, ep, ea, fun v gs H' g' le R' f => k b v0 v gs H' g' e es le R' f⟩
  | _ => rw [e] at en; cases en
/-- a fresh list read off what one owns -/
def dLoanF (d : DE) : DE := fun env Ed Q => d (un env) Ed fun r => ∃ l, r = .fr (.ls l) ∧ imds l = true ∧ Q (.fr (.ls l))
theorem qe_loanF {d : DE} (h : QE X W e d) : QE X W e (dLoanF d) := PE.mono h fun σ H Q ⟨g, env, Ed, Qd, R, h, kv, kx⟩ => by
  refine lift.use R.lend h (fun v r H1 g1 l1 R1 i1 ⟨l, er, sx, q⟩ => ?_) (kx_unlend R kx)
  subst er
  obtain ⟨l3, R3, im, _⟩ := R.unlend l1 R1
  obtain ⟨fs, oa, ns⟩ := i1
  obtain ⟨p, xs, rfl, rfl, hp, ix, z⟩ := oa.is_.lE
  have pp := oa.pv p (by simp)
  refine kv _ (.fr (.ls l)) H1 _ l3 R3 ⟨[p], ⟨.l hp (ix.less im sx) z, by simp, fun a m => ?_, fun _ h => by cases h⟩, fun j a m h => ?_⟩ q
  · rw [List.mem_singleton.mp m]
    refine ⟨?_, pp.nm, pp.n0, pp.np⟩
    by_cases c : ∃ i, p ∈ g.F i
    · exact unlent_own c
    · rw [unlent_not c]; exact pp.nb
  · rw [List.mem_singleton.mp m] at h
    obtain ⟨u, _, e2⟩ := R.lentAt l1 ⟨j, h⟩
    rw [pp.nb] at e2; cases e2
end
end LR
set_option Elab.async false
set_option maxRecDepth 100000
set_option linter.all false
set_option maxHeartbeats 4000000
namespace LR
open PySem PySem.Spec PyProof.Rows L2
/-! # the data layer: loops over what one owns -/
section
variable {K : PySem.W.Frag} {W : WX} {g g' : G} {σ σ' : L2.St} {H H' : Hp} {env e : List Ev} {i : Nat} {v : V} {o : Ow} {b : Option Nat} {fs : List Addr}
theorem IsR.back {r : Ar} {v : V} {a : G} (tr : ∀ b' v' o' fs', OwnAt K g' H' b' v' o' fs' → OwnAt K (g'.back a.P) H' b' v' o' fs' ∧ ∀ p ∈ fs', p ∉ fs) (i : IsR K g' H' v r) : IsR K (g'.back a.P) H' v r := by
  cases r with
  | d x => exact i
  | pool => exact i
  | scr ns => exact i
  | fr o => obtain ⟨gs, oa, ns⟩ := i; exact ⟨gs, (tr _ _ _ _ oa).1, ns⟩
end
end LR
set_option Elab.async false
set_option maxRecDepth 100000
set_option linter.all false
set_option maxHeartbeats 4000000
namespace LR
open PySem PySem.Spec PyProof.Rows L2
/-! # the data layer: more fresh lists, two iterations in one comprehension -/
section
variable {X : Cx} {W : WX} {e a b : Expr} {pos p2 : Pos}
def dCatF (da db : DE) : DE := fun env Ed Q => da env Ed (asD fun x => db env Ed (asD fun y => ∃ l m, x = .lst l ∧ y = .lst m ∧ l.length + m.length ≤ 100000 ∧ Q (.fr (.ls (l ++ m)))))
theorem qe_catF {da db : DE} (ha : QE X W a da) (hb : QE X W b db) : QE X W (.BinOp a .Add b pos) (dCatF da db) := (pe_op op_cat ha hb).mono fun σ H Q ⟨g, env, Ed, Qd, R, h, kv, kx⟩ => by
  refine lift.useD R h (fun v x H1 g1 l1 R1 i1 q => lift.useD R1 q (fun u y H2 g2 l2 R2 i2 ⟨l, m, ex, ey, z, qq⟩ => ?_) (kx.mono l1)) kx
  subst ex ey
  obtain ⟨p, xs, rfl, hp, ip, zp⟩ := (i1.mono l2.b).lstE
  obtain ⟨q', ys, rfl, hq, iq, zq⟩ := i2.lstE
  have h1 := ip.length
  have h2 := iq.length
  have sb := R2.ok.sb
  refine ⟨p, q', xs, ys, rfl, rfl, sb _ _ hp, sb _ _ hq, line5 (by omega), fun r hr => ?_⟩
  obtain ⟨R3, r3⟩ := upd_own R2 hr (ip.append iq) (by rw [List.length_append]; omega)
  exact kv _ (.fr (.ls (l ++ m))) _ _ (l1.trans l2) R3 r3 qq
end
/-! ## sorted edges -/
end LR
set_option Elab.async false
set_option maxRecDepth 100000
set_option linter.all false
set_option maxHeartbeats 4000000
set_option Elab.async false
set_option maxRecDepth 100000
set_option linter.all false
set_option maxHeartbeats 4000000
set_option Elab.async false
set_option maxRecDepth 100000
set_option linter.all false
set_option maxHeartbeats 4000000
set_option Elab.async false
set_option maxRecDepth 100000
set_option linter.all false
set_option maxHeartbeats 4000000
set_option Elab.async false
set_option maxRecDepth 100000
set_option linter.all false
set_option maxHeartbeats 4000000
namespace LR
open PySem PySem.Spec PyProof.Rows L2
/-! # the data layer: the law itself -/
section
variable {P : Program} {w : World} {K : PySem.W.Frag} {mg : Str → Option Value} {base : Heap}
def g0 (H : Hp) : G := { H0 := H, M0 := fun _ => False, M := fun _ => False, B := H, P := fun _ => none, B0 := H, X := fun _ => none, F := fun _ => [] }
theorem g0_enter {H : Hp} : Enter (g0 H) H :=
  ⟨rfl, rfl, rfl, rfl, rfl, rfl, ⟨Same.rfl', fun _ h => h.elim, fun _ _ h _ => h, fun _ _ _ _ h => h, fun _ h => h.elim, (fun a o e => nomatch (show (none : Option HO) = some o from e)), fun _ h => h.elim, fun _ _ _ _ e => e, fun _ h => (no_xa rfl h).elim⟩⟩
/-- the law keeps its promise where its body leads to True from every script -/
theorem law_dl {st : Stmt} {N : List Str} {k : Nat} {f : Addr} {fd : FuncData} (F : Fun K "law" "law" st f fd) (S : FnScope N ["script"] (defScope st)) (hN : 1 ≤ N.length)
    (hbody : ∀ (cdv : Value) (A : Around) (outer : List Env) (s : Shared) (H : Hp) (E : XK), Room k (A.deeper (envOfC "law" (defScope st) s.heap.objs.size f cdv)) →
      ∃ ds, QSs (cxOf CX0 P w K mg base N "law" (defScope st) f cdv A outer s H E).nox WF (defBody st) ds ∧ ∀ ns : List Int, ds (Dn.ofF (fun _ => False) (fun r => r = .d (.bl true))) (envOf [.scr ns] N.length)) :
    FnOk P w K mg base CX0 (k + 1) f fd ["script"] (spLaw K) := by
  refine F.ok S (fun vs H Q E h => ?_) (fun cdv A outer s H vs Q E hr h => ?_)
  · obtain ⟨a, ns, rfl, _⟩ := h; rfl
  obtain ⟨a, ns, rfl, hS, kk⟩ := h
  obtain ⟨ds, hq, hd⟩ := hbody cdv A outer s H E hr
  refine ⟨_, hq, ?_⟩
  refine body_dl (X := (cxOf CX0 P w K mg base N "law" (defScope st) f cdv A outer s H E).nox) (E := fun _ _ _ => False) (f := fun as Ed Qd => ∃ ns, as = [.scr ns] ∧ Ed = (fun _ => False) ∧ Qd = (fun r => r = .d (.bl true))) (fun _ _ _ _ h => h.elim) (fun as Ed Qd hf => ?_) (Q := Q) ?_
  · obtain ⟨ns, rfl, rfl, rfl⟩ := hf
    exact ⟨hN, hd ns⟩
  refine ⟨g0 H, [.scr ns], fun _ => False, fun r => r = .d (.bl true), g0_enter, .scr (ScrAt.of hS (fun _ h => ?_) fun _ h => ?_) .nil, ⟨ns, rfl, rfl, rfl⟩, fun v r H' g' le w ir e => ?_, fun _ _ _ _ _ _ _ _ z => z.elim⟩
  · exact (h.elim (fun z => z) fun z => no_xa rfl z).elim
  · exact (h.elim (fun z => z) fun z => no_xa rfl z).elim
  · subst e
    rw [Is.blE ir]; exact kk H'
theorem MetIn.dl {C : Addr} {m qual : Str} {st : Stmt} {N ps : List Str} {k : Nat} {f : Fs} (c : Cls K C) (D : MetIn K C m qual st ps) (S : FnScope N ps (defScope st)) (hl : ∀ as Ed Qd, f as Ed Qd → as.length = ps.length) (hN : ps.length ≤ N.length)
    (hbody : ∀ (fa : Addr) (cdv : Value) (A : Around) (outer : List Env) (s : Shared) (H : Hp) (E : XK), Room k (A.deeper (envOfC qual (defScope st) s.heap.objs.size fa cdv)) →
      ∃ ds, QSs (cxOf (L2.CX P w) P w K mg base N qual (defScope st) fa cdv A outer s H E) (fun cls d _ H => E cls d H) (defBody st) ds ∧ ∀ as Ed Qd, f as Ed Qd → ds (Dn.ofF Ed Qd) (envOf as N.length)) : MetX P w K mg base (k + 1) C m (spF K f) := by
  refine D.metX c S (spF_len hl) fun fa cdv A outer s H vs Q E hr h => ?_
  obtain ⟨ds, hq, hd⟩ := hbody fa cdv A outer s H E hr
  exact ⟨_, hq, body_dl (X := cxOf (L2.CX P w) P w K mg base N qual (defScope st) fa cdv A outer s H E) (fun _ _ _ _ h => h) (fun as Ed Qd hf => ⟨by rw [hl as Ed Qd hf]; exact hN, hd as Ed Qd hf⟩) h⟩
end
/-! ## data for the law's own comparing -/
end LR
set_option Elab.async false
set_option maxRecDepth 100000
set_option linter.all false
set_option maxHeartbeats 4000000
namespace LR
open PySem PySem.Spec PyProof.Rows L2
/-! # the data layer: zip of a tuple and a list; reversed of a tuple -/
theorem _root_.L2.PI.or {X : Cx} {tg e : Expr} {a b : TI} (h : PI X tg e a) (k : PI X tg e b) : PI X tg e (fun σ H R => a σ H R ∨ b σ H R) := ⟨fun pins s σ H R I q => q.elim (fun q => h.run pins s σ H R I q) fun q => k.run pins s σ H R I q⟩
section
variable {X : Cx} {W : WX} {tg e e2 : Expr} {p pos : Pos}
/-- what holds between two statements -/
def dCut (a b : DS) : DS := fun Dd env => ∃ P : List Ev → Prop, a { Dd with nx := P } env ∧ ∀ e, P e → b Dd e
theorem qss_cut {st : Stmt} {rest : List Stmt} {a b : DS} (h : QS X W st a) (t : QSs X W rest b) : QSs X W (st :: rest) (dCut a b) := (pss_cons h t).mono fun D σ H ⟨g, env, Dd, R, ⟨P, h, hb⟩, l⟩ =>
  ⟨g, env, { Dd with nx := P }, R, h, ⟨fun σ' H' g' env' le R' q => ⟨g', env', Dd, R', hb _ q, l.mono le⟩, l.bk, l.ct, l.rt, l.er⟩⟩
/-! ## is, is not of two bools -/
end
section
variable {X : Cx} {l : List ClD} {hds : List ExceptHandler}
theorem clq_nil : ClOk X [] (clT X.K []) := .nil
theorem clq_held {x n : Str} {i : Nat} {c : Value} {ds : Addr → Value → Option Addr → DS} {b₀ : Stmt} {suite : List Stmt} {np pos' : Pos} (hi : X.N[i]? = some n) (hln : X.env.kindOf n = some .local) (hc : Names X x c)
    (hsu : SuiteOk X (b₀ :: suite) fun a cls d => liftS X.K WF (ds a cls d)) (r : ClOk X hds (clT X.K l)) : ClOk X (.ExceptHandler (some (.Name x np)) (some n) (b₀ :: suite) pos' :: hds) (clT X.K ((c, some i, ds) :: l)) := .held hi hln hc hsu r
end
end LR
set_option Elab.async false
set_option maxRecDepth 100000
set_option linter.all false
set_option maxHeartbeats 4000000
namespace LR
open PySem PySem.Spec PyProof.Rows L2
/-! # the data layer: constants of the module, isinstance of an own class -/
section
variable {X : Cx} {W : WX} {pos p1 : Pos} {e : Expr} {x : Str}
/-- isinstance of an instance of the class at C -/
def isiOD (C : Addr) : List D → Option D
  | [.ins C' _ _, .cls C''] => if C' = C ∧ C'' = C then some (.bl true) else none
  | _ => none
theorem o_isiO {K : PySem.W.Frag} {C : Addr} (cl : Cls K C) (ai : PySem.W.findIn K (.ref C) "__class__" = some (some (.builtin "object.__class__"))) (O : ObjC K) (mo : PySem.W.mroIn K C (.type "object") = some true) (kit : PySem.W.kitOne K (.ref C) (.ref C) = some true) : OpN K (rIsi K) (isiOD C) := ⟨fun {g σ H env vs xs z Q} R i e k => by
  unfold isiOD at e
  split at e
  · split at e
    · rename_i h
      obtain ⟨rfl, rfl⟩ := h
      cases e
      obtain ⟨v, u, rfl, i1, j1⟩ := i.two_inv
      cases j1
      cases i1 with
      | ins hp kk a cl' na => exact ⟨_, _, _, _, true, rfl, .own _, .base (.ins (R.ok.sb _ _ hp) cl ai O.gt O.tk mo), kit, k _ _ _ .rfl R (.bl true)⟩
    · cases e
  · cases e⟩
end
end LR
set_option Elab.async false
set_option maxRecDepth 100000
set_option linter.all false
set_option maxHeartbeats 4000000
namespace LR
open PySem PySem.Spec PyProof.Rows L2
/-! # the data layer: powers, tuples in order, pop -/
def powD : D → D → Option D
  | .int i, .int j => if 0 ≤ j ∧ j ≤ 1000000 ∧ i.natAbs < 2 ^ 64 then some (.int (i ^ j.toNat)) else none
  | _, _ => none
theorem o_pow {K : PySem.W.Frag} : Op2 K (rI CPow fun i j => .int (i ^ j.toNat)) powD := ⟨fun {g σ H env v u x y z Q} R i j e k => by
  unfold powD at e
  split at e
  · split at e
    · rename_i h; cases e; exact ⟨_, _, i.intE, j.intE, h, k _ _ _ .rfl R (.int _)⟩
    · cases e
  · cases e⟩
end LR
set_option Elab.async false
set_option maxRecDepth 100000
set_option linter.all false
set_option maxHeartbeats 4000000
set_option Elab.async false
set_option maxRecDepth 100000
set_option linter.all false
set_option maxHeartbeats 4000000
namespace LR
/-! # rows that a ladder holds: the mathematics -/
def gp (ls : List Int) (s t : Nat) : Int := gapI ls s t
/-! ## choices of steps -/
/-- t above s, the gap r between -/
def rel (ls : List Int) (s t : Nat) (r : Int) : Bool := decide (s < t) && decide (gp ls s t = r)
theorem rel_iff {ls s t r} : rel ls s t r = true ↔ s < t ∧ gp ls s t = r := by unfold rel; simp
/-- steps c, one more than the row has levels, with the row's gaps between -/
def Ch (ls : List Int) : List Int → List Nat → Prop
  | [], [s] => s ≤ ls.length
  | r :: row, s :: t :: c => rel ls s t r = true ∧ Ch ls row (t :: c)
  | _, _ => False
theorem Ch.ne {ls row c} (h : Ch ls row c) : ∃ s r, c = s :: r := by
  cases c with
  | nil => cases row <;> exact h.elim
  | cons s r => exact ⟨s, r, rfl⟩
theorem Ch.one {ls row s} (h : Ch ls row [s]) : row = [] := by
  cases row with
  | nil => rfl
  | cons r row => exact h.elim
/-- by places -/
theorem ch_iff {ls : List Int} : ∀ {row c}, Ch ls row c ↔ c.length = row.length + 1 ∧ (∀ s ∈ c, s ≤ ls.length) ∧ ∀ k s t r, c[k]? = some s → c[k + 1]? = some t → row[k]? = some r → rel ls s t r = true := by
  intro row
  induction row with
  | nil =>
    intro c
    match c with
    | [] => exact ⟨fun h => h.elim, fun h => by have := h.1; simp at this⟩
    | [s] => exact ⟨fun h => ⟨rfl, fun s' hs => by rw [List.mem_singleton.mp hs]; exact h, fun k s t r h1 h2 h3 => by simp at h3⟩, fun h => h.2.1 s List.mem_cons_self⟩
    | _ :: _ :: _ => exact ⟨fun h => h.elim, fun h => by have := h.1; simp at this⟩
  | cons r row ih =>
    intro c
    match c with
    | [] => exact ⟨fun h => h.elim, fun h => by have := h.1; simp at this⟩
    | [s] => exact ⟨fun h => h.elim, fun h => by have := h.1; simp at this⟩
    | s :: t :: c =>
      constructor
      · rintro ⟨h1, h2⟩
        obtain ⟨q1, q2, q3⟩ := ih.mp h2
        refine ⟨by rw [List.length_cons, q1, List.length_cons], fun x hx => ?_, fun k a b g e1 e2 e3 => ?_⟩
        · rcases List.mem_cons.mp hx with rfl | hx
          · have := q2 t List.mem_cons_self
            have := (rel_iff.mp h1).1
            omega
          · exact q2 x hx
        · cases k with
          | zero => simp at e1 e2 e3; subst e1 e2 e3; exact h1
          | succ k => exact q3 k a b g (by simpa using e1) (by simpa using e2) (by simpa using e3)
      · rintro ⟨q1, q2, q3⟩
        exact ⟨q3 0 s t r rfl rfl rfl, ih.mpr ⟨by simpa using q1, fun x hx => q2 x (List.mem_cons_of_mem _ hx), fun k a b g e1 e2 e3 => q3 (k + 1) a b g (by simpa using e1) (by simpa using e2) (by simpa using e3)⟩⟩
/-! ## the least choice -/
def stps (ls : List Int) : List Nat := List.range (ls.length + 1)
/-- where a choice of the row may begin -/
def bk (ls : List Int) : List Int → List Nat
  | [] => stps ls
  | r :: row => (stps ls).filter fun s => (bk ls row).any fun t => rel ls s t r
def greedy (ls : List Int) : List Int → Nat → List Nat
  | [], _ => []
  | r :: row, s => match (bk ls row).find? fun t => rel ls s t r with
    | some t => t :: greedy ls row t
    | none => []
def least (ls row : List Int) : List Nat := match bk ls row with
  | [] => []
  | s :: _ => s :: greedy ls row s
theorem mem_stps {ls : List Int} {s : Nat} : s ∈ stps ls ↔ s ≤ ls.length := by unfold stps; rw [List.mem_range]; omega
theorem mem_bk {ls : List Int} : ∀ {row s}, s ∈ bk ls row ↔ ∃ c, Ch ls row (s :: c) := by
  intro row
  induction row with
  | nil => intro s; unfold bk; rw [mem_stps]; exact ⟨fun h => ⟨[], h⟩, fun ⟨c, h⟩ => by cases c with | nil => exact h | cons => exact h.elim⟩
  | cons r row ih =>
    intro s
    unfold bk
    rw [List.mem_filter, List.any_eq_true]
    constructor
    · rintro ⟨_, t, h1, h2⟩
      obtain ⟨c, hc⟩ := ih.mp h1
      exact ⟨t :: c, h2, hc⟩
    · rintro ⟨c, h⟩
      cases c with
      | nil => exact h.elim
      | cons t c =>
        refine ⟨mem_stps.mpr ?_, t, ih.mpr ⟨c, h.2⟩, h.1⟩
        exact (ch_iff.mp (show Ch ls (r :: row) (s :: t :: c) from h)).2.1 s List.mem_cons_self
theorem bk_sorted {ls : List Int} : ∀ row, (bk ls row).Pairwise (· < ·)
  | [] => List.pairwise_lt_range
  | _ :: _ => List.Pairwise.filter _ List.pairwise_lt_range
theorem find_least {l : List Nat} {p : Nat → Bool} (h : l.Pairwise (· < ·)) {t : Nat} (e : l.find? p = some t) : t ∈ l ∧ p t = true ∧ ∀ u ∈ l, p u = true → t ≤ u := by
  induction l with
  | nil => simp at e
  | cons x r ih =>
    rw [List.find?_cons] at e
    obtain ⟨h1, h2⟩ := List.pairwise_cons.mp h
    cases c : p x with
    | true =>
      rw [c] at e; cases e
      exact ⟨List.mem_cons_self, c, fun u hu _ => (List.mem_cons.mp hu).elim (fun e => by omega) fun m => by have := h1 u m; omega⟩
    | false =>
      rw [c] at e
      obtain ⟨q1, q2, q3⟩ := ih h2 e
      exact ⟨List.mem_cons_of_mem _ q1, q2, fun u hu pu => (List.mem_cons.mp hu).elim (fun e => by rw [e, c] at pu; cases pu) fun m => q3 u m pu⟩
theorem greedy_ch {ls : List Int} : ∀ {row s}, s ∈ bk ls row → Ch ls row (s :: greedy ls row s) := by
  intro row
  induction row with
  | nil => intro s h; exact mem_stps.mp h
  | cons r row ih =>
    intro s h
    unfold greedy
    unfold bk at h
    obtain ⟨_, h2⟩ := List.mem_filter.mp h
    cases e : (bk ls row).find? fun t => rel ls s t r with
    | none =>
      obtain ⟨t, m, q⟩ := List.any_eq_true.mp h2
      have := List.find?_eq_none.mp e t m
      exact absurd q this
    | some t =>
      obtain ⟨q1, q2, _⟩ := find_least (bk_sorted row) e
      exact ⟨q2, ih q1⟩
theorem least_ne {ls row : List Int} : least ls row ≠ [] ↔ ∃ c, Ch ls row c := by
  unfold least
  cases e : bk ls row with
  | nil =>
    refine ⟨fun h => absurd rfl h, fun ⟨c, h⟩ => ?_⟩
    obtain ⟨s, r, rfl⟩ := h.ne
    have := mem_bk.mpr ⟨r, h⟩
    rw [e] at this; cases this
  | cons s r => exact ⟨fun _ => ⟨_, greedy_ch (by rw [e]; exact List.mem_cons_self)⟩, fun _ h => by cases h⟩
theorem least_ch {ls row : List Int} (h : least ls row ≠ []) : Ch ls row (least ls row) := by
  unfold least at h ⊢
  cases e : bk ls row with
  | nil => rw [e] at h; exact absurd rfl h
  | cons s r => exact greedy_ch (by rw [e]; exact List.mem_cons_self)
theorem Ch.len {ls row c} (h : Ch ls row c) : c.length = row.length + 1 := (ch_iff.mp h).1
theorem Ch.le {ls row c} (h : Ch ls row c) : ∀ s ∈ c, s ≤ ls.length := (ch_iff.mp h).2.1
theorem Ch.rel {ls row c k s t r} (h : Ch ls row c) (e1 : c[k]? = some s) (e2 : c[k + 1]? = some t) (e3 : row[k]? = some r) : LR.rel ls s t r = true := (ch_iff.mp h).2.2 k s t r e1 e2 e3
theorem Ch.at {ls row c} (h : Ch ls row c) {k : Nat} (hk : k ≤ row.length) : ∃ s, c[k]? = some s ∧ s ≤ ls.length := by
  have hl := h.len
  exact ⟨_, List.getElem?_eq_getElem (by omega), h.le _ (List.getElem_mem _)⟩
theorem Ch.mono {ls row c} (h : Ch ls row c) {i j s t : Nat} (e1 : c[i]? = some s) (e2 : c[j]? = some t) (hij : i < j) : s + (j - i) ≤ t := by
  induction hij generalizing t with
  | refl =>
    have hl := h.len
    have hj2 : i + 1 < c.length := (List.getElem?_eq_some_iff.mp e2).1
    have := rel_iff.mp (h.rel e1 e2 (List.getElem?_eq_getElem (by omega)))
    omega
  | @step j hj ih =>
    have hl := h.len
    have hj2 : j + 1 < c.length := (List.getElem?_eq_some_iff.mp e2).1
    have e3 := List.getElem?_eq_getElem (l := c) (i := j) (by omega)
    have := ih e3
    have := rel_iff.mp (h.rel e3 e2 (List.getElem?_eq_getElem (by omega)))
    have : i ≤ j := Nat.le_of_lt hj
    omega
/-- a choice in itself takes all steps -/
theorem Ch.full {ls row c} (h : Ch ls row c) (e : row.length = ls.length) : c = List.range (ls.length + 1) := by
  have hl := h.len
  refine List.ext_getElem (by rw [hl, List.length_range, e]) fun i h1 h2 => ?_
  rw [List.getElem_range]
  have e1 := List.getElem?_eq_getElem h1
  have lo : ∀ (k : Nat) (hk : k < c.length), k ≤ c[k] := fun k hk => by
    by_cases z : k = 0
    · omega
    · have := h.mono (List.getElem?_eq_getElem (l := c) (i := 0) (by omega)) (List.getElem?_eq_getElem hk) (by omega); omega
  have up : c[i] + (row.length - i) ≤ ls.length := by
    have e3 := List.getElem?_eq_getElem (l := c) (i := row.length) (by omega)
    have q := h.le _ (List.mem_of_getElem? e3)
    by_cases z : i = row.length
    · subst z; simpa using q
    · have := h.mono e1 e3 (by omega); omega
  have := lo i h1
  omega
/-! ## turned round -/
/-! ## a longer ladder -/
end LR
set_option Elab.async false
set_option maxRecDepth 100000
set_option linter.all false
set_option maxHeartbeats 4000000
namespace LR
open PySem PySem.Spec PyProof.Rows L2
/-! # rows that a ladder holds: as data -/
/-! ## forwards -/
def nx (ls : List Int) (m : List Nat) (r : Int) : List Nat := (stps ls).filter fun t => m.any fun s => rel ls s t r
/-! ## the law's own least choice: the least of what lies on a choice, place by place -/
end LR
set_option Elab.async false
set_option maxRecDepth 100000
set_option linter.all false
set_option maxHeartbeats 4000000
namespace LR
/-! # reach: the mathematics -/
def rowsL (h : Nat) : Nat → List (List Int)
  | 0 => [[]]
  | c + 1 => (rowsL h c).flatMap fun r => (List.range h).map fun k : Nat => r ++ [1 + (k : Int)]
theorem mem_rowsL {h : Nat} : ∀ {c : Nat} {r : List Int}, r ∈ rowsL h c ↔ r.length = c ∧ ∀ l ∈ r, 1 ≤ l ∧ l ≤ h := by
  intro c
  induction c with
  | zero =>
    intro r
    unfold rowsL
    rw [List.mem_singleton]
    constructor
    · rintro rfl; exact ⟨rfl, fun l h => by cases h⟩
    · rintro ⟨h, _⟩; exact List.length_eq_zero_iff.mp h
  | succ c ih =>
    intro r
    unfold rowsL
    rw [List.mem_flatMap]
    constructor
    · rintro ⟨q, hq, hr⟩
      obtain ⟨k, hk, rfl⟩ := List.mem_map.mp hr
      obtain ⟨a, b⟩ := ih.mp hq
      have hk := List.mem_range.mp hk
      refine ⟨by rw [List.length_append, a]; rfl, fun l hl => ?_⟩
      rcases List.mem_append.mp hl with z | z
      · exact b l z
      · rw [List.mem_singleton] at z; omega
    · rintro ⟨a, b⟩
      rcases List.eq_nil_or_concat r with rfl | ⟨q, x, rfl⟩
      · cases a
      · rw [List.concat_eq_append] at a b ⊢
        obtain ⟨x1, x2⟩ := b x (by simp)
        refine ⟨q, ih.mpr ⟨by simpa using a, fun l hl => b l (List.mem_append_left _ hl)⟩, List.mem_map.mpr ⟨(x - 1).toNat, List.mem_range.mpr (by omega), ?_⟩⟩
        rw [show 1 + (((x - 1).toNat : Nat) : Int) = x by omega]
theorem rowsL_len (h : Nat) : ∀ c, (rowsL h c).length = h ^ c
  | 0 => rfl
  | c + 1 => by
    unfold rowsL
    rw [List.length_flatMap]
    have : ((rowsL h c).map fun r => ((List.range h).map fun k : Nat => r ++ [1 + (k : Int)]).length) = List.replicate (h ^ c) h := by
      rw [← rowsL_len h c]
      refine List.ext_getElem (by simp) fun i a b => by simp
    rw [this, List.sum_replicate_nat, Nat.pow_succ]
theorem rowsL_nodup (h : Nat) : ∀ c, (rowsL h c).Nodup
  | 0 => by unfold rowsL; simp
  | c + 1 => by
    unfold rowsL
    have ih := rowsL_nodup h c
    rw [List.Nodup, List.pairwise_flatMap]
    refine ⟨fun r hr => ?_, ih.imp fun {a b} ne x hx y hy e => ?_⟩
    · rw [List.pairwise_map]
      exact (List.nodup_range (n := h)).imp fun {a b} ne e => by
        have := List.append_cancel_left e
        injection this with e _
        omega
    · obtain ⟨k, _, rfl⟩ := List.mem_map.mp hx
      obtain ⟨j, _, rfl⟩ := List.mem_map.mp hy
      have := List.append_inj_left' e rfl
      exact ne this
def Held (ls r : List Int) : Prop := ∃ c, Ch ls r c
theorem held_iff {ls r : List Int} : Held ls r ↔ least ls r ≠ [] := least_ne.symm
/-- the first row that is lacking -/
def lacks (ls : List Int) (h c : Nat) : Option (List Int) := (rowsL h c).find? fun r => (least ls r).isEmpty
theorem lacks_none {ls h c} : lacks ls h c = none ↔ ∀ r : List Int, r.length = c → (∀ l ∈ r, 1 ≤ l ∧ l ≤ h) → Held ls r := by
  unfold lacks
  rw [List.find?_eq_none]
  constructor
  · intro q r a b
    have := q r (mem_rowsL.mpr ⟨a, b⟩)
    refine held_iff.mpr fun e => this ?_
    rw [e]; rfl
  · intro q r hr e
    obtain ⟨a, b⟩ := mem_rowsL.mp hr
    exact held_iff.mp (q r a b) (List.isEmpty_iff.mp e)
/-- the number of the rows all of which are held -/
structure IsReach (ls : List Int) (h n : Nat) : Prop where
  pos : 1 ≤ n
  all : ∀ c, c < n → lacks ls h c = none
  end_ : lacks ls h n ≠ none
theorem IsReach.one {ls h n m} (a : IsReach ls h n) (b : IsReach ls h m) : n = m := by
  apply Classical.byContradiction
  intro ne
  rcases Nat.lt_or_gt_of_ne ne with q | q
  · exact a.end_ (b.all n q)
  · exact b.end_ (a.all m q)
/-! ## counting -/
def subs : List Nat → List (List Nat)
  | [] => [[]]
  | x :: l => subs l ++ (subs l).map (x :: ·)
theorem subs_len : ∀ l, (subs l).length = 2 ^ l.length
  | [] => rfl
  | x :: l => by rw [subs, List.length_append, List.length_map, subs_len l, List.length_cons, Nat.pow_succ]; omega
theorem subs_nil : ∀ l, [] ∈ subs l
  | [] => List.mem_singleton.mpr rfl
  | _ :: l => List.mem_append_left _ (subs_nil l)
theorem mem_subs : ∀ {l c : List Nat}, l.Pairwise (· < ·) → c.Pairwise (· < ·) → (∀ x ∈ c, x ∈ l) → c ∈ subs l
  | [], c, _, _, h => by
    cases c with
    | nil => exact List.mem_singleton.mpr rfl
    | cons x r => have := h x List.mem_cons_self; cases this
  | x :: l, [], _, _, _ => subs_nil _
  | x :: l, y :: c, hl, hc, h => by
    obtain ⟨l1, l2⟩ := List.pairwise_cons.mp hl
    obtain ⟨c1, c2⟩ := List.pairwise_cons.mp hc
    have gt : ∀ z ∈ c, z ∈ l := fun z hz => by
      have a := c1 z hz
      rcases List.mem_cons.mp (h z (List.mem_cons_of_mem _ hz)) with e | e
      · rcases List.mem_cons.mp (h y List.mem_cons_self) with e2 | e2
        · omega
        · have := l1 y e2; omega
      · exact e
    rcases List.mem_cons.mp (h y List.mem_cons_self) with e | e
    · subst e
      exact List.mem_append_right _ (List.mem_map.mpr ⟨c, mem_subs l2 c2 gt, rfl⟩)
    · exact List.mem_append_left _ (mem_subs l2 hc fun z hz => (List.mem_cons.mp hz).elim (fun q => q ▸ e) (gt z))
theorem Ch.sorted {ls r c} (h : Ch ls r c) : c.Pairwise (· < ·) := List.pairwise_iff_getElem.mpr fun i j a b hij => by
  have := h.mono (List.getElem?_eq_getElem a) (List.getElem?_eq_getElem b) hij
  omega
theorem Ch.row_eq {ls r r' c} (h : Ch ls r c) (k : Ch ls r' c) : r = r' := by
  have a := h.len
  have b := k.len
  refine List.ext_getElem (by omega) fun i h1 h2 => ?_
  have e1 := List.getElem?_eq_getElem (l := c) (i := i) (by omega)
  have e2 := List.getElem?_eq_getElem (l := c) (i := i + 1) (by omega)
  have q1 := (rel_iff.mp (h.rel e1 e2 (List.getElem?_eq_getElem h1))).2
  have q2 := (rel_iff.mp (k.rel e1 e2 (List.getElem?_eq_getElem h2))).2
  omega
theorem count_le {ls : List Int} {h c : Nat} (e : lacks ls h c = none) : h ^ c ≤ 2 ^ (ls.length + 1) := by
  rw [← rowsL_len, ← List.length_range (n := ls.length + 1), ← subs_len, ← List.length_map (f := least ls)]
  have ne : ∀ r ∈ rowsL h c, least ls r ≠ [] := fun r hr => by
    obtain ⟨a, b⟩ := mem_rowsL.mp hr
    exact held_iff.mp (lacks_none.mp e r a b)
  refine List.Nodup.length_le_of_subset ?_ fun x hx => ?_
  · rw [List.Nodup, List.pairwise_map]
    refine List.Pairwise.imp_of_mem (fun {a b} ha hb n q => n ?_) (rowsL_nodup h c)
    have k1 := least_ch (ne a ha)
    have k2 := least_ch (ne b hb)
    rw [q] at k1
    exact k1.row_eq k2
  · obtain ⟨r, hr, rfl⟩ := List.mem_map.mp hx
    have k := least_ch (ne r hr)
    exact mem_subs List.pairwise_lt_range k.sorted fun s hs => List.mem_range.mpr (by have := k.le s hs; omega)
theorem IsReach.size {ls : List Int} {h n c : Nat} (r : IsReach ls h n) (hl : ls.length ≤ 12) (hh : h ≤ 3) (hc : c ≤ n) : h ^ c ≤ 24576 := by
  cases c with
  | zero => rw [Nat.pow_zero]; omega
  | succ c =>
    have a := count_le (r.all c (by omega))
    have b : 2 ^ (ls.length + 1) ≤ 2 ^ 13 := Nat.pow_le_pow_right (by omega) (by omega)
    rw [Nat.pow_succ]
    have d : h ^ c ≤ 8192 := Nat.le_trans a b
    calc h ^ c * h ≤ 8192 * 3 := Nat.mul_le_mul d hh
      _ = 24576 := rfl
/-! ## joined ladders -/
/-- a choice whose steps lie in [lo, hi] -/
def HeldIn (L r : List Int) (lo hi : Nat) : Prop := ∃ c, Ch L r c ∧ ∀ s ∈ c, lo ≤ s ∧ s ≤ hi
theorem HeldIn.held {L r lo hi} (h : HeldIn L r lo hi) : Held L r := let ⟨c, h, _⟩ := h; ⟨c, h⟩
theorem IsReach.held {ls r : List Int} {h n : Nat} (R : IsReach ls h n) (hl : r.length < n) (hr : ∀ l ∈ r, 1 ≤ l ∧ l ≤ h) : Held ls r := lacks_none.mp (R.all _ hl) r rfl hr
theorem IsReach.le {ls : List Int} {h n m : Nat} (R : IsReach ls h n) (all : ∀ r : List Int, r.length < m → (∀ l ∈ r, 1 ≤ l ∧ l ≤ h) → Held ls r) : m ≤ n := by
  apply Classical.byContradiction
  intro c
  exact R.end_ (lacks_none.mpr fun r e hr => all r (by omega) hr)
end LR
set_option Elab.async false
set_option maxRecDepth 100000
set_option linter.all false
set_option maxHeartbeats 4000000
namespace LR
open PySem PySem.Spec PyProof.Rows L2
/-! # paths in a web -/
def es0 (e : List Int) : Int := e.getD 0 0
def es2 (e : List Int) : Int := e.getD 2 0
inductive Wk (es : List (List Int)) (a : Int) : List (List Int) → Int → Prop
  | nil : Wk es a [] a
  | snoc {b : Int} {p : List (List Int)} {e : List Int} (w : Wk es a p b) (m : e ∈ es) (s : es0 e = b) : Wk es a (p ++ [e]) (es2 e)
/-- a path on which no node occurs twice -/
structure Pth (es : List (List Int)) (a : Int) (ks : List Int) (x : Int) (p : List (List Int)) : Prop where
  wk : Wk es a p x
  nd : (p.map es0 ++ [x]).Nodup
  sub : ∀ v ∈ p.map es0, v ∈ ks
def RchI (es : List (List Int)) (a b : Int) : Prop := ∃ p, Wk es a p b
structure SrI (es : List (List Int)) (a n : Int) (ks : List Int) (ps : List (List (List Int))) (i : Nat) : Prop where
  len : ks.length = ps.length
  il : i ≤ ks.length
  nd : ks.Nodup
  hd : a ∈ ks
  bd : ∀ x ∈ ks, 0 ≤ x ∧ x < n
  pt : ∀ (j : Nat) x p, ks[j]? = some x → ps[j]? = some p → Pth es a ks x p
  cl : ∀ (j : Nat) x, j < i → ks[j]? = some x → ∀ e ∈ es, es0 e = x → es2 e ∈ ks
theorem SrI.start {es : List (List Int)} {a n : Int} (h : 0 ≤ a ∧ a < n) : SrI es a n [a] [[]] 0 where
  len := rfl
  il := Nat.zero_le _
  nd := by simp
  hd := List.mem_cons_self
  bd := fun x hx => by rw [List.mem_singleton.mp hx]; exact h
  pt := fun j x p e1 e2 => by
    cases j with
    | zero => cases e1; cases e2; exact ⟨.nil, by simp, fun v hv => by cases hv⟩
    | succ j => cases e1
  cl := fun j x hj => by omega
end LR
set_option Elab.async false
set_option maxRecDepth 100000
set_option linter.all false
set_option maxHeartbeats 4000000
namespace LR
/-! # cycles -/
theorem Wk.mem {es a p b} (w : Wk es a p b) : ∀ e ∈ p, e ∈ es := by
  induction w with
  | nil => exact fun e h => by cases h
  | snoc w m s ih =>
    intro e h
    rcases List.mem_append.mp h with z | z
    · exact ih e z
    · rw [List.mem_singleton.mp z]; exact m
theorem Wk.mono {es es' : List (List Int)} {a p b} (h : ∀ e ∈ es, e ∈ es') (w : Wk es a p b) : Wk es' a p b := by
  induction w with
  | nil => exact .nil
  | snoc w m s ih => exact .snoc ih (h _ m) s
theorem Wk.cons {es : List (List Int)} {e : List Int} {p b} (m : e ∈ es) (w : Wk es (es2 e) p b) : Wk es (es0 e) (e :: p) b := by
  generalize ha : es2 e = a at w
  induction w with
  | nil => subst ha; exact Wk.snoc (p := []) .nil m rfl
  | snoc w m2 s ih => exact Wk.snoc (p := e :: _) ih m2 s
theorem Wk.at_nil {es : List (List Int)} {a b : Int} {p : List (List Int)} (w : Wk es a p b) (h : p = []) : b = a := by
  cases w with
  | nil => rfl
  | snoc w m s => simp at h
theorem Wk.first {es : List (List Int)} {a b : Int} {p : List (List Int)} (w : Wk es a p b) : ∀ e, p[0]? = some e → es0 e = a := by
  induction w with
  | nil => intro e h; cases h
  | @snoc b p e w m s ih =>
    intro f h
    cases p with
    | nil =>
      cases h
      exact s.trans (w.at_nil rfl)
    | cons x p => exact ih f h
theorem RchI.mono {es es' : List (List Int)} {a b} (h : ∀ e ∈ es, e ∈ es') (r : RchI es a b) : RchI es' a b := let ⟨p, w⟩ := r; ⟨p, w.mono h⟩
end LR
set_option Elab.async false
set_option maxRecDepth 100000
set_option linter.all false
set_option maxHeartbeats 4000000
namespace LR
open PySem PySem.Spec PyProof.Rows L2
/-! # rows of edges: equal to themselves, sorted -/
theorem intT_inj {a b : List Int} (h : intT a = intT b) : a = b := by
  have h : a.map D.int = b.map D.int := by injection h
  exact (List.map_inj_right (fun x y e => by injection e)).mp h
theorem strOk_owners (os : List Bool) : PyData.strOk (strO os) = true := by
  unfold PyData.strOk strO
  simp
  exact ⟨fun _ => by decide, fun _ => by decide⟩
theorem prng1_nat {p : PF} {env : List Ev} {n : Nat} (h : p env = some (nat n)) (hn : n ≤ 100000) : (ipRng1 p).p env = some ((List.range n).map nat) := by
  show prng1 p env = _
  unfold prng1
  rw [h]
  show (if (-100000 : Int) ≤ (n : Int) ∧ (n : Int) ≤ 100000 then some (rgD 0 ((n : Int).toNat)) else none) = _
  rw [if_pos (by omega), rgD_nat]
theorem imds_intsL : ∀ l : List Int, imds (l.map .int) = true
  | [] => by simp [imds]
  | x :: l => by rw [List.map_cons, imds, imds_intsL l]; simp [imd]
theorem some_nat {i : Int} {n : Nat} (h : i = n) : some (D.int i) = some (nat n) := by rw [h]
end LR
set_option Elab.async false
set_option maxRecDepth 100000
set_option linter.all false
set_option maxHeartbeats 4000000
namespace LR
open PySem PySem.Spec PyProof.Rows L2
/-! # edges in order: all fit, none twice -/
theorem okn_tupI (n : Nat) (l : List Int) : okn (n + 1) (intT l) = true := by
  rw [okn, List.all_map, List.all_eq_true]; intro x _; cases n <;> rfl
theorem nbn_tupI (l : List Int) : nbn 1 (intT l) = true := by
  rw [nbn, List.all_map, List.all_eq_true]; intro x _; rfl
structure Eds (h n : Int) (es : List (List Int)) : Prop where
  ok : ∀ e ∈ es, EdgeOk h n e
  nd : es.Nodup
theorem Eds.ins {h n : Int} {es : List (List Int)} (E : Eds h n es) {e : List Int} (o : EdgeOk h n e) (m : e ∉ es) (k : Nat) : Eds h n (es.take k ++ [e] ++ es.drop k) := by
  have p : (es.take k ++ [e] ++ es.drop k).Perm (e :: es) := by
    rw [List.append_assoc]
    refine List.Perm.trans List.perm_middle ?_
    show (e :: (es.take k ++ es.drop k)).Perm (e :: es)
    rw [List.take_append_drop]
  refine ⟨fun f hf => ?_, p.nodup_iff.mpr (List.nodup_cons.mpr ⟨m, E.nd⟩)⟩
  rcases List.mem_cons.mp (p.mem_iff.mp hf) with z | z
  · rw [z]; exact o
  · exact E.ok f z
theorem nin_eds (e : List Int) (es : List (List Int)) : ∃ b : Bool, ninD (intT e) (.lst (es.map intT)) = some (.bl b) ∧ (b = true ↔ e ∉ es) := by
  have h := inL_nb (enc := intT) (x := e) (l := es) 1 (okn_tupI 29 _) (fun y _ => okn_tupI 28 y) (nbn_tupI _) (fun y _ => nbn_tupI y) (fun y _ => intT_inj)
  refine ⟨_, (congrArg notO h).trans rfl, ?_⟩
  rw [Bool.not_eq_true', decide_eq_false_iff_not]
theorem ptup3 {p q r : PF} {env : List Ev} {a b c : D} (h1 : p env = some a) (h2 : q env = some b) (h3 : r env = some c) : ptup [p, q, r] env = some (.tup [a, b, c]) := by
  have e : evs [p, q, r] env = some [a, b, c] := by simp [evs, h1, h2, h3]
  unfold ptup
  rw [e]
theorem Eds.snoc {h n : Int} {es : List (List Int)} (E : Eds h n es) {e : List Int} (o : EdgeOk h n e) (m : e ∉ es) : Eds h n (es ++ [e]) := by
  have := E.ins o m es.length
  rwa [List.take_length, List.drop_length, List.append_nil] at this
end LR
set_option Elab.async false
set_option maxRecDepth 100000
set_option linter.all false
set_option maxHeartbeats 4000000
namespace LR
open PySem PySem.Spec PyProof.Rows L2
/-! # games as the laws draw them -/
structure GameIn (h : Int) (os : List Bool) (es : List (List Int)) : Prop where
  sz : 1 ≤ os.length ∧ os.length ≤ 9
  eds : Eds h os.length es
  len : es.length ≤ 63
  out : ∀ v : Nat, v < os.length → ∃ e ∈ es, es0 e = (v : Int)
theorem GameIn.head {h os es} (G : GameIn h os es) : ∀ v : Nat, v < os.length → ∃ e ∈ es, e.head? = some (v : Int) := fun v hv => by
  obtain ⟨e, he, h0⟩ := G.out v hv
  obtain ⟨s, r, t, rfl, _⟩ := G.eds.ok e he
  exact ⟨_, he, congrArg some h0⟩
/-! ## the edges of a row's game -/
theorem strIx {z : Str} {l : List Nat} (e : z.cps.toList = l) (hl : l.length ≤ 1000) {k : Nat} {c : Nat} (h : l[k]? = some c) : ixD (.str z) (.int (k : Int)) = some (.str ⟨#[c]⟩) := by
  have hz : z.length ≤ 100000 := by
    show z.cps.size ≤ _
    rw [← Array.length_toList, e]; omega
  show (if z.length ≤ 100000 then (atI z.cps.toList (k : Int)).map (fun c => D.str ⟨#[c]⟩) else none) = _
  rw [if_pos hz, e, atI_of h]; rfl
theorem GameIn.snoc {h : Int} {os : List Bool} {es : List (List Int)} (G : GameIn h os es) {e : List Int} (o : EdgeOk h os.length e) (m : e ∉ es) (hl : es.length + 1 ≤ 63) : GameIn h os (es ++ [e]) :=
  ⟨G.sz, G.eds.snoc o m, by rw [List.length_append]; exact hl, fun v hv => by
    obtain ⟨f, hf, h0⟩ := G.out v hv
    exact ⟨f, List.mem_append_left _ hf, h0⟩⟩
end LR
set_option Elab.async false
set_option maxRecDepth 100000
set_option linter.all false
set_option maxHeartbeats 4000000
set_option Elab.async false
set_option maxRecDepth 100000
set_option linter.all false
set_option maxHeartbeats 4000000
/-! # super().m(..) in a def that may raise; games and webs that may be refused -/
namespace LR
open PySem PySem.Spec PyProof.Rows L2
section
variable {P : Program} {w : World} {K : PySem.W.Frag} {mg : Str → Option Value} {base : Heap}
theorem MakInC.makX {x qual : Str} {C : Addr} {st : Stmt} {N ps : List Str} {k : Nat} {sp : Sp} (D : MakInC P K mg x C qual st ps) (S : CScope N ps (defScope st)) (len : ∀ vs H Q E, sp vs H Q E → vs.length = ps.length)
    (hbody : ∀ (f cc cda : Addr) (fd : FuncData) (A : Around) (outer : List Env) (s : Shared) (H : Hp) (vs : List V) (Q : VK) (E : XK), SupIn P K mg f cc cda C fd "self" → Room k (A.deeper (PySem.W.ksEnv qual (defScope st) s.heap.objs.size f (.ref cda) cc)) → sp vs H Q E →
      ∃ t, NSs (cxC (L2.CX P w) P w K mg base N qual (defScope st) f (.ref cda) cc A outer s H E) (defBody st) (defBody st) t ∧ t { nx := fun _ H' => Q .non H', rt := Q } (L2.start N vs) H) : MakX P w K mg base (k + 1) x C sp := by
  obtain ⟨f, cc, cda, fd, S1, M, hm, b, oc, od, an, kV, doc, pm, ct, osl, rfl, lk, hcd⟩ := D.ini
  obtain ⟨cl, cld, csl, hcell⟩ := S1.cell
  exact ⟨f, _, ps, M, fn_ofC lk hcell hcd S len (fun A outer s H vs Q E hr h => hbody f cc cda _ A outer s H vs Q E S1 hr h), hm, b⟩
theorem MetInC.metX {m qual : Str} {C : Addr} {st : Stmt} {N ps : List Str} {k : Nat} {sp : Sp} (c : Cls K C) (D : MetInC P K mg C m qual st ps) (S : CScope N ps (defScope st)) (len : ∀ vs H Q E, sp vs H Q E → vs.length = ps.length)
    (hbody : ∀ (f cc cda : Addr) (fd : FuncData) (A : Around) (outer : List Env) (s : Shared) (H : Hp) (vs : List V) (Q : VK) (E : XK), SupIn P K mg f cc cda C fd "self" → Room k (A.deeper (PySem.W.ksEnv qual (defScope st) s.heap.objs.size f (.ref cda) cc)) → sp vs H Q E →
      ∃ t, NSs (cxC (L2.CX P w) P w K mg base N qual (defScope st) f (.ref cda) cc A outer s H E) (defBody st) (defBody st) t ∧ t { nx := fun _ H' => Q .non H', rt := Q } (L2.start N vs) H) : MetX P w K mg base (k + 1) C m sp := by
  obtain ⟨f, cc, cda, fd, S1, M, b, oc, od, an, kV, doc, pm, ct, osl, rfl, lk, hcd⟩ := D.ini
  obtain ⟨cl, cld, csl, hcell⟩ := S1.cell
  exact ⟨f, _, ps, c, M, fn_ofC lk hcell hcd S len (fun A outer s H vs Q E hr h => hbody f cc cda _ A outer s H vs Q E S1 hr h), b⟩
theorem SupAt.toX {m qual name : Str} {C D : Addr} {st : Stmt} {N ps : List Str} {k : Nat} {sp : Sp} (T : SupAt K C D m qual name st ps) (S : FnScope N ps (defScope st)) (len : ∀ vs H Q E, sp vs H Q E → vs.length = ps.length)
    (hbody : ∀ (f : Addr) (cdv : Value) (A : Around) (outer : List Env) (s : Shared) (H : Hp) (vs : List V) (Q : VK) (E : XK), Room k (A.deeper (envOfC qual (defScope st) s.heap.objs.size f cdv)) → sp vs H Q E →
      ∃ t, PSs (cxOf (L2.CX P w) P w K mg base N qual (defScope st) f cdv A outer s H E) (defBody st) t ∧ t { nx := fun _ H' => Q .non H', rt := Q } (L2.start N vs) H) : SupTo P w K mg base (L2.CX P w) (k + 1) C D m sp := by
  obtain ⟨f, fd, s1, s2, s3, F, b⟩ := T.ex
  exact ⟨⟨f, fd, ps, s1, s2, s3, F.okX S len (hbody f), b⟩, T.sub, T.at_⟩
end
/-! ## what is due first -/
inductive WDue where
  | height | size | large | bad (i : Nat) | dup (i : Nat) | fine
def edOk (h n : Int) : List Int → Bool
  | [s, r, t] => decide (0 ≤ s) && decide (s < n) && (decide (0 ≤ t) && decide (t < n)) && (decide (0 ≤ r) && decide (r ≤ 2 * h))
  | _ => false
def edDue (h n : Int) : List (List Int) → Nat → List (List Int) → WDue
  | _, _, [] => .fine
  | seen, i, e :: r => if edOk h n e = false then .bad i else if e ∈ seen then .dup i else edDue h n (seen ++ [e]) (i + 1) r
def webDue (h n : Int) (es : List (List Int)) : WDue :=
  if ¬ (h = 1 ∨ h = 2 ∨ h = 3) then .height else if ¬ (1 ≤ n ∧ n ≤ 9) then .size else if 63 < es.length then .large else edDue h n [] 0 es
theorem edOk_iff {h n : Int} {e : List Int} : edOk h n e = true ↔ EdgeOk h n e := by
  constructor
  · intro k
    match e, k with
    | [s, r, t], k =>
      unfold edOk at k
      simp only [Bool.and_eq_true, decide_eq_true_eq] at k
      exact ⟨s, r, t, rfl, ⟨k.1.1.1, k.1.1.2⟩, ⟨k.2.1, k.2.2⟩, ⟨k.1.2.1, k.1.2.2⟩⟩
  · rintro ⟨s, r, t, rfl, a, b, c⟩
    unfold edOk
    simp only [Bool.and_eq_true, decide_eq_true_eq]
    exact ⟨⟨a, c⟩, b⟩
theorem edDue_fine {h n : Int} : ∀ {es seen : List (List Int)} {i : Nat}, edDue h n seen i es = .fine ↔ (∀ e ∈ es, EdgeOk h n e) ∧ es.Nodup ∧ ∀ e ∈ es, e ∉ seen
  | [], seen, i => ⟨fun _ => ⟨fun _ z => (by cases z), .nil, fun _ z => (by cases z)⟩, fun _ => rfl⟩
  | e :: r, seen, i => by
    unfold edDue
    by_cases a : edOk h n e = false
    · rw [if_pos a]
      refine ⟨fun z => (by cases z), fun z => ?_⟩
      have := edOk_iff.mpr (z.1 e List.mem_cons_self)
      rw [a] at this; cases this
    · rw [if_neg a]
      have a : edOk h n e = true := by cases c : edOk h n e with | true => rfl | false => exact absurd c a
      by_cases b : e ∈ seen
      · rw [if_pos b]
        exact ⟨fun z => (by cases z), fun z => absurd b (z.2.2 e List.mem_cons_self)⟩
      · rw [if_neg b, edDue_fine]
        rw [List.nodup_cons]
        constructor
        · rintro ⟨k1, k2, k3⟩
          refine ⟨fun x hx => ?_, ⟨fun hx => k3 e hx (List.mem_append_right _ List.mem_cons_self), k2⟩, fun x hx => ?_⟩
          · rcases List.mem_cons.mp hx with z | z
            · rw [z]; exact edOk_iff.mp a
            · exact k1 x z
          · rcases List.mem_cons.mp hx with z | z
            · rw [z]; exact b
            · exact fun y => k3 x z (List.mem_append_left _ y)
        · rintro ⟨k1, ⟨k2, k2'⟩, k3⟩
          refine ⟨fun x hx => k1 x (List.mem_cons_of_mem _ hx), k2', fun x hx y => ?_⟩
          rcases List.mem_append.mp y with y | y
          · exact k3 x (List.mem_cons_of_mem _ hx) y
          · rw [List.mem_singleton] at y
            rw [y] at hx; exact k2 hx
theorem edDue_step {h n : Int} {es : List (List Int)} {i : Nat} {e : List Int} (he : es[i]? = some e) : edDue h n (es.take i) i (es.drop i) = if edOk h n e = false then .bad i else if e ∈ es.take i then .dup i else edDue h n (es.take (i + 1)) (i + 1) (es.drop (i + 1)) := by
  have hl := (List.getElem?_eq_some_iff.mp he).1
  have e2 := (List.getElem?_eq_some_iff.mp he).2
  rw [List.drop_eq_getElem_cons hl, e2]
  conv => lhs; unfold edDue
  have : es.take (i + 1) = es.take i ++ [e] := by rw [List.take_succ, he]; rfl
  rw [this]
/-- up to a place nothing is due -/
theorem edDue_far {h n : Int} {es : List (List Int)} : ∀ i, i ≤ es.length → (∀ j e, j < i → es[j]? = some e → edOk h n e = true ∧ e ∉ es.take j) → edDue h n [] 0 es = edDue h n (es.take i) i (es.drop i)
  | 0, _, _ => by rw [List.take_zero, List.drop_zero]
  | i + 1, hi, ok => by
    rw [edDue_far i (by omega) fun j e hj => ok j e (by omega)]
    obtain ⟨e, he⟩ : ∃ e, es[i]? = some e := ⟨_, List.getElem?_eq_getElem (by omega)⟩
    obtain ⟨a, b⟩ := ok i e (by omega) he
    rw [edDue_step he, a, if_neg (by decide), if_neg b]
theorem webDue_fine {h n : Int} {es : List (List Int)} : webDue h n es = .fine ↔ (h = 1 ∨ h = 2 ∨ h = 3) ∧ (1 ≤ n ∧ n ≤ 9) ∧ es.length ≤ 63 ∧ (∀ e ∈ es, EdgeOk h n e) ∧ es.Nodup := by
  unfold webDue
  by_cases a : h = 1 ∨ h = 2 ∨ h = 3
  · rw [if_neg (fun z => z a)]
    by_cases b : 1 ≤ n ∧ n ≤ 9
    · rw [if_neg (fun z => z b)]
      by_cases c : 63 < es.length
      · rw [if_pos c]
        exact ⟨fun z => (by cases z), fun z => absurd z.2.2.1 (by omega)⟩
      · rw [if_neg c, edDue_fine]
        exact ⟨fun z => ⟨a, b, by omega, z.1, z.2.1⟩, fun z => ⟨z.2.2.2.1, z.2.2.2.2, fun _ _ y => (by cases y)⟩⟩
    · rw [if_pos b]
      exact ⟨fun z => (by cases z), fun z => absurd z.2.1 b⟩
  · rw [if_pos a]
    exact ⟨fun z => (by cases z), fun z => absurd z.1 a⟩
inductive GDue where
  | owners | web (d : WDue) | dead (v : Nat) | fine (os : List Bool)
/-- the letters of a text, if all are A or B -/
def ownsOf (s : Str) : Option (List Bool) := s.cps.toList.mapM fun c => if c = 65 then some true else if c = 66 then some false else none
theorem ownsOf_some {s : Str} {os : List Bool} (h : ownsOf s = some os) : s = strO os := by
  unfold ownsOf at h
  cases s with
  | mk cps =>
    have key : ∀ (l : List Nat) (os : List Bool), (l.mapM fun c => if c = 65 then some true else if c = 66 then some false else none) = some os → l = os.map ltr := by
      intro l
      induction l with
      | nil => intro os h; rw [List.mapM_nil] at h; cases h; rfl
      | cons c r ih =>
        intro os h
        rw [List.mapM_cons] at h
        by_cases a : c = 65
        · rw [if_pos a] at h
          cases q : r.mapM (fun c => if c = 65 then some true else if c = 66 then some false else none) with
          | none => rw [q] at h; cases h
          | some os2 =>
            rw [q] at h
            cases h
            rw [List.map_cons, ← ih os2 q, a]; rfl
        · rw [if_neg a] at h
          by_cases b : c = 66
          · rw [if_pos b] at h
            cases q : r.mapM (fun c => if c = 65 then some true else if c = 66 then some false else none) with
            | none => rw [q] at h; cases h
            | some os2 =>
              rw [q] at h
              cases h
              rw [List.map_cons, ← ih os2 q, b]; rfl
          · rw [if_neg b] at h
            cases h
    have := key _ _ h
    unfold strO
    rw [← this]
theorem ownsOf_strO (os : List Bool) : ownsOf (strO os) = some os := by
  unfold ownsOf strO
  rw [List.toList_toArray]
  induction os with
  | nil => rfl
  | cons b r ih =>
    rw [List.map_cons, List.mapM_cons, ih]
    cases b <;> rfl
def deadIn (n : Nat) (es : List (List Int)) : Option Nat := (List.range n).find? fun v => !decide ((v : Int) ∈ es.map fun e => e.headD 0)
def gameDue (h : Int) (s : Str) (es : List (List Int)) : GDue :=
  if ¬ (1 ≤ s.length ∧ s.length ≤ 9) then .owners else match ownsOf s with
    | none => .owners
    | some os => match webDue h os.length es with
      | .fine => (match deadIn os.length es with
        | some v => .dead v
        | none => .fine os)
      | d => .web d
end LR
set_option Elab.async false
set_option maxRecDepth 100000
set_option linter.all false
set_option maxHeartbeats 4000000
namespace LR
open PySem PySem.Spec PyProof.Rows L2
/-! # list(o) for an instance whose class walks over a tuple of its own -/
def spIterD (K : PySem.W.Frag) (C : Addr) (fld : Str) : Sp := fun vs H Q _ => ∃ (x dx te : Addr) (fs : List (Str × V)) (ys : List V), vs = [.ref x] ∧ H x = some (.ins C dx fs) ∧ fs.lookup fld = some (.ref te) ∧ SqT K H te ys ∧ ∀ it, H it = none → Q (.ref it) (upd H it (ItT te it 0))
def listID (C : Addr) (fld : Str) : List D → Option D
  | [.ins C' ks ds] => if C' = C then (match lkD ks ds fld with
    | some (.tup l) => some (.lst l)
    | _ => none) else none
  | _ => none
theorem o_listI {K : PySem.W.Frag} {C : Addr} {fld : Str} : OpN K (rListIt K C (spIterD K C fld) E0) (listID C fld) := ⟨fun {g σ H env vs xs z Q} R i e k => by
  have sb := R.ok.sb
  unfold listID at e
  split at e
  · rename_i C' ks ds
    obtain ⟨v, rfl, i1⟩ := i.one_inv
    split at e
    · rename_i ec
      subst ec
      split at e
      · rename_i l el
        cases e
        cases i1 with
        | ins h kk a cl na =>
          rename_i p dx fs
          subst kk
          obtain ⟨v, lk, iv, _⟩ := lk_is a el
          obtain ⟨te, ys, rfl, hp, ip, zp⟩ := iv.tupE
          have hH := sb _ _ h
          have hT := sb _ _ hp
          refine ⟨p, dx, fs, rfl, hH, fun q hq => ?_⟩
          have s1 : Same H (upd H q (.lst [])) := same_new hq
          refine ⟨p, dx, te, fs, ys, rfl, s1 _ _ hH, lk, SqT.of (s1 _ _ hT), fun it hit => ?_⟩
          have s2 : Same H (upd (upd H q (.lst [])) it (ItT te it 0)) := s1.new hit
          have qi : q ≠ it := ne_of_none upd_same hit
          have hit0 : H it = none := by rw [upd_ne qi.symm] at hit; exact hit
          refine ⟨it, te, ys, dx, fs, rfl, upd_same, SqT.of (s2 _ _ hT), (by rw [upd_ne qi, upd_same]), s2 _ _ hH, ?_⟩
          have e4 : upd (upd (upd (upd H q (.lst [])) it (ItT te it 0)) it (ItZ it)) q (.lst ys) = upd (upd H it (ItZ it)) q (.lst ys) := by
            funext b
            by_cases b1 : b = q
            · subst b1; rw [upd_same, upd_same]
            · by_cases b2 : b = it
              · subst b2; rw [upd_ne b1, upd_same, upd_ne b1, upd_same]
              · rw [upd_ne b1, upd_ne b2, upd_ne b2, upd_ne b1, upd_ne b1, upd_ne b2]
          rw [e4]
          have R1 := R.new (u := ItZ it) hit0
          have hq1 : upd H it (ItZ it) q = none := by rw [upd_ne qi]; exact hq
          refine new_lst R1 (ip.mono (R.le_new hit0).b) zp (fun v' H' g' le R' i' => k v' H' g' ((R.le_new hit0).trans le) R' i') q hq1
      · cases e
    · cases e
  · cases e⟩
end LR
set_option Elab.async false
set_option maxRecDepth 100000
set_option linter.all false
set_option maxHeartbeats 4000000
namespace LR
open PySem PySem.Spec PyProof.Rows L2
/-! # one of two rules; min of three; tuples in order -/
section
variable {K : PySem.W.Frag} {X : Cx} {W : WX} {e : Expr}
def dOr (d1 d2 : DE) : DE := fun env Ed Q => d1 env Ed Q ∨ d2 env Ed Q
theorem qe_alt {d1 d2 : DE} (h1 : QE X W e d1) (h2 : QE X W e d2) : QE X W e (dOr d1 d2) := ⟨fun pins s σ H Q I h => by
  obtain ⟨g, env, Ed, Qd, R, h, kv, kx⟩ := h
  rcases h with h | h
  · exact h1.run pins s σ H Q I ⟨g, env, Ed, Qd, R, h, kv, kx⟩
  · exact h2.run pins s σ H Q I ⟨g, env, Ed, Qd, R, h, kv, kx⟩⟩
def orN (f1 f2 : List D → Option D) : List D → Option D := fun xs => match f1 xs with
  | some z => some z
  | none => f2 xs
theorem OpN.or {r1 r2 : List V → Hp → VK → Prop} {f1 f2} (h1 : OpN K r1 f1) (h2 : OpN K r2 f2) : OpN K (fun xs H Q => r1 xs H Q ∨ r2 xs H Q) (orN f1 f2) := ⟨fun {g σ H env vs xs z Q} R i e k => by
  unfold orN at e
  split at e
  · rename_i z' ez
    cases e
    exact .inl (h1.ok R i ez k)
  · exact .inr (h2.ok R i e k)⟩
theorem OpN.or1 {r : List V → Hp → VK → Prop} {f1 f2} (h1 : OpN K r f1) (h2 : OpN K r f2) : OpN K r (orN f1 f2) := ⟨fun {g σ H env vs xs z Q} R i e k => by
  unfold orN at e
  split at e
  · rename_i z' ez
    cases e
    exact h1.ok R i ez k
  · exact h2.ok R i e k⟩
/-- isinstance of an instance of the class at C, the class at D -/
def isiOD2 (C D' : Addr) (b : Bool) : List D → Option D
  | [.ins C' _ _, .cls C''] => if C' = C ∧ C'' = D' then some (.bl b) else none
  | _ => none
theorem o_isiO2 {C D' : Addr} {b : Bool} (cl : Cls K C) (ai : PySem.W.findIn K (.ref C) "__class__" = some (some (.builtin "object.__class__"))) (O : ObjC K) (mo : PySem.W.mroIn K C (.type "object") = some true) (kit : PySem.W.kitOne K (.ref C) (.ref D') = some b) : OpN K (rIsi K) (isiOD2 C D' b) := ⟨fun {g σ H env vs xs z Q} R i e k => by
  unfold isiOD2 at e
  split at e
  · split at e
    · rename_i h
      obtain ⟨rfl, rfl⟩ := h
      cases e
      obtain ⟨v, u, rfl, i1, j1⟩ := i.two_inv
      cases j1
      cases i1 with
      | ins hp kk a cl' na => exact ⟨_, _, _, _, b, rfl, .own _, .base (.ins (R.ok.sb _ _ hp) cl ai O.gt O.tk mo), kit, k _ _ _ .rfl R (.bl b)⟩
    · cases e
  · cases e⟩
def min3D : List D → Option D
  | [.int a, .int b, .int c] => some (.int (if c < (if b < a then b else a) then c else (if b < a then b else a)))
  | _ => none
theorem o_min3 : OpN K (rNuC3 nuMin3) min3D := ⟨fun {g σ H env vs xs z Q} R i e k => by
  unfold min3D at e
  split at e
  · rename_i a b c
    cases e
    cases i with
    | cons i1 t =>
      cases t with
      | cons i2 t =>
        cases t with
        | cons i3 t =>
          cases t
          cases i1; cases i2; cases i3
          refine ⟨_, _, _, _, rfl, ?_, k _ _ _ .rfl R (.int _)⟩
          show ((nuLt (.int b) (.int a)).map _).bind _ = _
          have e1 : ∀ x y : Int, nuLt (.int x) (.int y) = some (decide (x < y)) := fun x y => rfl
          rw [e1]
          show (nuLt (.int c) (if decide (b < a) = true then V.int b else V.int a)).map _ = _
          by_cases p : b < a
          · rw [decide_eq_true p, if_pos rfl, e1, if_pos p]
            by_cases q : c < b
            · rw [decide_eq_true q, if_pos q]; rfl
            · rw [decide_eq_false q, if_neg q]; rfl
          · rw [decide_eq_false p, if_neg (by decide), e1, if_neg p]
            by_cases q : c < a
            · rw [decide_eq_true q, if_pos q]; rfl
            · rw [decide_eq_false q, if_neg q]; rfl
  · cases e⟩
def intsO : List D → Option (List Int)
  | [] => some []
  | .int i :: r => (intsO r).map (i :: ·)
  | _ :: _ => none
theorem intsO_map : ∀ l : List Int, intsO (l.map D.int) = some l
  | [] => rfl
  | x :: r => by show (intsO (r.map D.int)).map _ = _; rw [intsO_map r]; rfl
theorem iss_intsO {B : Hp} : ∀ {l : List D} {xs : List V} {ns : List Int}, Iss K B xs l → intsO l = some ns → xs = ns.map V.int
  | [], _, _, i, h => by cases h; cases i; rfl
  | d :: l, xs, ns, i, h => by
    cases i with
    | cons a t =>
      cases d with
      | int x =>
        obtain ⟨zs, hz, rfl⟩ := Option.map_eq_some_iff.mp h
        rw [List.map_cons, ← iss_intsO t hz]
        cases a; rfl
      | _ => cases h
def ltA : D → D → Option D
  | .tup a, .tup b => (match intsO a, intsO b with
    | some ns, some ms => some (.bl (HT.lexLt ns ms))
    | _, _ => none)
  | _, _ => none
theorem o_ltA : Op2 K (rLtT K) ltA := ⟨fun {g σ H env v u x y z Q} R i j e k => by
  have sb := R.ok.sb
  unfold ltA at e
  split at e
  · rename_i a b
    split at e
    · rename_i ns ms en em
      cases e
      obtain ⟨p, xs, rfl, hp, ip, zp⟩ := i.tupE
      obtain ⟨q, ys, rfl, hq, iq, zq⟩ := j.tupE
      have e1 := iss_intsO ip en
      have e2 := iss_intsO iq em
      subst e1 e2
      exact ⟨p, q, ns, ms, rfl, rfl, SqT.of (sb _ _ hp), SqT.of (sb _ _ hq), k _ _ _ .rfl R (.bl _)⟩
    · cases e
  · cases e⟩
theorem ltA_ints (a b : List Int) : ltA (intT a) (intT b) = some (.bl (HT.lexLt a b)) := by
  show (match intsO (a.map D.int), intsO (b.map D.int) with
    | some ns, some ms => some (D.bl (HT.lexLt ns ms))
    | _, _ => none) = _
  rw [intsO_map, intsO_map]
end
end LR
set_option Elab.async false
set_option maxRecDepth 100000
set_option linter.all false
set_option maxHeartbeats 4000000
namespace LR
open PySem PySem.Spec PyProof.Rows L2
/-! # a fresh list of what is fresh, out of a call that reads what one owns -/
mutual
def imo : Ow → Bool
  | .ls l => imds l
  | .da x => imd x
  | .tr ts => imos ts
  | .dk _ _ => false
  | .tu _ => false
def imos : List Ow → Bool
  | [] => true
  | t :: ts => imo t && imos ts
end
section
variable {K : PySem.W.Frag} {B B' H : Hp}
mutual
theorem OwIs.less (s : ∀ p o, B p = some o → Imm o → B' p = some o) : ∀ {v o fs}, OwIs K B H v o fs → imo o = true → OwIs K B' H v o fs
  | _, _, _, .l h i z, e => .l h (i.less s (by rw [imo] at e; exact e)) z
  | _, _, _, .dk h q i z, e => by rw [imo] at e; cases e
  | _, _, _, .da i, e => .da (i.less s (by rw [imo] at e; exact e))
  | _, _, _, .tr h a z, e => .tr h (a.less s (by rw [imo] at e; exact e)) z
  | _, _, _, .tu h a z, e => by rw [imo] at e; cases e
theorem OwIss.less (s : ∀ p o, B p = some o → Imm o → B' p = some o) : ∀ {v o fs}, OwIss K B H v o fs → imos o = true → OwIss K B' H v o fs
  | _, _, _, .nil, _ => .nil
  | _, _, _, .cons h r, e => by
    rw [imos, Bool.and_eq_true] at e
    exact .cons (h.less s e.1) (r.less s e.2)
end
end
section
variable {X : Cx} {W : WX} {e : Expr}
def dLoanFT (d : DE) : DE := fun env Ed Q => d (un env) Ed fun r => ∃ o, r = .fr o ∧ imo o = true ∧ Q (.fr o)
theorem qe_loanFT {d : DE} (h : QE X W e d) : QE X W e (dLoanFT d) := PE.mono h fun σ H Q ⟨g, env, Ed, Qd, R, h, kv, kx⟩ => by
  refine lift.use R.lend h (fun v r H1 g1 l1 R1 i1 ⟨o, er, sx, q⟩ => ?_) (kx_unlend R kx)
  subst er
  obtain ⟨l3, R3, im, _⟩ := R.unlend l1 R1
  obtain ⟨fs, oa, ns⟩ := i1
  refine kv _ (.fr o) H1 _ l3 R3 ⟨fs, ⟨oa.is_.less im sx, oa.nd, fun a m => ?_, fun _ h => by cases h⟩, fun j a m h => ?_⟩ q
  · have pp := oa.pv a m
    refine ⟨?_, pp.nm, pp.n0, pp.np⟩
    by_cases c : ∃ i, a ∈ g.F i
    · exact unlent_own c
    · rw [unlent_not c]; exact pp.nb
  · have pp := oa.pv a m
    obtain ⟨u, _, e2⟩ := R.lentAt l1 ⟨j, h⟩
    rw [pp.nb] at e2; cases e2
end
end LR
set_option Elab.async false
set_option maxRecDepth 100000
set_option linter.all false
namespace LR
open PySem PySem.W PySem.Calls PyProof.Rows
/-! # the head: the top's run over the heap as a tree -/
theorem ob_tree {K : Params → Frag} {as : List Addr} {e : ∀ P, as = (K P).map (·.1)} (s : SharedT) : as.map (HandSHeadRun.getT s) = (kHook K as e).obs s.abs :=
  List.map_congr_left fun a _ => HandSHeadRun.getT_eq s a
end LR
set_option Elab.async false
set_option maxRecDepth 100000
set_option linter.all false
set_option maxHeartbeats 4000000
namespace LR
open PySem PySem.Spec PyProof.Rows L2
def topS (i : Nat) : Stmt := PySem.Challenge.pw_ladderreach_k01_web_and_game_refusals.main.body.getD i (.Pass ⟨0, 0, 0, 0⟩)
abbrev s_check_height : Stmt := topS 14
abbrev N_check_height : List Str := ["height"]
theorem sc_check_height : FnScope N_check_height ["height"] (defScope s_check_height) := ⟨rfl, rfl, rfl, by decide +kernel, rfl, by decide +kernel, by decide +kernel⟩
abbrev s_check_count : Stmt := topS 15
abbrev N_check_count : List Str := ["count", "most"]
theorem sc_check_count : FnScope N_check_count ["count", "most"] (defScope s_check_count) := ⟨rfl, rfl, rfl, by decide +kernel, rfl, by decide +kernel, by decide +kernel⟩
abbrev s__check_edges : Stmt := topS 19
abbrev N__check_edges : List Str := ["height", "size", "edges", "seen", "index", "edge", "source", "rank", "target"]
theorem sc__check_edges : FnScope N__check_edges ["height", "size", "edges"] (defScope s__check_edges) := ⟨rfl, rfl, rfl, by decide +kernel, rfl, by decide +kernel, by decide +kernel⟩
abbrev s__check_owners : Stmt := topS 22
abbrev N__check_owners : List Str := ["owners", "owner"]
theorem sc__check_owners : FnScope N__check_owners ["owners"] (defScope s__check_owners) := ⟨rfl, rfl, rfl, by decide +kernel, rfl, by decide +kernel, by decide +kernel⟩
abbrev s__check_dead_ends : Stmt := topS 23
abbrev N__check_dead_ends : List Str := ["size", "edges", "sources", "edge", "node"]
theorem sc__check_dead_ends : FnScope N__check_dead_ends ["size", "edges"] (defScope s__check_dead_ends) := ⟨rfl, rfl, rfl, by decide +kernel, rfl, by decide +kernel, by decide +kernel⟩
abbrev s_pool : Stmt := topS 25
abbrev N_pool : List Str := ["script", "k", "cell"]
theorem sc_pool : FnScope N_pool ["script", "k"] (defScope s_pool) := ⟨rfl, rfl, rfl, by decide +kernel, rfl, by decide +kernel, by decide +kernel⟩
abbrev s_draw : Stmt := topS 26
abbrev N_draw : List Str := ["pool", "many", "value", "mixed"]
theorem sc_draw : FnScope N_draw ["pool", "many"] (defScope s_draw) := ⟨rfl, rfl, rfl, by decide +kernel, rfl, by decide +kernel, by decide +kernel⟩
abbrev s_owners : Stmt := topS 27
abbrev N_owners : List Str := ["pool", "size", "letters", "index"]
theorem sc_owners : FnScope N_owners ["pool", "size"] (defScope s_owners) := ⟨rfl, rfl, rfl, by decide +kernel, rfl, by decide +kernel, by decide +kernel⟩
abbrev s_number : Stmt := topS 28
abbrev N_number : List Str := ["value"]
theorem sc_number : FnScope N_number ["value"] (defScope s_number) := ⟨rfl, rfl, rfl, by decide +kernel, rfl, by decide +kernel, by decide +kernel⟩
abbrev s_is_edge : Stmt := topS 29
abbrev N_is_edge : List Str := ["edge"]
theorem sc_is_edge : FnScope N_is_edge ["edge"] (defScope s_is_edge) := ⟨rfl, rfl, rfl, by decide +kernel, rfl, by decide +kernel, by decide +kernel⟩
abbrev s_spoilt_letters : Stmt := topS 30
abbrev N_spoilt_letters : List Str := ["pool", "letters", "signs", "index", "at"]
theorem sc_spoilt_letters : FnScope N_spoilt_letters ["pool", "letters"] (defScope s_spoilt_letters) := ⟨rfl, rfl, rfl, by decide +kernel, rfl, by decide +kernel, by decide +kernel⟩
abbrev s_any_count : Stmt := topS 31
abbrev N_any_count : List Str := ["pool", "near", "far"]
theorem sc_any_count : FnScope N_any_count ["pool", "near", "far"] (defScope s_any_count) := ⟨rfl, rfl, rfl, by decide +kernel, rfl, by decide +kernel, by decide +kernel⟩
abbrev s_beyond : Stmt := topS 32
abbrev N_beyond : List Str := ["pool", "many", "further"]
theorem sc_beyond : FnScope N_beyond ["pool", "many"] (defScope s_beyond) := ⟨rfl, rfl, rfl, by decide +kernel, rfl, by decide +kernel, by decide +kernel⟩
abbrev s_one_edge : Stmt := topS 33
abbrev N_one_edge : List Str := ["pool", "top", "size", "edges", "edge", "fault"]
theorem sc_one_edge : FnScope N_one_edge ["pool", "top", "size", "edges"] (defScope s_one_edge) := ⟨rfl, rfl, rfl, by decide +kernel, rfl, by decide +kernel, by decide +kernel⟩
abbrev s_many_edges : Stmt := topS 34
abbrev N_many_edges : List Str := ["pool", "top", "size", "edges", "goal", "longer", "k", "ranks", "total", "base", "numbers"]
theorem sc_many_edges : FnScope N_many_edges ["pool", "top", "size", "edges"] (defScope s_many_edges) := ⟨rfl, rfl, rfl, by decide +kernel, rfl, by decide +kernel, by decide +kernel⟩
abbrev s_all_edges : Stmt := topS 35
abbrev N_all_edges : List Str := ["pool", "top", "size", "faulty", "count", "edges", "index", "edge", "node"]
theorem sc_all_edges : FnScope N_all_edges ["pool", "top", "size"] (defScope s_all_edges) := ⟨rfl, rfl, rfl, by decide +kernel, rfl, by decide +kernel, by decide +kernel⟩
abbrev s_due_for_edges : Stmt := topS 36
abbrev N_due_for_edges : List Str := ["height", "size", "edges", "bad", "doubles", "k", "edge"]
theorem sc_due_for_edges : FnScope N_due_for_edges ["height", "size", "edges"] (defScope s_due_for_edges) := ⟨rfl, rfl, rfl, by decide +kernel, rfl, by decide +kernel, by decide +kernel⟩
abbrev s_due_for_web : Stmt := topS 37
abbrev N_due_for_web : List Str := ["height", "size", "edges"]
theorem sc_due_for_web : FnScope N_due_for_web ["height", "size", "edges"] (defScope s_due_for_web) := ⟨rfl, rfl, rfl, by decide +kernel, rfl, by decide +kernel, by decide +kernel⟩
abbrev s_due_for_game : Stmt := topS 38
abbrev N_due_for_game : List Str := ["height", "letters", "edges", "strange", "letter", "due", "node", "edge"]
theorem sc_due_for_game : FnScope N_due_for_game ["height", "letters", "edges"] (defScope s_due_for_game) := ⟨rfl, rfl, rfl, by decide +kernel, rfl, by decide +kernel, by decide +kernel⟩
abbrev s_game : Stmt := topS 39
abbrev N_game : List Str := ["height", "letters", "edges", "made", "place", "kinds", "e"]
theorem sc_game : FnScope N_game ["height", "letters", "edges"] (defScope s_game) := ⟨rfl, rfl, rfl, by decide +kernel, rfl, by decide +kernel, by decide +kernel⟩
abbrev s_web : Stmt := topS 40
abbrev N_web : List Str := ["height", "size", "edges", "made", "place", "kinds", "e"]
theorem sc_web : FnScope N_web ["height", "size", "edges"] (defScope s_web) := ⟨rfl, rfl, rfl, by decide +kernel, rfl, by decide +kernel, by decide +kernel⟩
abbrev s_refused_as : Stmt := topS 41
abbrev N_refused_as : List Str := ["answer", "due", "names", "kinds", "name"]
theorem sc_refused_as : FnScope N_refused_as ["answer", "due"] (defScope s_refused_as) := ⟨rfl, rfl, rfl, by decide +kernel, rfl, by decide +kernel, by decide +kernel⟩
abbrev s_in_order : Stmt := topS 42
abbrev N_in_order : List Str := ["answer", "edges", "edge", "k"]
theorem sc_in_order : FnScope N_in_order ["answer", "edges"] (defScope s_in_order) := ⟨rfl, rfl, rfl, by decide +kernel, rfl, by decide +kernel, by decide +kernel⟩
abbrev s_keeps : Stmt := topS 43
abbrev N_keeps : List Str := ["made", "height", "size", "edges"]
theorem sc_keeps : FnScope N_keeps ["made", "height", "size", "edges"] (defScope s_keeps) := ⟨rfl, rfl, rfl, by decide +kernel, rfl, by decide +kernel, by decide +kernel⟩
abbrev s_law : Stmt := topS 44
abbrev N_law : List Str := ["script", "pool", "height", "count", "letters", "size", "way", "edges", "given", "game", "web", "due"]
theorem sc_law : FnScope N_law ["script"] (defScope s_law) := ⟨rfl, rfl, rfl, by decide +kernel, rfl, by decide +kernel, by decide +kernel⟩
abbrev s_W_init : Stmt := inClass (topS 18) 2
abbrev N_W_init : List Str := ["self", "height", "size", "edges"]
theorem sc_W_init : FnScope N_W_init ["self", "height", "size", "edges"] (defScope s_W_init) := ⟨rfl, rfl, rfl, by decide +kernel, rfl, by decide +kernel, by decide +kernel⟩
abbrev s_W_iter : Stmt := inClass (topS 18) 3
abbrev N_W_iter : List Str := ["self"]
theorem sc_W_iter : FnScope N_W_iter ["self"] (defScope s_W_iter) := ⟨rfl, rfl, rfl, by decide +kernel, rfl, by decide +kernel, by decide +kernel⟩
abbrev s_G_init : Stmt := inClass (topS 21) 0
abbrev N_G_init : List Str := ["self", "height", "owners", "edges"]
theorem csc_G_init : CScope N_G_init ["self", "height", "owners", "edges"] (defScope s_G_init) := ⟨rfl, rfl, rfl, by decide +kernel, rfl, by decide +kernel, by decide +kernel, by decide +kernel⟩
abbrev s_G_iter : Stmt := inClass (topS 21) 2
abbrev N_G_iter : List Str := ["self"]
theorem sc_G_iter : FnScope N_G_iter ["self"] (defScope s_G_iter) := ⟨rfl, rfl, rfl, by decide +kernel, rfl, by decide +kernel, by decide +kernel⟩
abbrev s_BadEdge_init : Stmt := inClass (topS 8) 0
abbrev N_BadEdge_init : List Str := ["self", "index"]
theorem csc_BadEdge_init : CScope N_BadEdge_init ["self", "index"] (defScope s_BadEdge_init) := ⟨rfl, rfl, rfl, by decide +kernel, rfl, by decide +kernel, by decide +kernel, by decide +kernel⟩
abbrev s_DuplicateEdge_init : Stmt := inClass (topS 9) 0
abbrev N_DuplicateEdge_init : List Str := ["self", "index"]
theorem csc_DuplicateEdge_init : CScope N_DuplicateEdge_init ["self", "index"] (defScope s_DuplicateEdge_init) := ⟨rfl, rfl, rfl, by decide +kernel, rfl, by decide +kernel, by decide +kernel, by decide +kernel⟩
abbrev s_DeadEnd_init : Stmt := inClass (topS 10) 0
abbrev N_DeadEnd_init : List Str := ["self", "node"]
theorem csc_DeadEnd_init : CScope N_DeadEnd_init ["self", "node"] (defScope s_DeadEnd_init) := ⟨rfl, rfl, rfl, by decide +kernel, rfl, by decide +kernel, by decide +kernel, by decide +kernel⟩
structure Cs where
  Web : Addr
  Game : Addr
  BadEdge : Addr
  DuplicateEdge : Addr
  DeadEnd : Addr
  BadSize : Addr
  TooLarge : Addr
  BadHeight : Addr
  BadOwners : Addr
  LadderreachError : Addr
  GameError : Addr
  OutOfRange : Addr
structure Txt (P : Program) (K : PySem.W.Frag) (mg : Str → Option Value) (ζ : Cs) : Prop where
  n_len : mg "len" = none
  n_abs : mg "abs" = none
  n_max : mg "max" = none
  n_min : mg "min" = none
  n_isinstance : mg "isinstance" = none
  n_int : mg "int" = none
  n_bool : mg "bool" = none
  n_str : mg "str" = none
  n_list : mg "list" = none
  n_tuple : mg "tuple" = none
  n_range : mg "range" = none
  n_enumerate : mg "enumerate" = none
  n_iter : mg "iter" = none
  n_set : mg "set" = none
  n_sorted : mg "sorted" = none
  n_any : mg "any" = none
  n_all : mg "all" = none
  n_ValueError : mg "ValueError" = none
  objc : ObjC K
  d_check_height : DefIn K mg "check_height" s_check_height ["height"]
  d_check_count : DefIn K mg "check_count" s_check_count ["count", "most"]
  d__check_edges : DefIn K mg "_check_edges" s__check_edges ["height", "size", "edges"]
  d__check_owners : DefIn K mg "_check_owners" s__check_owners ["owners"]
  d__check_dead_ends : DefIn K mg "_check_dead_ends" s__check_dead_ends ["size", "edges"]
  d_pool : DefIn K mg "_law_pool" s_pool ["script", "k"]
  d_draw : DefIn K mg "_law_draw" s_draw ["pool", "many"]
  d_owners : DefIn K mg "_law_owners" s_owners ["pool", "size"]
  d_number : DefIn K mg "_law_number" s_number ["value"]
  d_is_edge : DefIn K mg "_law_is_edge" s_is_edge ["edge"]
  d_spoilt_letters : DefIn K mg "_law_spoilt_letters" s_spoilt_letters ["pool", "letters"]
  d_any_count : DefIn K mg "_law_any_count" s_any_count ["pool", "near", "far"]
  d_beyond : DefIn K mg "_law_beyond" s_beyond ["pool", "many"]
  d_one_edge : DefIn K mg "_law_one_edge" s_one_edge ["pool", "top", "size", "edges"]
  d_many_edges : DefIn K mg "_law_many_edges" s_many_edges ["pool", "top", "size", "edges"]
  d_all_edges : DefIn K mg "_law_all_edges" s_all_edges ["pool", "top", "size"]
  d_due_for_edges : DefIn K mg "_law_due_for_edges" s_due_for_edges ["height", "size", "edges"]
  d_due_for_web : DefIn K mg "_law_due_for_web" s_due_for_web ["height", "size", "edges"]
  d_due_for_game : DefIn K mg "_law_due_for_game" s_due_for_game ["height", "letters", "edges"]
  d_game : DefIn K mg "_law_game" s_game ["height", "letters", "edges"]
  d_web : DefIn K mg "_law_web" s_web ["height", "size", "edges"]
  d_refused_as : DefIn K mg "_law_refused_as" s_refused_as ["answer", "due"]
  d_in_order : DefIn K mg "_law_in_order" s_in_order ["answer", "edges"]
  d_keeps : DefIn K mg "_law_keeps" s_keeps ["made", "height", "size", "edges"]
  d_law : DefIn K mg "law" s_law ["script"]
  cl_Web : Cls K ζ.Web
  mg_Web : mg "Web" = some (.ref ζ.Web)
  na_Web_height : NoAttr K ζ.Web "height"
  na_Web_size : NoAttr K ζ.Web "size"
  na_Web_edges : NoAttr K ζ.Web "edges"
  na_Web___len__ : NoAttr K ζ.Web "__len__"
  na_Web___length_hint__ : NoAttr K ζ.Web "__length_hint__"
  mk_Web : MakIn K mg "Web" ζ.Web "Web.__init__" s_W_init ["self", "height", "size", "edges"]
  mt_W_iter : MetIn K ζ.Web "__iter__" "Web.__iter__" s_W_iter ["self"]
  cv_Web_MOST_NODES : ∃ mc u, ClX.CRead K ζ.Web mc ∧ ClX.CVal K ζ.Web mc "MOST_NODES" (.int 9) u
  cv_Web_MOST_EDGES : ∃ mc u, ClX.CRead K ζ.Web mc ∧ ClX.CVal K ζ.Web mc "MOST_EDGES" (.int 63) u
  cl_Game : Cls K ζ.Game
  mg_Game : mg "Game" = some (.ref ζ.Game)
  na_Game_height : NoAttr K ζ.Game "height"
  na_Game_size : NoAttr K ζ.Game "size"
  na_Game_edges : NoAttr K ζ.Game "edges"
  na_Game_owners : NoAttr K ζ.Game "owners"
  na_Game___len__ : NoAttr K ζ.Game "__len__"
  na_Game___length_hint__ : NoAttr K ζ.Game "__length_hint__"
  mk_Game : MakInC P K mg "Game" ζ.Game "Game.__init__" s_G_init ["self", "height", "owners", "edges"]
  mt_G_iter : MetIn K ζ.Game "__iter__" "Game.__iter__" s_G_iter ["self"]
  su_Game_init : SupAt K ζ.Game ζ.Game "__init__" "Web.__init__" "__init__" s_W_init ["self", "height", "size", "edges"]
  e_BadEdge : ErrIn P K mg "BadEdge" ζ.BadEdge "BadEdge.__init__" s_BadEdge_init "index"
  mg_BadEdge : mg "BadEdge" = some (.ref ζ.BadEdge)
  e_DuplicateEdge : ErrIn P K mg "DuplicateEdge" ζ.DuplicateEdge "DuplicateEdge.__init__" s_DuplicateEdge_init "index"
  mg_DuplicateEdge : mg "DuplicateEdge" = some (.ref ζ.DuplicateEdge)
  e_DeadEnd : ErrIn P K mg "DeadEnd" ζ.DeadEnd "DeadEnd.__init__" s_DeadEnd_init "node"
  mg_DeadEnd : mg "DeadEnd" = some (.ref ζ.DeadEnd)
  mg_BadSize : mg "BadSize" = some (.ref ζ.BadSize)
  r_BadSize : RseIn K mg "BadSize" ζ.BadSize
  mg_TooLarge : mg "TooLarge" = some (.ref ζ.TooLarge)
  r_TooLarge : RseIn K mg "TooLarge" ζ.TooLarge
  mg_BadHeight : mg "BadHeight" = some (.ref ζ.BadHeight)
  r_BadHeight : RseIn K mg "BadHeight" ζ.BadHeight
  mg_BadOwners : mg "BadOwners" = some (.ref ζ.BadOwners)
  r_BadOwners : RseIn K mg "BadOwners" ζ.BadOwners
  ai_Web : PySem.W.findIn K (.ref ζ.Web) "__class__" = some (some (.builtin "object.__class__"))
  mo_Web : PySem.W.mroIn K ζ.Web (.type "object") = some true
  ai_Game : PySem.W.findIn K (.ref ζ.Game) "__class__" = some (some (.builtin "object.__class__"))
  mo_Game : PySem.W.mroIn K ζ.Game (.type "object") = some true
  kit_Web_Web : PySem.W.kitOne K (.ref ζ.Web) (.ref ζ.Web) = some true
  kit_Game_Web : PySem.W.kitOne K (.ref ζ.Game) (.ref ζ.Web) = some true
  kit_Game_Game : PySem.W.kitOne K (.ref ζ.Game) (.ref ζ.Game) = some true
  mg_LadderreachError : mg "LadderreachError" = some (.ref ζ.LadderreachError)
  mg_GameError : mg "GameError" = some (.ref ζ.GameError)
  mg_OutOfRange : mg "OutOfRange" = some (.ref ζ.OutOfRange)
  kit_BadHeight_BadHeight : PySem.W.kitOne K (.ref ζ.BadHeight) (.ref ζ.BadHeight) = some true
  kit_BadHeight_BadSize : PySem.W.kitOne K (.ref ζ.BadHeight) (.ref ζ.BadSize) = some false
  kit_BadHeight_TooLarge : PySem.W.kitOne K (.ref ζ.BadHeight) (.ref ζ.TooLarge) = some false
  kit_BadHeight_BadOwners : PySem.W.kitOne K (.ref ζ.BadHeight) (.ref ζ.BadOwners) = some false
  kit_BadHeight_BadEdge : PySem.W.kitOne K (.ref ζ.BadHeight) (.ref ζ.BadEdge) = some false
  kit_BadHeight_DuplicateEdge : PySem.W.kitOne K (.ref ζ.BadHeight) (.ref ζ.DuplicateEdge) = some false
  kit_BadHeight_DeadEnd : PySem.W.kitOne K (.ref ζ.BadHeight) (.ref ζ.DeadEnd) = some false
  kit_BadHeight_GameError : PySem.W.kitOne K (.ref ζ.BadHeight) (.ref ζ.GameError) = some false
  kit_BadHeight_OutOfRange : PySem.W.kitOne K (.ref ζ.BadHeight) (.ref ζ.OutOfRange) = some false
  kit_BadHeight_ValueError : PySem.W.kitOne K (.ref ζ.BadHeight) (.type "ValueError") = some true
  exm_BadHeight_LadderreachError : PySem.W.exmOne K (.ref ζ.BadHeight) (.ref ζ.LadderreachError) = some true
  kit_BadSize_BadHeight : PySem.W.kitOne K (.ref ζ.BadSize) (.ref ζ.BadHeight) = some false
  kit_BadSize_BadSize : PySem.W.kitOne K (.ref ζ.BadSize) (.ref ζ.BadSize) = some true
  kit_BadSize_TooLarge : PySem.W.kitOne K (.ref ζ.BadSize) (.ref ζ.TooLarge) = some false
  kit_BadSize_BadOwners : PySem.W.kitOne K (.ref ζ.BadSize) (.ref ζ.BadOwners) = some false
  kit_BadSize_BadEdge : PySem.W.kitOne K (.ref ζ.BadSize) (.ref ζ.BadEdge) = some false
  kit_BadSize_DuplicateEdge : PySem.W.kitOne K (.ref ζ.BadSize) (.ref ζ.DuplicateEdge) = some false
  kit_BadSize_DeadEnd : PySem.W.kitOne K (.ref ζ.BadSize) (.ref ζ.DeadEnd) = some false
  kit_BadSize_GameError : PySem.W.kitOne K (.ref ζ.BadSize) (.ref ζ.GameError) = some false
  kit_BadSize_OutOfRange : PySem.W.kitOne K (.ref ζ.BadSize) (.ref ζ.OutOfRange) = some false
  kit_BadSize_ValueError : PySem.W.kitOne K (.ref ζ.BadSize) (.type "ValueError") = some true
  exm_BadSize_LadderreachError : PySem.W.exmOne K (.ref ζ.BadSize) (.ref ζ.LadderreachError) = some true
  kit_TooLarge_BadHeight : PySem.W.kitOne K (.ref ζ.TooLarge) (.ref ζ.BadHeight) = some false
  kit_TooLarge_BadSize : PySem.W.kitOne K (.ref ζ.TooLarge) (.ref ζ.BadSize) = some false
  kit_TooLarge_TooLarge : PySem.W.kitOne K (.ref ζ.TooLarge) (.ref ζ.TooLarge) = some true
  kit_TooLarge_BadOwners : PySem.W.kitOne K (.ref ζ.TooLarge) (.ref ζ.BadOwners) = some false
  kit_TooLarge_BadEdge : PySem.W.kitOne K (.ref ζ.TooLarge) (.ref ζ.BadEdge) = some false
  kit_TooLarge_DuplicateEdge : PySem.W.kitOne K (.ref ζ.TooLarge) (.ref ζ.DuplicateEdge) = some false
  kit_TooLarge_DeadEnd : PySem.W.kitOne K (.ref ζ.TooLarge) (.ref ζ.DeadEnd) = some false
  kit_TooLarge_GameError : PySem.W.kitOne K (.ref ζ.TooLarge) (.ref ζ.GameError) = some false
  kit_TooLarge_OutOfRange : PySem.W.kitOne K (.ref ζ.TooLarge) (.ref ζ.OutOfRange) = some false
  kit_TooLarge_ValueError : PySem.W.kitOne K (.ref ζ.TooLarge) (.type "ValueError") = some true
  exm_TooLarge_LadderreachError : PySem.W.exmOne K (.ref ζ.TooLarge) (.ref ζ.LadderreachError) = some true
  kit_BadOwners_BadHeight : PySem.W.kitOne K (.ref ζ.BadOwners) (.ref ζ.BadHeight) = some false
  kit_BadOwners_BadSize : PySem.W.kitOne K (.ref ζ.BadOwners) (.ref ζ.BadSize) = some false
  kit_BadOwners_TooLarge : PySem.W.kitOne K (.ref ζ.BadOwners) (.ref ζ.TooLarge) = some false
  kit_BadOwners_BadOwners : PySem.W.kitOne K (.ref ζ.BadOwners) (.ref ζ.BadOwners) = some true
  kit_BadOwners_BadEdge : PySem.W.kitOne K (.ref ζ.BadOwners) (.ref ζ.BadEdge) = some false
  kit_BadOwners_DuplicateEdge : PySem.W.kitOne K (.ref ζ.BadOwners) (.ref ζ.DuplicateEdge) = some false
  kit_BadOwners_DeadEnd : PySem.W.kitOne K (.ref ζ.BadOwners) (.ref ζ.DeadEnd) = some false
  kit_BadOwners_GameError : PySem.W.kitOne K (.ref ζ.BadOwners) (.ref ζ.GameError) = some true
  kit_BadOwners_OutOfRange : PySem.W.kitOne K (.ref ζ.BadOwners) (.ref ζ.OutOfRange) = some false
  kit_BadOwners_ValueError : PySem.W.kitOne K (.ref ζ.BadOwners) (.type "ValueError") = some true
  exm_BadOwners_LadderreachError : PySem.W.exmOne K (.ref ζ.BadOwners) (.ref ζ.LadderreachError) = some true
  kit_BadEdge_BadHeight : PySem.W.kitOne K (.ref ζ.BadEdge) (.ref ζ.BadHeight) = some false
  kit_BadEdge_BadSize : PySem.W.kitOne K (.ref ζ.BadEdge) (.ref ζ.BadSize) = some false
  kit_BadEdge_TooLarge : PySem.W.kitOne K (.ref ζ.BadEdge) (.ref ζ.TooLarge) = some false
  kit_BadEdge_BadOwners : PySem.W.kitOne K (.ref ζ.BadEdge) (.ref ζ.BadOwners) = some false
  kit_BadEdge_BadEdge : PySem.W.kitOne K (.ref ζ.BadEdge) (.ref ζ.BadEdge) = some true
  kit_BadEdge_DuplicateEdge : PySem.W.kitOne K (.ref ζ.BadEdge) (.ref ζ.DuplicateEdge) = some false
  kit_BadEdge_DeadEnd : PySem.W.kitOne K (.ref ζ.BadEdge) (.ref ζ.DeadEnd) = some false
  kit_BadEdge_GameError : PySem.W.kitOne K (.ref ζ.BadEdge) (.ref ζ.GameError) = some true
  kit_BadEdge_OutOfRange : PySem.W.kitOne K (.ref ζ.BadEdge) (.ref ζ.OutOfRange) = some false
  kit_BadEdge_ValueError : PySem.W.kitOne K (.ref ζ.BadEdge) (.type "ValueError") = some true
  exm_BadEdge_LadderreachError : PySem.W.exmOne K (.ref ζ.BadEdge) (.ref ζ.LadderreachError) = some true
  kit_DuplicateEdge_BadHeight : PySem.W.kitOne K (.ref ζ.DuplicateEdge) (.ref ζ.BadHeight) = some false
  kit_DuplicateEdge_BadSize : PySem.W.kitOne K (.ref ζ.DuplicateEdge) (.ref ζ.BadSize) = some false
  kit_DuplicateEdge_TooLarge : PySem.W.kitOne K (.ref ζ.DuplicateEdge) (.ref ζ.TooLarge) = some false
  kit_DuplicateEdge_BadOwners : PySem.W.kitOne K (.ref ζ.DuplicateEdge) (.ref ζ.BadOwners) = some false
  kit_DuplicateEdge_BadEdge : PySem.W.kitOne K (.ref ζ.DuplicateEdge) (.ref ζ.BadEdge) = some false
  kit_DuplicateEdge_DuplicateEdge : PySem.W.kitOne K (.ref ζ.DuplicateEdge) (.ref ζ.DuplicateEdge) = some true
  kit_DuplicateEdge_DeadEnd : PySem.W.kitOne K (.ref ζ.DuplicateEdge) (.ref ζ.DeadEnd) = some false
  kit_DuplicateEdge_GameError : PySem.W.kitOne K (.ref ζ.DuplicateEdge) (.ref ζ.GameError) = some true
  kit_DuplicateEdge_OutOfRange : PySem.W.kitOne K (.ref ζ.DuplicateEdge) (.ref ζ.OutOfRange) = some false
  kit_DuplicateEdge_ValueError : PySem.W.kitOne K (.ref ζ.DuplicateEdge) (.type "ValueError") = some true
  exm_DuplicateEdge_LadderreachError : PySem.W.exmOne K (.ref ζ.DuplicateEdge) (.ref ζ.LadderreachError) = some true
  kit_DeadEnd_BadHeight : PySem.W.kitOne K (.ref ζ.DeadEnd) (.ref ζ.BadHeight) = some false
  kit_DeadEnd_BadSize : PySem.W.kitOne K (.ref ζ.DeadEnd) (.ref ζ.BadSize) = some false
  kit_DeadEnd_TooLarge : PySem.W.kitOne K (.ref ζ.DeadEnd) (.ref ζ.TooLarge) = some false
  kit_DeadEnd_BadOwners : PySem.W.kitOne K (.ref ζ.DeadEnd) (.ref ζ.BadOwners) = some false
  kit_DeadEnd_BadEdge : PySem.W.kitOne K (.ref ζ.DeadEnd) (.ref ζ.BadEdge) = some false
  kit_DeadEnd_DuplicateEdge : PySem.W.kitOne K (.ref ζ.DeadEnd) (.ref ζ.DuplicateEdge) = some false
  kit_DeadEnd_DeadEnd : PySem.W.kitOne K (.ref ζ.DeadEnd) (.ref ζ.DeadEnd) = some true
  kit_DeadEnd_GameError : PySem.W.kitOne K (.ref ζ.DeadEnd) (.ref ζ.GameError) = some true
  kit_DeadEnd_OutOfRange : PySem.W.kitOne K (.ref ζ.DeadEnd) (.ref ζ.OutOfRange) = some false
  kit_DeadEnd_ValueError : PySem.W.kitOne K (.ref ζ.DeadEnd) (.type "ValueError") = some true
  exm_DeadEnd_LadderreachError : PySem.W.exmOne K (.ref ζ.DeadEnd) (.ref ζ.LadderreachError) = some true
end LR
set_option Elab.async false
set_option maxRecDepth 100000
set_option linter.all false
set_option maxHeartbeats 4000000
namespace LR
open PySem PySem.Spec PyProof.Rows L2
section
variable {P : Program} {w : World} {K : PySem.W.Frag} {mg : Str → Option Value} {base : Heap} {ζ : Cs}
theorem err_BadEdge (T : Txt P K mg ζ) : ErrOk P w K mg base "BadEdge" ζ.BadEdge "index" := by
  refine T.e_BadEdge.ok csc_BadEdge_init (fun f cc cda fd A outer s H vs Q E S hr h => ⟨_, nss_cons (ns_expr (ne_supV (i := 0) S T.e_BadEdge.T T.e_BadEdge.sm T.e_BadEdge.mr T.e_BadEdge.sv (pa_cons (pe_joined (PJ.cons (pe_str) (PJ.cons (pe_fmt (pv 1)) (PJ.cons (pe_str) (PJ.nil))))) pa_nil)))
   (nss_ps (pss_one (ps_ost (pv 0) (pv 1)))), ?_⟩)
  obtain ⟨a, v, rfl, ha, hv, kk⟩ := h
  refine ⟨a, rfl, ha, js_c (n := 0) (by decide) (Nat.zero_le _) (by decide +kernel) fun acc h => js_v (n := 1000) (by decide) h (log_small hv) (fun Q q => ⟨_, rfl, q⟩) fun acc h => js_c (n := 2921) (by decide) h (by decide +kernel) fun acc h => ⟨by show 1 ≤ 1000; decide, ha, ?_⟩⟩
  exact ⟨_, rfl, _, rfl, a, ζ.BadEdge, rfl, T.e_BadEdge.T, T.e_BadEdge.no, .inl ⟨ha, kk⟩⟩
theorem err_DuplicateEdge (T : Txt P K mg ζ) : ErrOk P w K mg base "DuplicateEdge" ζ.DuplicateEdge "index" := by
  refine T.e_DuplicateEdge.ok csc_DuplicateEdge_init (fun f cc cda fd A outer s H vs Q E S hr h => ⟨_, nss_cons (ns_expr (ne_supV (i := 0) S T.e_DuplicateEdge.T T.e_DuplicateEdge.sm T.e_DuplicateEdge.mr T.e_DuplicateEdge.sv (pa_cons (pe_joined (PJ.cons (pe_str) (PJ.cons (pe_fmt (pv 1)) (PJ.cons (pe_str) (PJ.nil))))) pa_nil)))
   (nss_ps (pss_one (ps_ost (pv 0) (pv 1)))), ?_⟩)
  obtain ⟨a, v, rfl, ha, hv, kk⟩ := h
  refine ⟨a, rfl, ha, js_c (n := 0) (by decide) (Nat.zero_le _) (by decide +kernel) fun acc h => js_v (n := 1000) (by decide) h (log_small hv) (fun Q q => ⟨_, rfl, q⟩) fun acc h => js_c (n := 2921) (by decide) h (by decide +kernel) fun acc h => ⟨by show 1 ≤ 1000; decide, ha, ?_⟩⟩
  exact ⟨_, rfl, _, rfl, a, ζ.DuplicateEdge, rfl, T.e_DuplicateEdge.T, T.e_DuplicateEdge.no, .inl ⟨ha, kk⟩⟩
theorem err_DeadEnd (T : Txt P K mg ζ) : ErrOk P w K mg base "DeadEnd" ζ.DeadEnd "node" := by
  refine T.e_DeadEnd.ok csc_DeadEnd_init (fun f cc cda fd A outer s H vs Q E S hr h => ⟨_, nss_cons (ns_expr (ne_supV (i := 0) S T.e_DeadEnd.T T.e_DeadEnd.sm T.e_DeadEnd.mr T.e_DeadEnd.sv (pa_cons (pe_joined (PJ.cons (pe_str) (PJ.cons (pe_fmt (pv 1)) (PJ.cons (pe_str) (PJ.nil))))) pa_nil)))
   (nss_ps (pss_one (ps_ost (pv 0) (pv 1)))), ?_⟩)
  obtain ⟨a, v, rfl, ha, hv, kk⟩ := h
  refine ⟨a, rfl, ha, js_c (n := 0) (by decide) (Nat.zero_le _) (by decide +kernel) fun acc h => js_v (n := 1000) (by decide) h (log_small hv) (fun Q q => ⟨_, rfl, q⟩) fun acc h => js_c (n := 2921) (by decide) h (by decide +kernel) fun acc h => ⟨by show 1 ≤ 1000; decide, ha, ?_⟩⟩
  exact ⟨_, rfl, _, rfl, a, ζ.DeadEnd, rfl, T.e_DeadEnd.T, T.e_DeadEnd.no, .inl ⟨ha, kk⟩⟩
end
end LR
set_option Elab.async false
set_option maxRecDepth 100000
set_option linter.all false
set_option maxHeartbeats 4000000
namespace LR
open PySem PySem.Spec PyProof.Rows L2
section
variable {P : Program} {w : World} {K : PySem.W.Frag} {mg : Str → Option Value} {base : Heap} {ζ : Cs}
def spPool (K : PySem.W.Frag) : Sp := fun vs H Q _ => ∃ (a : Addr) (ns : List Int) (k : Nat), vs = [.ref a, .int k] ∧ SqL K H a (ns.map V.int) ∧ ∀ p x y z t, H p = none → Q (.ref p) (upd H p (.lst [.int x, .int y, .int z, .int t]))
theorem ok_pool (T : Txt P K mg ζ) : Cal P w K mg base 1 "_law_pool" (spPool K) := by
  refine T.d_pool.cal sc_pool (fun vs H Q E h => ?_) (fun f cdv A outer s H vs Q E hr h => ⟨_, pss_cons (ps_set (i := 2) sc_pool.nd rfl (Or.inl rfl) (pe_int))
 (pss_cons (ps_if (pt_cmpR op_lt (pv 1) (pe_callB call_len_seq (by rfl) T.n_len b_len (pa_cons (pv 0) (pa_nil))) (nomark _))
 (pss_one (ps_set (i := 2) sc_pool.nd rfl (Or.inl rfl) (pe_callB call_abs (by rfl) T.n_abs b_abs (pa_cons (pe_callTy call_int1 (by rfl) T.n_int b_int (pa_cons (pe_ix ix_list (pv 0) (pv 1) (fun _ _ => rfl)) (pa_nil))) (pa_nil)))))
 (pss_nil))
 (pss_cons (ps_if (pt_cmpR op_ge (pv 2) (pe_op op_pow (pe_int) (pe_int)) (nomark _))
 (pss_one (ps_ret (pe_lst (pa_cons (pe_int) (pa_cons (pv 2) (pa_cons (pe_int) (pa_cons (pe_op op_add (pv 1) (pe_int)) (pa_nil))))))))
 (pss_nil))
 (pss_one (ps_ret (pe_lst (pa_cons (pe_int) (pa_cons (pv 2) (pa_cons (pe_int) (pa_cons (pe_op op_add (pv 1) (pe_int)) (pa_nil)))))))))), ?_⟩)
  · obtain ⟨a, ns, k, rfl, _⟩ := h; rfl
  obtain ⟨a, ns, k, rfl, hS, kk⟩ := h
  refine ⟨_, rfl, _, rfl, a, _, rfl, .inl hS, _, _, rfl, rfl, _, rfl, ?_⟩
  refine ite2 (fun c => ?_) (fun _ => ?_)
  have hlt : k < ns.length := by
    have := of_decide_eq_true c
    rw [List.length_map] at this
    omega
  refine ⟨_, rfl, _, rfl, a, _, _, _, rfl, rfl, hS, atI_nat (v := V.int (ns[k])) (by rw [List.getElem?_map, List.getElem?_eq_getElem hlt]; rfl), .inl ⟨_, rfl, _, rfl, ?_⟩⟩
  all_goals
    refine ⟨_, rfl, _, _, rfl, rfl, ⟨by decide, by decide, by decide⟩, _, _, rfl, rfl, _, rfl, ?_⟩
    refine ite2 (fun _ => ?_) (fun _ => ?_)
    · exact ⟨_, rfl, _, rfl, _, _, rfl, rfl, by show 4 ≤ sizeLine; decide, fun p hp => kk p _ _ _ _ hp⟩
    · exact ⟨_, rfl, _, rfl, _, _, rfl, rfl, by show 4 ≤ sizeLine; decide, fun p hp => kk p _ _ _ _ hp⟩
end
end LR
set_option Elab.async false
set_option maxRecDepth 100000
set_option linter.all false
set_option maxHeartbeats 4000000
namespace LR
open PySem PySem.Spec PyProof.Rows L2
section
variable {P : Program} {w : World} {K : PySem.W.Frag} {mg : Str → Option Value} {base : Heap} {ζ : Cs}
def spDraw : Sp := fun vs H Q _ => ∃ (p : Addr) (many : Int), vs = [.ref p, .int many] ∧ IsPool H p ∧ 0 < many ∧ many < 1073741824 ∧ ∀ (v : Int) H', 0 ≤ v → v < many → Keep p H H' → IsPool H' p → Q (.int v) H'
theorem ok_draw (T : Txt P K mg ζ) : Cal P w K mg base 1 "_law_draw" spDraw := by
  refine T.d_draw.cal sc_draw (fun vs H Q E h => ?_) (fun f cdv A outer s H vs Q E hr h => ⟨_, pss_cons (ps_if (pt_cmpR op_eq (pe_ix ix_list (pv 0) (pe_int) (fun _ _ => rfl)) (pe_int) (nomark _))
 (pss_cons (ps_set (i := 2) sc_draw.nd rfl (Or.inl rfl) (pe_op op_mod (pe_callTy call_int1 (by rfl) T.n_int b_int (pa_cons (pe_ix ix_list (pv 0) (pe_int) (fun _ _ => rfl)) (pa_nil))) (pv 1)))
 (pss_cons (ps_asg (pe_op op_fdiv (pe_callTy call_int1 (by rfl) T.n_int b_int (pa_cons (pe_ix ix_list (pv 0) (pe_int) (fun _ _ => rfl)) (pa_nil))) (pv 1)) (pg_sub (pv 0) (pe_int) set_list))
 (pss_cons (ps_if (pt_cmpR op_eq (pe_ix ix_list (pv 0) (pe_int) (fun _ _ => rfl)) (pe_int) (nomark _))
 (pss_cons (ps_asg (pe_int) (pg_sub (pv 0) (pe_int) set_list))
 (pss_one (ps_asg (pv 2) (pg_sub (pv 0) (pe_int) set_list))))
 (pss_nil))
 (pss_one (ps_ret (pv 2))))))
 (pss_nil))
 (pss_cons (ps_asg (pe_op op_add (pe_ix ix_list (pv 0) (pe_int) (fun _ _ => rfl)) (pe_int)) (pg_sub (pv 0) (pe_int) set_list))
 (pss_cons (ps_set (i := 3) sc_draw.nd rfl (Or.inl rfl) (pe_op op_mod (pe_callTy call_int1 (by rfl) T.n_int b_int (pa_cons (pe_op op_add (pe_op op_add (pe_op op_add (pe_op op_mul (pe_ix ix_list (pv 0) (pe_int) (fun _ _ => rfl)) (pe_int)) (pe_op op_mul (pe_ix ix_list (pv 0) (pe_int) (fun _ _ => rfl)) (pe_int))) (pe_op op_mul (pe_ix ix_list (pv 0) (pe_int) (fun _ _ => rfl)) (pe_int))) (pe_int)) (pa_nil))) (pe_int)))
 (pss_cons (ps_set (i := 3) sc_draw.nd rfl (Or.inl rfl) (pe_op op_mod (pe_callTy call_int1 (by rfl) T.n_int b_int (pa_cons (pe_op op_add (pe_op op_add (pe_op op_mul (pv 3) (pv 3)) (pe_op op_mul (pe_ix ix_list (pv 0) (pe_int) (fun _ _ => rfl)) (pe_int))) (pe_ix ix_list (pv 0) (pe_int) (fun _ _ => rfl))) (pa_nil))) (pe_int)))
 (pss_cons (ps_set (i := 3) sc_draw.nd rfl (Or.inl rfl) (pe_op op_mod (pe_callTy call_int1 (by rfl) T.n_int b_int (pa_cons (pe_op op_add (pe_op op_mul (pv 3) (pv 3)) (pe_int)) (pa_nil))) (pe_int)))
 (pss_one (ps_ret (pe_op op_mod (pe_callTy call_int1 (by rfl) T.n_int b_int (pa_cons (pe_op op_fdiv (pv 3) (pe_int)) (pa_nil))) (pv 1)))))))), ?_⟩)
  · obtain ⟨a, ns, rfl, _⟩ := h; rfl
  obtain ⟨p, many, rfl, ⟨a, b, c, d, hp⟩, hm0, hm1, kk⟩ := h
  refine ⟨_, rfl, p, _, _, _, rfl, rfl, SqL.of hp, rfl, rfl, _, rfl, ?_⟩
  refine ite2 (fun _ => ?_) (fun _ => ?_)
  · refine ⟨_, rfl, p, _, _, _, rfl, rfl, SqL.of hp, rfl, .inl ⟨_, rfl, _, rfl, _, _, rfl, rfl, hm0, ?_⟩⟩
    refine ⟨_, rfl, p, _, _, _, rfl, rfl, SqL.of hp, rfl, .inl ⟨_, rfl, _, rfl, _, _, rfl, rfl, ⟨hm0, hm1⟩, _, rfl, p, _, _, _, rfl, rfl, hp, rfl, ?_⟩⟩
    refine ⟨_, rfl, p, _, _, _, rfl, rfl, SqL.of upd_same, rfl, rfl, _, rfl, ?_⟩
    refine ite2 (fun _ => ?_) (fun _ => ?_)
    · refine ⟨_, rfl, p, _, _, _, rfl, rfl, upd_same, rfl, ?_⟩
      refine ⟨_, rfl, _, rfl, p, _, _, _, rfl, rfl, upd_same, rfl, ?_⟩
      exact ⟨_, rfl, kk _ _ (Int.emod_nonneg _ (by omega)) (Int.emod_lt_of_pos _ hm0) (by rw [upd_upd, upd_upd]; exact Keep.refl.upd) (by rw [upd_upd, upd_upd]; exact IsPool.upd)⟩
    · exact ⟨_, rfl, kk _ _ (Int.emod_nonneg _ (by omega)) (Int.emod_lt_of_pos _ hm0) Keep.refl.upd IsPool.upd⟩
  · refine ⟨_, rfl, _, _, _, _, rfl, rfl, SqL.of hp, rfl, _, _, rfl, rfl, _, rfl, p, _, _, _, rfl, rfl, hp, rfl, ?_⟩
    refine ⟨_, rfl, _, _, _, _, rfl, rfl, SqL.of upd_same, rfl, _, _, rfl, rfl, .inr ⟨by decide, by decide⟩, _, rfl, _, _, _, _, rfl, rfl, SqL.of upd_same, rfl, _, _, rfl, rfl, .inr ⟨by decide, by decide⟩, _, _, rfl, rfl, _, rfl, _, _, _, _, rfl, rfl, SqL.of upd_same, rfl, _, _, rfl, rfl, .inr ⟨by decide, by decide⟩, _, _, rfl, rfl, _, _, rfl, rfl, .inl ⟨_, rfl, _, _, rfl, rfl, (by show (0:Int) < _; decide), ?_⟩⟩
    refine ⟨_, rfl, _, rfl, _, _, rfl, rfl, .inl ⟨Int.lt_of_lt_of_le (by decide) (Int.emod_nonneg _ (by decide)), Int.lt_trans (Int.emod_lt_of_pos _ (by decide)) (by decide)⟩, _, rfl, _, _, _, _, rfl, rfl, SqL.of upd_same, rfl, _, _, rfl, rfl, .inr ⟨by decide, by decide⟩, _, _, rfl, rfl, _, rfl, _, _, _, _, rfl, rfl, SqL.of upd_same, rfl, _, _, rfl, rfl, .inl ⟨_, rfl, _, _, rfl, rfl, (by show (0:Int) < _; decide), ?_⟩⟩
    refine ⟨_, rfl, _, rfl, _, _, rfl, rfl, .inl ⟨Int.lt_of_lt_of_le (by decide) (Int.emod_nonneg _ (by decide)), Int.lt_trans (Int.emod_lt_of_pos _ (by decide)) (by decide)⟩, _, _, rfl, rfl, .inl ⟨_, rfl, _, _, rfl, rfl, (by show (0:Int) < _; decide), ?_⟩⟩
    exact ⟨_, rfl, _, _, rfl, rfl, ⟨by decide, by decide⟩, .inl ⟨_, rfl, _, rfl, _, _, rfl, rfl, hm0, kk _ _ (Int.emod_nonneg _ (by omega)) (Int.emod_lt_of_pos _ hm0) Keep.refl.upd IsPool.upd⟩⟩
end
end LR
set_option Elab.async false
set_option maxRecDepth 100000
set_option linter.all false
set_option maxHeartbeats 4000000
set_option Elab.async false
set_option maxRecDepth 100000
set_option linter.all false
set_option maxHeartbeats 4000000
set_option Elab.async false
set_option maxRecDepth 100000
set_option linter.all false
set_option maxHeartbeats 4000000
set_option Elab.async false
set_option maxRecDepth 100000
set_option linter.all false
set_option maxHeartbeats 4000000
namespace LR
open PySem PySem.Spec PyProof.Rows L2
section
variable {P : Program} {w : World} {K : PySem.W.Frag} {mg : Str → Option Value} {base : Heap} {ζ : Cs}
def spWeb (C : Addr) : Sp := fun vs H Q _ => ∃ (x a dx : Addr) (h n : Int) (ts : List Addr) (es : List (List Int)), vs = [.ref x, .int h, .int n, .ref a] ∧ H x = some (.ins C dx []) ∧ (H a = some (.lst (ts.map V.ref)) ∨ H a = some (.tup (ts.map V.ref))) ∧ RowsH H ts es ∧ (h = 1 ∨ h = 2 ∨ h = 3) ∧ (1 ≤ n ∧ n ≤ 9) ∧ es.length ≤ 63 ∧ (∀ e ∈ es, EdgeOk h n e) ∧ es.Nodup ∧ ∀ H' ss, Keep x H H' → WebAt C H' x h n ss → ss.Perm es → ss.Pairwise elt → Q .non H'
end
end LR
set_option Elab.async false
set_option maxRecDepth 100000
set_option linter.all false
set_option maxHeartbeats 4000000
namespace LR
open PySem PySem.Spec PyProof.Rows L2
section
variable {P : Program} {w : World} {K : PySem.W.Frag} {mg : Str → Option Value} {base : Heap} {ζ : Cs}
theorem inV_ints (i : Int) (l : List Int) : inV (.int i) (l.map V.int) = decide (i ∈ l) := by
  unfold inV
  rw [List.any_map, Bool.eq_iff_iff, List.any_eq_true, decide_eq_true_eq]
  constructor
  · rintro ⟨j, hj, he⟩
    have : (j == i) = true := he
    rw [beq_iff_eq] at this
    subst this; exact hj
  · intro h
    exact ⟨i, h, by show (i == i) = true; simp⟩
theorem flat_ints (l : List Int) : (l.map V.int).all flatV = true := by
  rw [List.all_map, List.all_eq_true]
  intro _ _; rfl
def spGame (C : Addr) : Sp := fun vs H Q _ => ∃ (x a dx : Addr) (h : Int) (os : List Bool) (ts : List Addr) (es : List (List Int)), vs = [.ref x, .int h, .str (strO os), .ref a] ∧ H x = some (.ins C dx []) ∧ (H a = some (.lst (ts.map V.ref)) ∨ H a = some (.tup (ts.map V.ref))) ∧ RowsH H ts es ∧ (h = 1 ∨ h = 2 ∨ h = 3) ∧ (1 ≤ os.length ∧ os.length ≤ 9) ∧ es.length ≤ 63 ∧ (∀ e ∈ es, EdgeOk h os.length e) ∧ es.Nodup ∧ (∀ v : Nat, v < os.length → ∃ e ∈ es, e.head? = some (v : Int)) ∧ ∀ H' ss, Keep x H H' → GameAt C H' x h os ss → ss.Perm es → ss.Pairwise elt → Q .non H'
end
end LR
set_option Elab.async false
set_option maxRecDepth 100000
set_option linter.all false
set_option maxHeartbeats 4000000
namespace LR
open PySem PySem.Spec PyProof.Rows L2
section
variable {P : Program} {w : World} {K : PySem.W.Frag} {mg : Str → Option Value} {base : Heap} {ζ : Cs}
/-- the error of an edge's place -/
def eIdx (C : Addr) (fld : Str) (i : Int) (E : XK) (H : Hp) : Prop := ∀ H' d, Same H H' → H' d = none → E (.ref C) (some d) (upd H' d (.xd [(fld, .int i)]))
def spChkEdgesX (K : PySem.W.Frag) (C1 C2 : Addr) : Sp := fun vs H Q E => ∃ (h n : Int) (a : Addr) (ts : List Addr) (es : List (List Int)), vs = [.int h, .int n, .ref a] ∧ Sq K H a (ts.map V.ref) ∧ RowsH H ts es ∧ (∀ e ∈ es, e.length = 3) ∧ es.length ≤ 63 ∧
  (edDue h n [] 0 es = .fine → ∀ H', Same H H' → Q .non H') ∧ (∀ i, edDue h n [] 0 es = .bad i → eIdx C1 "index" (i : Int) E H) ∧ (∀ i, edDue h n [] 0 es = .dup i → eIdx C2 "index" (i : Int) E H)
theorem len3 {e : List Int} (h : e.length = 3) : ∃ s r t, e = [s, r, t] := by
  match e, h with
  | [a, b, c], _ => exact ⟨a, b, c, rfl⟩
theorem edOk3 (h n s r t : Int) : edOk h n [s, r, t] = (decide (0 ≤ s) && decide (s < n) && (decide (0 ≤ t) && decide (t < n)) && (decide (0 ≤ r) && decide (r ≤ 2 * h))) := rfl
theorem small_idx {i : Nat} (h : i ≤ 100000) : (i : Int).natAbs < 2 ^ 1900 := Nat.lt_of_le_of_lt (by omega : (i : Int).natAbs ≤ 100000) (Nat.lt_of_lt_of_le (by decide : 100000 < 2 ^ 20) (Nat.pow_le_pow_right (by decide) (by decide)))
theorem ok_chkedgesX (T : Txt P K mg ζ) : CalX P w K mg base 3 "_check_edges" (spChkEdgesX K ζ.BadEdge ζ.DuplicateEdge) := by
  have e_BadEdge : ErrOk P w K mg base "BadEdge" ζ.BadEdge "index" := err_BadEdge T
  have e_DuplicateEdge : ErrOk P w K mg base "DuplicateEdge" ζ.DuplicateEdge "index" := err_DuplicateEdge T
  refine T.d__check_edges.calX sc__check_edges (fun vs H Q E h => ?_) (fun f cdv A outer s H vs Q E hr h => ⟨_, pss_cons (ps_set (i := 3) sc__check_edges.nd rfl (Or.inl rfl) (pe_callTy0 cr_set0T (by rfl) T.n_set b_set))
 (pss_one (ps_for (passes_of rfl) rfl (pi_enumS (by rfl) T.n_enumerate (pa_cons (pv 2) (pa_nil))) (pg_tup rfl (pgs_cons (pg_name (i := 4) sc__check_edges.nd rfl (Or.inl rfl)) (pgs_cons (pg_name (i := 5) sc__check_edges.nd rfl (Or.inl rfl)) (pgs_nil))))
 (pss_cons (ps_asg (pv 5) (pg_tup rfl (pgs_cons (pg_name (i := 6) sc__check_edges.nd rfl (Or.inl rfl)) (pgs_cons (pg_name (i := 7) sc__check_edges.nd rfl (Or.inl rfl)) (pgs_cons (pg_name (i := 8) sc__check_edges.nd rfl (Or.inl rfl)) (pgs_nil))))))
 (pss_cons (ps_if (pt_not (PW.pt (pw_and (pt_chain op_le op_lt (pe_int) (pv 6) (pv 1) ) (pw_and (pt_chain op_le op_lt (pe_int) (pv 8) (pv 1) ) (pw_and1 (pt_chain op_le op_le (pe_int) (pv 7) (pe_op op_mul (pe_int) (pv 0)) ))))))
 (pss_one (ps_raise rfl (takes_of rfl rfl rfl rfl) (pmk_err e_BadEdge hr (by first | decide | omega) (pa_cons (pv 4) (pa_nil)) rfl)))
 (pss_nil))
 (pss_cons (ps_if (pt_cmpR (or_inT hr.units) (pv 5) (pv 3) rfl)
 (pss_one (ps_raise rfl (takes_of rfl rfl rfl rfl) (pmk_err e_DuplicateEdge hr (by first | decide | omega) (pa_cons (pv 4) (pa_nil)) rfl)))
 (pss_nil))
 (PSs.nox (pss_one (ps_expr (pe_addT hr.units (pv 3) (pa_cons (pv 5) pa_nil)))))))))), ?_⟩)
  · obtain ⟨h, n, a, ts, es, rfl, _⟩ := h; rfl
  obtain ⟨h, n, a, ts, es, rfl, hS, hR, h3, hl, kk, kbad, kdup⟩ := h
  refine ⟨rfl, fun S hS0 => ?_⟩
  have s1 : Same H (upd H S (SetTO P w S [])) := same_new hS0
  have hS1 : (upd H S (SetTO P w S [])) S = some (SetTO P w S []) := upd_same
  refine ⟨_, rfl, a, rfl, hS.enum s1 fun J G W g1 g2 => for_it W (fun i σ H' => Same H H' ∧ edDue h n [] 0 es = edDue h n (es.take i) i (es.drop i) ∧ (∃ L : List (Addr × List Int), H' S = some (SetTO P w S L) ∧ (∀ p ∈ L, H p.1 = some (.tup (p.2.map V.int))) ∧ L.length = i ∧ ∀ k, k ∈ L.map (·.2) ↔ k ∈ es.take i) ∧ ∃ z4 z5 z6 z7 z8 : Option V, σ = [some (.int h), some (.int n), some (.ref a), some (.ref S), z4, z5, z6, z7, z8]) ⟨s1, rfl, ⟨[], hS1, (fun p z => by cases z), rfl, fun k => by simp⟩, none, none, none, none, none, rfl⟩ (fun i σ H' _ h => g1 _ h.1) ?_ ?_⟩
  · rintro i x1 σ H2 H3 hi ⟨s2, due, ⟨L, hL, hLt, hLl, hLm⟩, z4, z5, z6, z7, z8, rfl⟩ ⟨t, x2, y2, rfl, ht, rfl, ex, ey⟩
    cases ex
    obtain ⟨te, ete, rfl⟩ : ∃ te, ts[i]? = some te ∧ y2 = .ref te := by
      have ey : (ts.map V.ref)[i]? = some y2 := ey
      rw [List.getElem?_map] at ey
      cases q : ts[i]? with
      | none => rw [q] at ey; cases ey
      | some te => rw [q] at ey; cases ey; exact ⟨te, rfl, rfl⟩
    obtain ⟨e, ee, he⟩ := hR.getT ete
    have li : i < ts.length := (List.getElem?_eq_some_iff.mp ete).1
    have hlt := hR.1
    rw [edDue_step ee] at due
    obtain ⟨s0, r0, t0, rfl⟩ := len3 (h3 e (List.mem_of_getElem? ee))
    refine ⟨t, _, rfl, SqT.of upd_same, rfl, _, _, rfl, _, _, rfl, rfl, ?_⟩
    have s3 := s2.new (o := .tup [.int (i : Nat), .ref te]) ht
    have hL3 := (same_new (o := .tup [.int (i : Nat), .ref te]) ht) _ _ hL
    generalize upd H2 t (.tup [.int (i : Nat), .ref te]) = H4 at s3 hL3 ⊢
    have he3 := s3 _ _ he
    have hS3 : H S = none := hS0
    refine ⟨_, rfl, te, _, rfl, SqT.of he3, rfl, _, _, rfl, _, _, rfl, _, _, rfl, rfl, ?_⟩
    have okf : ∀ c : edOk h n [s0, r0, t0] = false, E = E ∧ ∀ d, H4 d = none → E (.ref ζ.BadEdge) (some d) (upd H4 d (.xd [("index", .int (i : Nat))])) := fun c => ⟨rfl, fun d hd => kbad i (by rw [due, if_pos c]) H4 d s3 hd⟩
    have si : ((i : Nat) : Int).natAbs < 2 ^ 1900 := small_idx (by omega)
    have no : ∀ b : Prop, [Decidable b] → ¬ (decide b = true) → decide b = false := fun b _ c => by cases q : decide b with | true => exact absurd q c | false => rfl
    refine ⟨_, rfl, _, _, rfl, rfl, _, rfl, ite2 (fun c1 => ?_) (fun c => ⟨_, rfl, iteF (iteT ⟨_, rfl, mkE si (okf (by rw [edOk3, no _ c]; rfl)).2⟩)⟩)⟩
    refine ⟨_, rfl, _, _, rfl, rfl, _, rfl, ite2 (fun c2 => ?_) (fun c => iteT ⟨_, rfl, mkE si (okf (by rw [edOk3, no _ c, Bool.and_false]; rfl)).2⟩)⟩
    refine ⟨_, rfl, _, _, rfl, rfl, _, rfl, ite2 (fun c3 => ?_) (fun c => ⟨_, rfl, iteF (iteT ⟨_, rfl, mkE si (okf (by rw [edOk3, no _ c, Bool.false_and, Bool.and_false]; rfl)).2⟩)⟩)⟩
    refine ⟨_, rfl, _, _, rfl, rfl, _, rfl, ite2 (fun c4 => ?_) (fun c => iteT ⟨_, rfl, mkE si (okf (by rw [edOk3, no _ c, Bool.and_false, Bool.and_false]; rfl)).2⟩)⟩
    refine ⟨_, rfl, _, _, rfl, rfl, _, rfl, ite2 (fun c5 => ?_) (fun c => ⟨_, rfl, iteT ⟨_, rfl, mkE si (okf (by rw [edOk3, no _ c, Bool.false_and, Bool.and_false])).2⟩⟩)⟩
    refine ⟨_, rfl, _, _, rfl, rfl, .inl ⟨by decide, by decide⟩, _, _, rfl, rfl, _, rfl, ite_b (fun c => ⟨_, rfl, mkE si (okf (by rw [edOk3, show decide (r0 ≤ 2 * h) = false by simpa using c, Bool.and_false, Bool.and_false])).2⟩) (fun c6 => ?_)⟩
    have c6 : decide (r0 ≤ 2 * h) = true := by simpa using c6
    have good : edOk h n [s0, r0, t0] = true := by rw [edOk3, c1, c2, c3, c4, c5, c6]; rfl
    rw [good, if_neg (by decide)] at due
    have heS := SqT.of (K := K) he3
    have hLS : ∀ p ∈ L, SqT K H4 p.1 (p.2.map V.int) := fun p hp => SqT.of (s3 _ _ (hLt p hp))
    refine ⟨_, rfl, _, rfl, te, S, [s0, r0, t0], L, rfl, rfl, heS, hL3, hLS, _, rfl, ite2 (fun c => ?_) (fun c => ?_)⟩
    · have c := (hLm _).mp (of_decide_eq_true c)
      exact ⟨_, rfl, mkE si fun d hd => kdup i (by rw [due, if_pos c]) H4 d s3 hd⟩
    have nin : [s0, r0, t0] ∉ L.map (·.2) := fun z => c (decide_eq_true z)
    rw [if_neg (fun z => nin ((hLm _).mpr z))] at due
    refine ⟨_, rfl, ⟨S, L, rfl, hL3⟩, _, rfl, S, te, [s0, r0, t0], L, rfl, rfl, heS, hL3, hLS, by omega, fun L' _ e2 => ⟨fun b o q => ?_, due, ⟨L', upd_same, fun p hp => ?_, ?_, fun k => ?_⟩, _, _, _, _, _, rfl⟩⟩
    · rw [upd_ne (ne_of_none q hS3)]; exact s3 _ _ q
    · rcases List.mem_cons.mp ((e2 nin).mem_iff.mp hp) with q | q
      · subst q; exact he
      · exact hLt p q
    · rw [(e2 nin).length_eq, List.length_cons, hLl]
    · rw [((e2 nin).map (·.2)).mem_iff, take_mem ee, List.map_cons, List.mem_cons, hLm k]
  · rintro σ H' ⟨s2, due, _⟩
    rw [List.length_map, hR.1, List.drop_length] at due
    exact kk due _ s2
def spHeightX (D : Addr) : Sp := fun vs H Q E => ∃ h : Int, vs = [.int h] ∧ h.natAbs < 2 ^ 1900 ∧ (h = 1 ∨ h = 2 ∨ h = 3 → ∀ H', Same H H' → Q .non H') ∧ (¬ (h = 1 ∨ h = 2 ∨ h = 3) → ∀ H', Same H H' → E (.ref D) none H')
theorem ok_heightX (T : Txt P K mg ζ) : CalX P w K mg base 3 "check_height" (spHeightX ζ.BadHeight) := by
  refine T.d_check_height.calX sc_check_height (fun vs H Q E h => ?_) (fun f cdv A outer s H vs Q E hr h => ⟨_, pss_one (ps_if (pt_cmpR (op_notInK (K := K) rfl) (pv 0) (pe_tup (pa_cons (pe_int) (pa_cons (pe_int) (pa_cons (pe_int) (pa_nil))))) rfl)
 (pss_one (ps_raise rfl (takes_of rfl rfl rfl rfl) (SkE.pmk_own1 PySem.F.excBase_ValueError T.r_BadHeight.xP T.r_BadHeight.gC T.r_BadHeight.kP (raises_own T.r_BadHeight.bP T.r_BadHeight.tP) (by rfl) (pe_joined (PJ.cons (pe_str) (PJ.cons (pe_fmt (pv 0)) (PJ.cons (pe_str) (PJ.nil))))))))
 (pss_nil)), ?_⟩)
  · obtain ⟨h, rfl, _⟩ := h; rfl
  obtain ⟨h, rfl, hs, good, bad⟩ := h
  refine ⟨_, rfl, (by show 3 ≤ sizeLine; decide), fun t ht => ?_⟩
  refine ⟨t, _, rfl, .inr (SqT.of upd_same), rfl, rfl, _, rfl, ?_⟩
  have k := inV_ints h [1, 2, 3]
  have m : h ∈ ([1, 2, 3] : List Int) ↔ (h = 1 ∨ h = 2 ∨ h = 3) := by simp
  refine ite2 (fun c => ?_) (fun c => ?_)
  · have c : (!inV (.int h) (([1, 2, 3] : List Int).map V.int)) = true := c
    rw [k, Bool.not_eq_true', decide_eq_false_iff_not, m] at c
    refine js_c (n := 0) (by decide) (Nat.zero_le _) (by decide +kernel) fun acc h1 => ?_
    refine js_v (n := 1000) (by decide) h1 (log_small hs) (fun Q q => ⟨_, rfl, q⟩) fun acc h2 => ?_
    exact js_c (n := 2921) (by decide) h2 (by decide +kernel) fun acc h3 => bad c _ (same_new ht)
  · have c : ¬ (!inV (.int h) (([1, 2, 3] : List Int).map V.int)) = true := c
    rw [k, Bool.not_eq_true', decide_eq_false_iff_not, m, Classical.not_not] at c
    exact good c _ (same_new ht)
def spCountX (D : Addr) : Sp := fun vs H Q E => ∃ c m : Int, vs = [.int c, .int m] ∧ c.natAbs < 2 ^ 1900 ∧ m.natAbs < 2 ^ 1900 ∧ (1 ≤ c ∧ c ≤ m → Q .non H) ∧ (¬ (1 ≤ c ∧ c ≤ m) → ∀ H', Same H H' → E (.ref D) none H')
theorem ok_countX (T : Txt P K mg ζ) : CalX P w K mg base 3 "check_count" (spCountX ζ.BadSize) := by
  refine T.d_check_count.calX sc_check_count (fun vs H Q E h => ?_) (fun f cdv A outer s H vs Q E hr h => ⟨_, pss_one (ps_if (pt_not (pt_chain op_le op_le (pe_int) (pv 0) (pv 1) ))
 (pss_one (ps_raise rfl (takes_of rfl rfl rfl rfl) (SkE.pmk_own1 PySem.F.excBase_ValueError T.r_BadSize.xP T.r_BadSize.gC T.r_BadSize.kP (raises_own T.r_BadSize.bP T.r_BadSize.tP) (by rfl) (pe_joined (PJ.cons (pe_str) (PJ.cons (pe_fmt (pv 0)) (PJ.cons (pe_str) (PJ.cons (pe_fmt (pv 1)) (PJ.nil)))))))))
 (pss_nil)), ?_⟩)
  · obtain ⟨m, u, rfl, _⟩ := h; rfl
  obtain ⟨c, m, rfl, hc, hm, good, bad⟩ := h
  have bd : ¬ (1 ≤ c ∧ c ≤ m) → ∀ cls, cls = Value.ref ζ.BadSize → tJs [tC (V.str (Str.ofString "the count ")), tFmt (tVar 0), tC (V.str (Str.ofString " is not 1 to ")), tFmt (tVar 1)] Str.empty (L2.start N_check_count [V.int c, V.int m]) H fun out H1 => E cls none H1 := fun no cls ec => by
    subst ec
    refine js_c (n := 0) (by decide) (Nat.zero_le _) (by decide +kernel) fun acc h1 => ?_
    refine js_v (n := 1000) (by decide) h1 (log_small hc) (fun Q q => ⟨_, rfl, q⟩) fun acc h2 => ?_
    refine js_c (n := 2921) (by decide) h2 (by decide +kernel) fun acc h3 => ?_
    exact js_v (n := 3921) (by decide) h3 (log_small hm) (fun Q q => ⟨_, rfl, q⟩) fun acc h4 => bad no _ (Same.refl _)
  refine ⟨_, rfl, _, _, rfl, rfl, _, rfl, ite2 (fun c1 => ?_) (fun c1 => ⟨_, rfl, iteT (bd (fun z => c1 (decide_eq_true z.1)) _ rfl)⟩)⟩
  have c1 := of_decide_eq_true c1
  refine ⟨_, rfl, _, _, rfl, rfl, _, rfl, ite_b (fun c2 => bd (fun z => by rw [decide_eq_true z.2] at c2; cases c2) _ rfl) (fun c2 => ?_)⟩
  exact good ⟨c1, by by_cases q : c ≤ m; exact q; rw [decide_eq_false q] at c2; cases c2⟩
def spWebX (C C1 C2 C3 C4 C5 : Addr) : Sp := fun vs H Q E => ∃ (x a dx : Addr) (h n : Int) (ts : List Addr) (es : List (List Int)), vs = [.ref x, .int h, .int n, .ref a] ∧ H x = some (.ins C dx []) ∧ (H a = some (.lst (ts.map V.ref)) ∨ H a = some (.tup (ts.map V.ref))) ∧ RowsH H ts es ∧ h.natAbs < 2 ^ 1900 ∧ n.natAbs < 2 ^ 1900 ∧ es.length ≤ 1000 ∧ (∀ e ∈ es, e.length = 3) ∧
  (webDue h n es = .fine → ∀ H' ss, Keep x H H' → WebAt C H' x h n ss → ss.Perm es → ss.Pairwise elt → Q .non H') ∧
  (webDue h n es = .height → ∀ H', Same H H' → E (.ref C1) none H') ∧ (webDue h n es = .size → ∀ H', Same H H' → E (.ref C2) none H') ∧ (webDue h n es = .large → ∀ H', Same H H' → E (.ref C3) none H') ∧
  (∀ i, webDue h n es = .bad i → eIdx C4 "index" (i : Int) E H) ∧ (∀ i, webDue h n es = .dup i → eIdx C5 "index" (i : Int) E H)
theorem eIdx.same {C : Addr} {fld : Str} {i : Int} {E : XK} {H H' : Hp} (s : Same H H') (h : eIdx C fld i E H) : eIdx C fld i E H' := fun H2 d s2 hd => h H2 d (s.trans s2) hd
theorem body_webX (T : Txt P K mg ζ) {C : Addr} (cl : Cls K C) (na1 : NoAttr K C "height") (na2 : NoAttr K C "size") (na3 : NoAttr K C "edges") (f : Addr) (cdv : Value) (A : Around) (outer : List Env) (s : Shared) (H : Hp) (vs : List V) (Q : VK) (E : XK) (hr : Room 3 (A.deeper (envOfC "Web.__init__" (defScope s_W_init) s.heap.objs.size f cdv))) (h : spWebX C ζ.BadHeight ζ.BadSize ζ.TooLarge ζ.BadEdge ζ.DuplicateEdge vs H Q E) :
    ∃ t, PSs (cxOf (L2.CX P w) P w K mg base N_W_init "Web.__init__" (defScope s_W_init) f cdv A outer s H E) (defBody s_W_init) t ∧ t { nx := fun _ H' => Q .non H', rt := Q } (L2.start N_W_init vs) H := by
  have cx_check_height : CalX P w K mg base 3 "check_height" (spHeightX ζ.BadHeight) := ok_heightX T
  have cx_check_count : CalX P w K mg base 3 "check_count" (spCountX ζ.BadSize) := ok_countX T
  have cx__check_edges : CalX P w K mg base 3 "_check_edges" (spChkEdgesX K ζ.BadEdge ζ.DuplicateEdge) := ok_chkedgesX T
  refine ⟨_, pss_cons (ps_expr (pe_cT cx_check_height hr (by first | decide | omega) (takes_of rfl rfl rfl rfl) (by rfl) (pa_cons (pv 1) (pa_nil))))
 (pss_cons (ps_expr (pe_cT cx_check_count hr (by first | decide | omega) (takes_of rfl rfl rfl rfl) (by rfl) (pa_cons (pv 2) (pa_cons (ClX.pe_cval (pe_glob (v := .ref ζ.Web) (by rfl) T.mg_Web rfl)) (pa_nil)))))
 (pss_cons (ps_if (pt_cmpR op_gt (pe_callB call_len_seq (by rfl) T.n_len b_len (pa_cons (pv 3) (pa_nil))) (ClX.pe_cval (pe_glob (v := .ref ζ.Web) (by rfl) T.mg_Web rfl)) (nomark _))
 (pss_one (ps_raise rfl (takes_of rfl rfl rfl rfl) (SkE.pmk_own1 PySem.F.excBase_ValueError T.r_TooLarge.xP T.r_TooLarge.gC T.r_TooLarge.kP (raises_own T.r_TooLarge.bP T.r_TooLarge.tP) (by rfl) (pe_joined (PJ.cons (pe_str) (PJ.cons (pe_fmt (pe_callB call_len_seq (by rfl) T.n_len b_len (pa_cons (pv 3) (pa_nil)))) (PJ.cons (pe_str) (PJ.nil))))))))
 (pss_nil))
 (pss_cons (ps_expr (pe_cT cx__check_edges hr (by first | decide | omega) (takes_of rfl rfl rfl rfl) (by rfl) (pa_cons (pv 1) (pa_cons (pv 2) (pa_cons (pv 3) (pa_nil))))))
 (PSs.nox (pss_cons (ps_fld (pv 0) (pv 1) rfl)
 (pss_cons (ps_fld (pv 0) (pv 2) rfl)
 (pss_one (ps_fld (pv 0) (pe_callTy call_tuple_of (by rfl) T.n_tuple b_tuple (pa_cons (pe_callB (cr_sortQ (d := 3) (B := 64) (by decide)) (by rfl) T.n_sorted b_sorted (pa_cons (pv 3) pa_nil)) (pa_nil))) rfl)))))))), ?_⟩
  obtain ⟨x, a, dx, h, n, ts, es, rfl, hx, ha, hR, hhs, hns, hl, h3, kk, k1, k2, k3, k4, k5⟩ := h
  have hS : Sq K H a (ts.map V.ref) := by
    rcases ha with ha | ha
    · exact .inl (SqL.of ha)
    · exact .inr (SqT.of ha)
  have nax : a ≠ x := by
    rcases ha with ha | ha
    · exact ne_of ha hx (by intro z; cases z)
    · exact ne_of ha hx (by intro z; cases z)
  obtain ⟨mc, u, cr, cv⟩ := T.cv_Web_MOST_NODES
  obtain ⟨mc2, u2, cr2, cv2⟩ := T.cv_Web_MOST_EDGES
  refine ⟨_, rfl, h, rfl, hhs, fun hh H1 s1 => ?_, fun no H1 s1 => k1 (by unfold webDue; rw [if_pos no]) H1 s1⟩
  have d1 : webDue h n es = if ¬ (1 ≤ n ∧ n ≤ 9) then .size else if 63 < es.length then .large else edDue h n [] 0 es := by
    first
    | (unfold webDue; rw [if_neg (fun z => z hh)]; done)
    | (unfold webDue; rw [if_neg (fun z => z hh)]; rfl)
  refine ⟨_, rfl, ζ.Web, mc, _, u, rfl, cr, cv, n, 9, rfl, hns, (by decide), fun hn => ?_, fun no H2 s2 => k2 (by rw [d1, if_pos no]) H2 (s1.trans s2)⟩
  have d2 : webDue h n es = if 63 < es.length then .large else edDue h n [] 0 es := by rw [d1, if_neg (fun z => z hn)]
  refine ⟨_, rfl, a, _, rfl, hS.same s1, ζ.Web, mc2, _, u2, rfl, cr2, cv2, _, _, rfl, rfl, _, rfl, ?_⟩
  rw [List.length_map, hR.1]
  refine ite2 (fun c => ?_) (fun c => ?_)
  · have c := of_decide_eq_true c
    refine js_c (n := 0) (by decide) (Nat.zero_le _) (by decide +kernel) fun acc h1 => ?_
    refine js_v (n := 1000) (v := ((ts.map V.ref).length : Int)) (by decide) h1 (log_small (small_idx (by rw [List.length_map, hR.1]; omega))) (fun Q q => ⟨_, rfl, a, _, rfl, hS.same s1, q⟩) fun acc h2 => ?_
    exact js_c (n := 2921) (by decide) h2 (by decide +kernel) fun acc h3 => k3 (by rw [d2, if_pos (by omega)]) _ s1
  have hl : es.length ≤ 63 := by
    have c : ¬ ((es.length : Int) > 63) := fun q => c (decide_eq_true q)
    omega
  have d3 : webDue h n es = edDue h n [] 0 es := by rw [d2, if_neg (by omega)]
  refine ⟨_, rfl, _, rfl, _, rfl, h, n, a, ts, es, rfl, hS.same s1, hR.same s1, h3, hl, fun fine H2 s2 => ?_, fun i hi => (k4 i (by rw [d3, hi])).same s1, fun i hi => (k5 i (by rw [d3, hi])).same s1⟩
  obtain ⟨_, _, _, hok, hnd⟩ := webDue_fine.mp (d3.trans fine)
  replace kk := kk (d3.trans fine)
  have s02 := s1.trans s2
  have hx2 := s02 _ _ hx
  refine ⟨_, rfl, _, rfl, x, C, dx, _, rfl, hx2, cl, na1, (by show 0 < 1000; decide), ?_⟩
  have k3 : Keep x H (upd H2 x (.ins C dx (putF "height" (V.int h) []))) := s02.keep.upd
  refine ⟨_, rfl, _, rfl, x, C, dx, _, rfl, upd_same, cl, na2, (by show 1 < 1000; decide), ?_⟩
  rw [upd_upd]
  have k4 : Keep x H (upd H2 x (.ins C dx (putF "size" (V.int n) (putF "height" (V.int h) [])))) := s02.keep.upd
  have hx4 : (upd H2 x (.ins C dx (putF "size" (V.int n) (putF "height" (V.int h) [])))) x = some (.ins C dx (putF "size" (V.int n) (putF "height" (V.int h) []))) := upd_same
  generalize upd H2 x (.ins C dx (putF "size" (V.int n) (putF "height" (V.int h) []))) = H4 at k4 hx4 ⊢
  have hR4 : RowsH H4 ts es := ⟨hR.1, fun k t e a b => k4 _ (ne_of (hR.2 k t e a b) hx (by intro z; cases z)) _ (hR.2 k t e a b)⟩
  have hS4 := hS.keep k4 nax
  refine ⟨_, rfl, a, ts.map V.ref, rfl, hS4, (by rw [List.length_map, hR.1]; omega), fun y hy => ?_, fun ys p perm pw hp => ?_⟩
  · obtain ⟨t, ht, rfl⟩ := List.mem_map.mp hy
    obtain ⟨j, hj⟩ := List.mem_iff_getElem?.mp ht
    obtain ⟨e, ee, he⟩ := hR4.getT hj
    obtain ⟨b1, b2⟩ := edge_bd (by omega) hn.2 (hok e (List.mem_of_getElem? ee))
    exact ⟨e, ⟨t, rfl, SqT.of he⟩, b1, b2⟩
  obtain ⟨us, rfl, pu, hU, pss⟩ := hR4.perm perm
  have rowU : ∀ t ∈ us, TupI K H4 (.ref t) (rowH H4 t) := fun t ht => by
    obtain ⟨j, hj⟩ := List.mem_iff_getElem?.mp ht
    obtain ⟨e, _, he⟩ := hU.getT hj
    exact ⟨t, rfl, by rw [rowH_of he]; exact SqT.of he⟩
  have okU : ∀ t ∈ us, EdgeOk h n (rowH H4 t) := fun t ht => hok _ (pss.mem_iff.mp (List.mem_map.mpr ⟨t, ht, rfl⟩))
  have pw2 : (us.map (rowH H4)).Pairwise elt := by
    rw [List.pairwise_map]
    have nd3 := List.pairwise_map.mp (pss.nodup_iff.mpr hnd)
    have pw1 := List.pairwise_map.mp pw
    refine List.Pairwise.imp_of_mem (fun {u v} hu hv hw => ?_) (pw1.and nd3)
    exact elt_code (by omega) hn.2 (okU u hu) (okU v hv) (hw.1 _ _ (rowU u hu) (rowU v hv)) hw.2
  have npx : x ≠ p := ne_of_none hx4 hp
  refine ⟨p, _, rfl, .inl ⟨SqL.of upd_same, fun te hte => ?_⟩⟩
  have hx5 := (same_new (o := .lst (us.map V.ref)) hp) _ _ hx4
  have npt : x ≠ te := ne_of_none hx5 hte
  refine ⟨_, rfl, x, C, dx, _, rfl, (same_new hte) _ _ hx5, cl, na3, (by show 2 < 1000; decide), ?_⟩
  refine kk _ (us.map (rowH H4)) (((k4.new hp).new hte).upd) ⟨dx, te, us, ?_, ?_, ?_⟩ pss pw2
  · rw [upd_same]; rfl
  · rw [upd_ne npt.symm, upd_same]
  · refine ⟨hU.1, fun k t e a b => ?_⟩
    have := hU.2 k t e a b
    rw [upd_ne (ne_of this hx4 (by intro z; cases z)), upd_ne (ne_of_none ((same_new (o := .lst (us.map V.ref)) hp) _ _ this) hte), upd_ne (ne_of_none this hp)]
    exact this
theorem ok_webX (T : Txt P K mg ζ) : MakX P w K mg base 4 "Web" ζ.Web (spWebX ζ.Web ζ.BadHeight ζ.BadSize ζ.TooLarge ζ.BadEdge ζ.DuplicateEdge) :=
  T.mk_Web.makX sc_W_init (fun vs H Q E h => by obtain ⟨x, a, dx, h, n, ts, es, rfl, _⟩ := h; rfl) (fun f cdv A outer s H vs Q E hr h => body_webX T T.cl_Web T.na_Web_height T.na_Web_size T.na_Web_edges f cdv A outer s H vs Q E hr h)
end
end LR
set_option Elab.async false
set_option maxRecDepth 100000
set_option linter.all false
set_option maxHeartbeats 4000000
namespace LR
open PySem PySem.Spec PyProof.Rows L2
section
variable {P : Program} {w : World} {K : PySem.W.Frag} {mg : Str → Option Value} {base : Heap} {ζ : Cs}
def nlC (c : Nat) : Bool := !(decide (c = 65) || decide (c = 66))
theorem ownsOf_none {s : Str} : ownsOf s = none ↔ s.cps.toList.any nlC = true := by
  unfold ownsOf
  generalize s.cps.toList = l
  induction l with
  | nil => exact ⟨fun z => (by cases z), fun z => (by cases z)⟩
  | cons c r ih =>
    rw [List.mapM_cons, List.any_cons, Bool.or_eq_true, ← ih]
    by_cases a : c = 65
    · rw [if_pos a]
      have : nlC c = false := by unfold nlC; rw [decide_eq_true a]; rfl
      rw [this]
      cases q : r.mapM (fun c => if c = 65 then some true else if c = 66 then some false else none) with
      | none => exact ⟨fun _ => .inr rfl, fun _ => rfl⟩
      | some x => exact ⟨fun z => (by cases z), fun z => (by rcases z with z | z <;> cases z)⟩
    · rw [if_neg a]
      by_cases b : c = 66
      · rw [if_pos b]
        have : nlC c = false := by unfold nlC; rw [decide_eq_true b, Bool.or_true]; rfl
        rw [this]
        cases q : r.mapM (fun c => if c = 65 then some true else if c = 66 then some false else none) with
        | none => exact ⟨fun _ => .inr rfl, fun _ => rfl⟩
        | some x => exact ⟨fun z => (by cases z), fun z => (by rcases z with z | z <;> cases z)⟩
      · rw [if_neg b]
        have : nlC c = true := by unfold nlC; rw [decide_eq_false a, decide_eq_false b]; rfl
        exact ⟨fun _ => .inl this, fun _ => rfl⟩
theorem inV_AB (c : Nat) : inV (.str ⟨#[c]⟩) [.str (Str.ofString "A"), .str (Str.ofString "B")] = !nlC c := by
  have e1 : (Str.ofString "A") = ⟨#[65]⟩ := by decide +kernel
  have e2 : (Str.ofString "B") = ⟨#[66]⟩ := by decide +kernel
  have k : ∀ d : Nat, eqV (.str ⟨#[d]⟩) (.str ⟨#[c]⟩) = decide (c = d) := fun d => by
    show ((⟨#[d]⟩ : Str) == ⟨#[c]⟩) = _
    rw [Bool.eq_iff_iff, decide_eq_true_eq, beq_iff_eq]
    constructor
    · intro h; injection h with h; simpa using h.symm
    · intro h; rw [h]
  unfold inV nlC
  rw [e1, e2, Bool.not_not, List.any_cons, List.any_cons, List.any_nil, Bool.or_false, k, k]
def spChkOwnX (D : Addr) : Sp := fun vs H Q E => ∃ z : Str, vs = [.str z] ∧ z.length ≤ 1000 ∧ (∀ os, (1 ≤ z.length ∧ z.length ≤ 9) → ownsOf z = some os → ∀ H', Same H H' → Q .non H') ∧ (¬ (1 ≤ z.length ∧ z.length ≤ 9) ∨ ownsOf z = none → ∀ H', Same H H' → E (.ref D) none H')
theorem ok_chkownX (T : Txt P K mg ζ) : CalX P w K mg base 3 "_check_owners" (spChkOwnX ζ.BadOwners) := by
  refine T.d__check_owners.calX sc__check_owners (fun vs H Q E h => ?_) (fun f cdv A outer s H vs Q E hr h => ⟨_, pss_cons (ps_if (pt_not (pt_chain op_le op_le (pe_int) (pe_callB call_len_str (by rfl) T.n_len b_len (pa_cons (pv 0) pa_nil)) (ClX.pe_cval (pe_glob (v := .ref ζ.Web) (by rfl) T.mg_Web rfl)) ))
 (pss_one (ps_raise rfl (takes_of rfl rfl rfl rfl) (SkE.pmk_own1 PySem.F.excBase_ValueError T.r_BadOwners.xP T.r_BadOwners.gC T.r_BadOwners.kP (raises_own T.r_BadOwners.bP T.r_BadOwners.tP) (by rfl) (pe_joined (PJ.cons (pe_str) (PJ.cons (pe_fmt (pe_callB call_len_str (by rfl) T.n_len b_len (pa_cons (pv 0) pa_nil))) (PJ.cons (pe_str) (PJ.nil))))))))
 (pss_nil))
 (pss_one (ps_if (pt_val (pe_callB (cr_any rfl) (by rfl) T.n_any b_any (pa_cons (pe_lc (own := [("owner", 1)]) (g := gName 1) (tt := tYes)  rfl sc__check_owners.nd (pi_str (pv 0)) (blkOk_by (N := N__check_owners) (sc := defScope s__check_owners) (by decide +kernel)) (fun _ _ _ _ _ => pg_name (i := 1) sc__check_owners.nd rfl (Or.inl rfl)) (fun _ _ _ _ _ => pts_nil) (fun _ _ _ _ _ => pe_cmpR (op_notInK (K := K) rfl) (pv 1) (pe_tup (pa_cons (pe_str) (pa_cons (pe_str) (pa_nil)))) rfl)) (pa_nil))))
 (pss_one (ps_raise rfl (takes_of rfl rfl rfl rfl) (SkE.pmk_own1 PySem.F.excBase_ValueError T.r_BadOwners.xP T.r_BadOwners.gC T.r_BadOwners.kP (raises_own T.r_BadOwners.bP T.r_BadOwners.tP) (by rfl) (pe_str))))
 (pss_nil))), ?_⟩)
  · obtain ⟨os, rfl, _⟩ := h; rfl
  obtain ⟨z, rfl, hz, good, bad⟩ := h
  obtain ⟨mc, u, cr, cv⟩ := T.cv_Web_MOST_NODES
  have hsz : z.cps.size = z.length := rfl
  have zs : ((z.length : Nat) : Int).natAbs < 2 ^ 1900 := small_idx (by omega)
  have bd : ¬ (1 ≤ z.length ∧ z.length ≤ 9) → ∀ cls, cls = Value.ref ζ.BadOwners → tJs [tC (V.str (Str.ofString "a game does not have ")), tFmt (tCB (fun xs H Q => ∃ z, xs = [V.str z] ∧ z.length ≤ sizeLine ∧ Q (V.int ↑z.length) H) (tCons (tVar 0) tNil)), tC (V.str (Str.ofString " owners"))] Str.empty (L2.start N__check_owners [V.str z]) H fun out H1 => E cls none H1 := fun no cls ec => by
    subst ec
    refine js_c (n := 0) (by decide) (Nat.zero_le _) (by decide +kernel) fun acc h1 => ?_
    refine js_v (n := 1000) (v := ((z.length : Nat) : Int)) (by decide) h1 (log_small zs) (fun Q q => ⟨_, rfl, _, rfl, (by rw [sizeLine_eq]; omega), q⟩) fun acc h2 => ?_
    exact js_c (n := 2921) (by decide) h2 (by decide +kernel) fun acc h3 => bad (.inl no) _ (Same.refl _)
  refine ⟨_, rfl, _, rfl, (by rw [sizeLine_eq]; omega), _, _, rfl, rfl, _, rfl, ite2 (fun c1 => ?_) (fun c1 => ⟨_, rfl, iteT (bd (fun y => c1 (decide_eq_true (by omega))) _ rfl)⟩)⟩
  have c1 := of_decide_eq_true c1
  refine ⟨ζ.Web, mc, _, u, rfl, cr, cv, _, _, rfl, rfl, _, rfl, ite_b (fun c2 => bd (fun y => by rw [decide_eq_true (by omega)] at c2; cases c2) _ rfl) (fun c2 => ?_)⟩
  have c2 : z.length ≤ 9 := by
    by_cases q : (z.length : Int) ≤ 9
    · omega
    · rw [decide_eq_false q] at c2; cases c2
  have rg : 1 ≤ z.length ∧ z.length ≤ 9 := by omega
  refine ⟨_, rfl, _, rfl, fun D hD => ?_⟩
  refine lc_it (walk_str (z := z)) (fun i H' => Same H H' ∧ H' D = some (.lst (((z.cps.toList.take i).map nlC).map V.bl))) ⟨same_new hD, upd_same⟩ (fun _ _ _ _ => trivial) ?_ ?_
  · rintro i x H2 H3 hi ⟨s2, hD2⟩ ⟨rfl, c, hc, rfl⟩
    have hc2 : z.cps.toList[i]? = some c := by rw [Array.getElem?_toList]; exact hc
    refine ⟨rfl, _, rfl, (by show 2 ≤ sizeLine; decide), fun t ht => ?_⟩
    refine ⟨t, _, rfl, .inr (SqT.of upd_same), rfl, rfl, ((z.cps.toList.take i).map nlC).map V.bl, ?_, ?_, fun q o e => ?_, ?_⟩
    · exact (same_new ht) _ _ hD2
    · rw [List.length_map, List.length_map, List.length_take, Array.length_toList, sizeLine_eq]; omega
    · rw [upd_ne (ne_of_none e hD), upd_ne (ne_of_none (s2 _ _ e) ht)]; exact s2 _ _ e
    · rw [upd_same, List.take_succ, hc2, List.map_append, List.map_append]
      have := inV_AB c
      show some (HO.lst (_ ++ [V.bl (!inV (.str ⟨#[c]⟩) [.str (Str.ofString "A"), .str (Str.ofString "B")])])) = _
      rw [this, Bool.not_not]; rfl
  · rintro H2 ⟨s2, hD2⟩
    rw [List.take_of_length_le (by rw [Array.length_toList]; exact Nat.le_refl _)] at hD2
    refine ⟨_, _, rfl, SqL.of hD2, _, rfl, ?_⟩
    have an : (z.cps.toList.map nlC).any id = z.cps.toList.any nlC := by rw [List.any_map]; rfl
    rw [an]
    refine ite_b (fun c => bad (.inr (ownsOf_none.mpr c)) _ s2) (fun c => ?_)
    cases q : ownsOf z with
    | none => rw [ownsOf_none.mp q] at c; cases c
    | some os => exact good os rg q _ s2
def spDeadX (D : Addr) : Sp := fun vs H Q E => ∃ (n : Nat) (te : Addr) (us : List Addr) (ss : List (List Int)), vs = [.int n, .ref te] ∧ n ≤ 9 ∧ H te = some (.tup (us.map V.ref)) ∧ RowsH H us ss ∧ ss.length ≤ 63 ∧ (∀ e ∈ ss, e.length = 3) ∧ (deadIn n ss = none → ∀ H', Same H H' → Q .non H') ∧ (∀ v, deadIn n ss = some v → eIdx D "node" (v : Int) E H)
theorem deadIn_some {n i : Nat} {es : List (List Int)} (hi : i < n) (hp : (i : Int) ∉ es.map fun e => e.headD 0) (h : ∀ j : Nat, j < i → (j : Int) ∈ es.map fun e => e.headD 0) : deadIn n es = some i := by
  unfold deadIn
  rw [List.find?_range_eq_some]
  refine ⟨by rw [decide_eq_false hp]; rfl, List.mem_range.mpr hi, fun j hj => by rw [decide_eq_true (h j hj)]; rfl⟩
theorem deadIn_none {n : Nat} {es : List (List Int)} : deadIn n es = none ↔ ∀ v : Nat, v < n → (v : Int) ∈ es.map fun e => e.headD 0 := by
  unfold deadIn
  rw [List.find?_eq_none]
  constructor
  · intro h v hv
    have := h v (List.mem_range.mpr hv)
    apply Classical.byContradiction
    intro c
    rw [decide_eq_false c] at this
    exact this rfl
  · intro h v hv
    rw [decide_eq_true (h v (List.mem_range.mp hv))]; decide
theorem ok_deadX (T : Txt P K mg ζ) : CalX P w K mg base 3 "_check_dead_ends" (spDeadX ζ.DeadEnd) := by
  have e_DeadEnd : ErrOk P w K mg base "DeadEnd" ζ.DeadEnd "node" := err_DeadEnd T
  refine T.d__check_dead_ends.calX sc__check_dead_ends (fun vs H Q E h => ?_) (fun f cdv A outer s H vs Q E hr h => ⟨_, pss_cons (ps_setLc (i := 2) (own := [("edge", 3)]) (g := gName 3) (tt := tYes)  rfl sc__check_dead_ends.nd rfl rfl (sw_true rfl rfl rfl (by decide +kernel)) (pi_tup (pv 1)) (blkOk_by (N := N__check_dead_ends) (sc := defScope s__check_dead_ends) (by decide +kernel)) (fun _ _ _ _ _ => pg_name (i := 3) sc__check_dead_ends.nd rfl (Or.inl rfl)) (fun _ _ _ _ _ => pts_nil) (fun _ _ _ _ _ => pe_ix (ix_tupK (K := K) rfl) (pv 3) pe_int (fun _ _ => rfl)))
 (pss_one (ps_for (passes_of rfl) rfl (pi_range1 rfl T.n_range (pa_cons (pv 0) (pa_nil))) (pg_name (i := 4) sc__check_dead_ends.nd rfl (Or.inl rfl))
 (pss_one (ps_if (pt_cmpR op_notIn_seq (pv 4) (pv 2) rfl)
 (pss_one (ps_raise rfl (takes_of rfl rfl rfl rfl) (pmk_err e_DeadEnd hr (by first | decide | omega) (pa_cons (pv 4) (pa_nil)) rfl)))
 (pss_nil))))), ?_⟩)
  · obtain ⟨n, te, us, ss, rfl, _⟩ := h; rfl
  obtain ⟨n, te, us, ss, rfl, n9, ht, hR, hl, h3, kk, bad⟩ := h
  refine ⟨_, rfl, ⟨te, rfl, ⟨_, SqT.of ht⟩, fun D hD => ?_⟩⟩
  refine lc_tup (K := K) (a := te) (xs := us.map V.ref) (fun i H' => Same H H' ∧ H' D = some (.lst (((ss.take i).map fun e => e.headD 0).map V.int))) ⟨same_new hD, upd_same⟩ (fun i H' _ h => SqT.of (h.1 _ _ ht)) ?_ ?_
  · rintro i y H2 hy ⟨s2, hD2⟩
    rw [List.getElem?_map] at hy
    cases q : us[i]? with
    | none => rw [q] at hy; cases hy
    | some t =>
    rw [q] at hy; cases hy
    obtain ⟨e, ee, he⟩ := hR.getT q
    obtain ⟨s0, r0, t0, rfl⟩ := len3 (h3 e (List.mem_of_getElem? ee))
    have et : ss.take (i + 1) = ss.take i ++ [[s0, r0, t0]] := by rw [List.take_succ, ee]; rfl
    refine ⟨rfl, _, rfl, t, _, _, _, rfl, rfl, SqT.of (s2 _ _ he), rfl, _, hD2, ?_, fun b o e => ?_, ?_⟩
    · rw [List.length_map, List.length_map, List.length_take, sizeLine_eq]; omega
    · rw [upd_ne (ne_of_none e hD)]; exact s2 _ _ e
    · rw [upd_same, et, List.map_append, List.map_append]; rfl
  · rintro H2 ⟨s2, hD2⟩
    rw [List.length_map, hR.1, List.take_length] at hD2
    generalize hl2 : (ss.map fun e => e.headD 0) = l at hD2
    refine ⟨_, rfl, _, rfl, by omega, by omega, ?_⟩
    refine for_range (lo := 0) (n := ((n : Int)).toNat) (fun i σ H' => Same H H' ∧ H' D = some (.lst (l.map V.int)) ∧ (∀ v : Nat, v < i → (v : Int) ∈ l) ∧ ∃ z3 z4 : Option V, σ = [some (.int n), some (.ref te), some (.ref D), z3, z4]) ⟨s2, hD2, fun v hv => by omega, none, none, rfl⟩ ?_ ?_
    · rintro i σ H3 hi ⟨s3, hl3, hm, z3, z4, rfl⟩
      rw [Int.toNat_natCast] at hi
      refine ⟨_, rfl, _, rfl, D, _, rfl, .inl (SqL.of hl3), rfl, flat_ints l, _, rfl, ?_⟩
      have := inV_ints (0 + (i : Nat)) l
      rw [this, Int.zero_add]
      refine ite_b (fun c => ?_) (fun c => ⟨s3, hl3, fun v hv => ?_, _, _, rfl⟩)
      · have c : (i : Int) ∉ l := by
          intro y; simp [y] at c
        exact ⟨_, rfl, mkE (small_idx (by omega)) fun d hd => bad i (deadIn_some hi (by rw [hl2]; exact c) (by rw [hl2]; exact hm)) H3 d s3 hd⟩
      · have c : (i : Int) ∈ l := by simpa using c
        by_cases y : v < i
        · exact hm v y
        · have : v = i := by omega
          rw [this]; exact c
    · rintro σ H3 ⟨s3, hl3, hm, _⟩
      rw [Int.toNat_natCast] at hm
      exact kk (deadIn_none.mpr (by rw [hl2]; exact hm)) _ s3
def spGameX (C C0 C1 C3 C4 C5 C6 : Addr) : Sp := fun vs H Q E => ∃ (x a dx : Addr) (h : Int) (z : Str) (ts : List Addr) (es : List (List Int)), vs = [.ref x, .int h, .str z, .ref a] ∧ H x = some (.ins C dx []) ∧ (H a = some (.lst (ts.map V.ref)) ∨ H a = some (.tup (ts.map V.ref))) ∧ RowsH H ts es ∧ h.natAbs < 2 ^ 1900 ∧ z.length ≤ 1000 ∧ es.length ≤ 1000 ∧ (∀ e ∈ es, e.length = 3) ∧
  (∀ os, gameDue h z es = .fine os → ∀ H' ss, Keep x H H' → GameAt C H' x h os ss → ss.Perm es → ss.Pairwise elt → Q .non H') ∧
  (gameDue h z es = .owners → ∀ H', Same H H' → E (.ref C0) none H') ∧
  (gameDue h z es = .web .height → ∀ H', Same H H' → E (.ref C1) none H') ∧ (gameDue h z es = .web .large → ∀ H', Same H H' → E (.ref C3) none H') ∧
  (∀ i, gameDue h z es = .web (.bad i) → eIdx C4 "index" (i : Int) E H) ∧ (∀ i, gameDue h z es = .web (.dup i) → eIdx C5 "index" (i : Int) E H) ∧
  (∀ v, gameDue h z es = .dead v → ∀ H' d, Keep x H H' → H' d = none → E (.ref C6) (some d) (upd H' d (.xd [("node", .int v)])))
theorem edDue_kind {h n : Int} : ∀ {es seen : List (List Int)} {i : Nat}, edDue h n seen i es ≠ .size
  | [], seen, i => fun z => by cases z
  | e :: r, seen, i => fun z => by
    unfold edDue at z
    split at z
    · cases z
    · split at z
      · cases z
      · exact edDue_kind z
theorem perm_heads {a b : List (List Int)} (p : a.Perm b) (n : Nat) : deadIn n a = deadIn n b := by
  unfold deadIn
  congr 1; funext v
  congr 1
  rw [decide_eq_decide]
  exact (p.map _).mem_iff
theorem ok_gameX (T : Txt P K mg ζ) : MakX P w K mg base 5 "Game" ζ.Game (spGameX ζ.Game ζ.BadOwners ζ.BadHeight ζ.TooLarge ζ.BadEdge ζ.DuplicateEdge ζ.DeadEnd) := by
  have cx__check_owners : CalX P w K mg base 3 "_check_owners" (spChkOwnX ζ.BadOwners) := ok_chkownX T
  have cx__check_dead_ends : CalX P w K mg base 3 "_check_dead_ends" (spDeadX ζ.DeadEnd) := ok_deadX T
  have su_init : SupTo P w K mg base (L2.CX P w) 4 ζ.Game ζ.Game "__init__" (spWebX ζ.Game ζ.BadHeight ζ.BadSize ζ.TooLarge ζ.BadEdge ζ.DuplicateEdge) := T.su_Game_init.toX sc_W_init (fun vs H Q E h => by obtain ⟨x, a, dx, h, n, ts, es, rfl, _⟩ := h; rfl) (fun f cdv A outer s H vs Q E hr h => body_webX T T.cl_Game T.na_Game_height T.na_Game_size T.na_Game_edges f cdv A outer s H vs Q E hr h)
  refine T.mk_Game.makX csc_G_init (fun vs H Q E h => ?_) (fun f cc cda fd A outer s H vs Q E S hr h => ⟨_, nss_cons (ns_ps (ps_expr (pe_cT cx__check_owners hr (by first | decide | omega) (takes_of rfl rfl rfl rfl) (by rfl) (pa_cons (pv 2) (pa_nil)))))
 (nss_cons (ns_expr (ne_supM (i := 0) S su_init hr (by first | decide | omega) (passes_call (takes_of rfl rfl rfl rfl) fun _ _ _ _ h => h) (pa_cons (pv 1) (pa_cons (pe_callB call_len_str (by rfl) T.n_len b_len (pa_cons (pv 2) pa_nil)) (pa_cons (pv 3) (pa_nil))))))
 (nss_cons (ns_ps (ps_fld (pv 0) (pv 2) rfl))
 (nss_one (ns_ps (ps_expr (pe_cT cx__check_dead_ends hr (by first | decide | omega) (takes_of rfl rfl rfl rfl) (by rfl) (pa_cons (pe_fld (pv 0) rfl) (pa_cons (pe_fld (pv 0) rfl) (pa_nil))))))))), ?_⟩)
  · obtain ⟨x, a, dx, h, os, ts, es, rfl, _⟩ := h; rfl
  obtain ⟨x, a, dx, h, z, ts, es, rfl, hx, ha, hR, hhs, hz, hl, h3, kk, k0, k1, k2, k4, k5, k6⟩ := h
  refine ⟨_, rfl, z, rfl, hz, fun os rg ow H1 s1 => ?_, fun no H1 s1 => k0 ?_ H1 s1⟩
  · have ez := ownsOf_some ow
    subst ez
    have hle := strO_len os
    rw [hle] at rg
    have g1 : gameDue h (strO os) es = match webDue h os.length es with
      | .fine => (match deadIn os.length es with
        | some v => .dead v
        | none => .fine os)
      | d => .web d := by
      first
      | (unfold gameDue; rw [hle, if_neg (fun z => z rg), ow]; done)
      | (unfold gameDue; rw [hle, if_neg (fun z => z rg), ow]; rfl)
    have gw : ∀ d, webDue h os.length es = d → d ≠ .fine → gameDue h (strO os) es = .web d := fun d e n => by
      rw [g1, e]
      cases d <;> first | rfl | exact absurd rfl n
    have hx1 := s1 _ _ hx
    refine ⟨x, dx, _, rfl, hx1, _, rfl, _, rfl, _, rfl, (by rw [hle, sizeLine_eq]; omega), _, rfl, ?_⟩
    rw [hle]
    refine ⟨x, a, dx, h, os.length, ts, es, rfl, hx1, ha.imp (s1 _ _) (s1 _ _), hR.same s1, hhs, small_idx (by omega), hl, h3, fun fine H2 ss k2' WA perm pw => ?_, fun e H2 s2 => k1 (gw _ e (by intro z; cases z)) H2 (s1.trans s2), fun e H2 s2 => ?_, fun e H2 s2 => k2 (gw _ e (by intro z; cases z)) H2 (s1.trans s2), fun i e => (k4 i (gw _ e (by intro z; cases z))).same s1, fun i e => (k5 i (gw _ e (by intro z; cases z))).same s1⟩
    · obtain ⟨hh, _, hl63, hok, hnd⟩ := webDue_fine.mp fine
      have g2 : gameDue h (strO os) es = match deadIn os.length es with
        | some v => .dead v
        | none => .fine os := by
        first
        | (rw [g1, fine]; done)
        | (rw [g1, fine]; rfl)
      obtain ⟨dx2, te, us, w1, w2, w3⟩ := WA
      have nte : te ≠ x := ne_of w2 w1 (by intro z; cases z)
      refine ⟨_, rfl, _, rfl, x, ζ.Game, dx2, _, rfl, w1, T.cl_Game, T.na_Game_owners, (by show 3 < 1000; decide), ?_⟩
      have k3 : Keep x H (upd H2 x (.ins ζ.Game dx2 (putF "owners" (.str (strO os)) [("height", V.int h), ("size", V.int os.length), ("edges", .ref te)]))) := (s1.keep.trans k2').upd
      have g3 : GameAt ζ.Game (upd H2 x (.ins ζ.Game dx2 (putF "owners" (.str (strO os)) [("height", V.int h), ("size", V.int os.length), ("edges", .ref te)]))) x h os ss := by
        refine ⟨dx2, te, us, upd_same, ?_, w3.1, fun k t e a b => ?_⟩
        · rw [upd_ne nte]; exact w2
        · have := w3.2 k t e a b
          rw [upd_ne (ne_of this w1 (by intro z; cases z))]; exact this
      generalize upd H2 x (.ins ζ.Game dx2 (putF "owners" (.str (strO os)) [("height", V.int h), ("size", V.int os.length), ("edges", .ref te)])) = H3 at k3 g3 ⊢
      obtain ⟨dx3, te3, us3, v1, v2, v3⟩ := id g3
      refine ⟨_, rfl, x, ζ.Game, dx3, _, _, rfl, v1, T.cl_Game, T.na_Game_size, rfl, _, rfl, x, ζ.Game, dx3, _, _, rfl, v1, T.cl_Game, T.na_Game_edges, rfl, ?_⟩
      refine ⟨os.length, te3, us3, ss, rfl, rg.2, v2, v3, (by rw [perm.length_eq]; exact hl63), fun e he => h3 e (perm.mem_iff.mp he), fun nd H4 s4 => ?_, fun v hv H4 d s4 hd => ?_⟩
      · rw [perm_heads perm] at nd
        exact kk os (by rw [g2, nd]) H4 ss (k3.same s4) (g3.same s4) perm pw
      · rw [perm_heads perm] at hv
        exact k6 v (by rw [g2, hv]) H4 d (k3.same s4) hd
    · exfalso
      unfold webDue at e
      split at e
      · cases e
      · split at e
        · rename_i c; exact c (by omega)
        · split at e
          · cases e
          · exact edDue_kind e
  · unfold gameDue
    by_cases c : 1 ≤ z.length ∧ z.length ≤ 9
    · rcases no with no | no
      · exact absurd c no
      · rw [if_neg (fun y => y c), no]
    · rw [if_pos c]
end
end LR
set_option Elab.async false
set_option maxRecDepth 100000
set_option linter.all false
set_option maxHeartbeats 4000000
namespace LR
open PySem PySem.Spec PyProof.Rows L2
section
variable {P : Program} {w : World} {K : PySem.W.Frag} {mg : Str → Option Value} {base : Heap} {ζ : Cs}
def spOwners : Sp := fun vs H Q _ => ∃ (p : Addr) (n : Nat), vs = [.ref p, .int n] ∧ IsPool H p ∧ n ≤ 200 ∧ ∀ H' (os : List Bool), Keep p H H' → IsPool H' p → os.length = n → Q (.str (strO os)) H'
theorem ok_owners (T : Txt P K mg ζ) : Cal P w K mg base 2 "_law_owners" spOwners := by
  have c_draw : Cal P w K mg base 1 "_law_draw" spDraw := ok_draw T
  refine T.d_owners.cal sc_owners (fun vs H Q E h => ?_) (fun f cdv A outer s H vs Q E hr h => ⟨_, pss_cons (ps_set (i := 2) sc_owners.nd rfl (Or.inl rfl) (pe_str))
 (pss_cons (ps_for PassesOwn.never rfl (pi_range1 rfl T.n_range (pa_cons (pv 1) (pa_nil))) (pg_name (i := 3) sc_owners.nd rfl (Or.inl rfl))
 (pss_one (ps_set (i := 2) sc_owners.nd rfl (Or.inl rfl) (pe_op op_add_str (pv 2) (pe_ix ix_str pe_str (pe_c c_draw hr (by first | decide | omega) (by rfl) (pa_cons (pv 0) (pa_cons (pe_int) (pa_nil)))) (fun _ _ => rfl))))))
 (pss_one (ps_ret (pv 2)))), ?_⟩)
  · obtain ⟨p, n, rfl, _⟩ := h; rfl
  obtain ⟨p, n, rfl, hp, hn, kk⟩ := h
  refine ⟨_, rfl, _, rfl, by omega, by omega, ?_⟩
  refine for_range (lo := 0) (n := ((n : Nat) : Int).toNat) (fun i σ H' => Keep p H H' ∧ IsPool H' p ∧ ∃ (os : List Bool) (z : Option V), os.length = i ∧ σ = [some (.ref p), some (.int n), some (.str (strO os)), z]) ⟨Keep.refl, hp, [], none, rfl, rfl⟩ ?_ ?_
  · rintro i σ H2 hi ⟨k2, p2, os, z, hl, rfl⟩
    rw [Int.toNat_natCast] at hi
    have hle := strO_len os
    refine ⟨_, rfl, _, rfl, p, 2, rfl, p2, by decide, by decide, fun d H3 d0 d1 k3 p3 => ?_⟩
    obtain ⟨b, hb⟩ : ∃ b : Bool, atI ("AB" : Str).cps.toList d = some (ltr b) := by
      rcases (by omega : d = 0 ∨ d = 1) with q | q
      · subst q; exact ⟨true, rfl⟩
      · subst q; exact ⟨false, rfl⟩
    refine ⟨("AB" : Str), d, ltr b, rfl, rfl, (by show 2 ≤ sizeLine; decide), hb, strO os, ⟨#[ltr b]⟩, rfl, rfl, ?_, k2.trans k3, p3, os ++ [b], some (.int (0 + (i : Nat))), ?_, ?_⟩
    · rw [hle, sizeLine_eq]; show _ + 1 ≤ _; omega
    · rw [List.length_append, hl]; rfl
    · rw [strO_snoc]; rfl
  · rintro σ H2 ⟨k2, p2, os, z, hl, rfl⟩
    exact ⟨_, rfl, kk _ os k2 p2 (by rw [hl, Int.toNat_natCast])⟩
end
end LR
set_option Elab.async false
set_option maxRecDepth 100000
set_option linter.all false
set_option maxHeartbeats 4000000
namespace LR
open PySem PySem.Spec PyProof.Rows L2
section
variable {P : Program} {w : World} {K : PySem.W.Frag} {mg : Str → Option Value} {base : Heap} {ζ : Cs}
def fPool : Fs := fun as _ Q => ∃ (ns : List Int) (k : Nat), as = [.scr ns, .d (nat k)] ∧ Q .pool
theorem q_pool (T : Txt P K mg ζ) : CalX P w K mg base 1 "_law_pool" (spF K fPool) := (ok_pool T).toX.imp fun vs H Q E h => by
  obtain ⟨g, as, Ed, Qd, en, ia, ⟨ns, k, rfl, q⟩, kv, _⟩ := h
  obtain ⟨a, r, rfl, sc, ia⟩ := ia.s1
  obtain ⟨v, r, rfl, i1, ia⟩ := ia.d1
  cases ia.n0
  exact ⟨a, ns, k, by rw [i1.intE], sc.at_ en, fun p x y z t hp => kv (.ref p) .pool _ _ pool_le (en.ok.pool hp ⟨_, _, _, _, upd_same⟩) ⟨p, rfl, .inr rfl⟩ q⟩
def fDraw : Fs := fun as _ Q => ∃ m : Int, as = [.pool, .d (.int m)] ∧ 0 < m ∧ m < 1073741824 ∧ ∀ v : Int, 0 ≤ v → v < m → Q (.d (.int v))
theorem q_draw (T : Txt P K mg ζ) : CalX P w K mg base 1 "_law_draw" (spF K fDraw) := (ok_draw T).toX.imp fun vs H Q E h => by
  obtain ⟨g, as, Ed, Qd, en, ia, ⟨m, rfl, h0, h1, q⟩, kv, _⟩ := h
  obtain ⟨p, r, rfl, mp, ia⟩ := ia.p1
  obtain ⟨v, r, rfl, i1, ia⟩ := ia.d1
  cases ia.n0
  exact ⟨p, m, by rw [i1.intE], (en.ok.pl p mp).1, h0, h1, fun u H' u0 u1 kp hp => kv (.int u) (.d (.int u)) _ _ (grow_le en.ok) (en.ok.keep mp kp hp) (Is.int u) (q u u0 u1)⟩
end
end LR
set_option Elab.async false
set_option maxRecDepth 100000
set_option linter.all false
set_option maxHeartbeats 4000000
namespace LR
open PySem PySem.Spec PyProof.Rows L2
section
variable {P : Program} {w : World} {K : PySem.W.Frag} {mg : Str → Option Value} {base : Heap} {ζ : Cs}
def fOwners : Fs := fun as _ Q => ∃ n : Nat, as = [.pool, .d (nat n)] ∧ n ≤ 200 ∧ ∀ os : List Bool, os.length = n → Q (.d (.str (strO os)))
theorem q_owners (T : Txt P K mg ζ) : CalX P w K mg base 2 "_law_owners" (spF K fOwners) := (ok_owners T).toX.imp fun vs H Q E h => by
  obtain ⟨g, as, Ed, Qd, en, ia, ⟨n, rfl, h0, q⟩, kv, _⟩ := h
  obtain ⟨p, r, rfl, mp, ia⟩ := ia.p1
  obtain ⟨v, r, rfl, i1, ia⟩ := ia.d1
  cases ia.n0
  exact ⟨p, n, by rw [i1.intE], (en.ok.pl p mp).1, h0, fun H' os kp hp ho => kv (.str _) (.d (.str _)) _ _ (grow_le en.ok) (en.ok.keep mp kp hp) (Is.str _) (q os ho)⟩
end
end LR
set_option Elab.async false
set_option maxRecDepth 100000
set_option linter.all false
set_option maxHeartbeats 4000000
namespace LR
open PySem PySem.Spec PyProof.Rows L2
section
variable {P : Program} {w : World} {K : PySem.W.Frag} {mg : Str → Option Value} {base : Heap} {ζ : Cs}
def fWeb (C : Addr) : Fs := fun as _ Q => ∃ (h n : Int) (tp : Bool) (es : List (List Int)), as = [.d (.int h), .d (.int n), .d (edX tp es)] ∧ (h = 1 ∨ h = 2 ∨ h = 3) ∧ (1 ≤ n ∧ n ≤ 9) ∧ es.length ≤ 63 ∧ (∀ e ∈ es, EdgeOk h n e) ∧ es.Nodup ∧ ∀ ss, ss.Perm es → ss.Pairwise elt → Q (.d (webD C h n ss))
theorem made_rows {H : Hp} {y dx C : Addr} (hy : H y = none) (hd : H dx = none) : Same H (upd (upd H dx (.own y)) y (.ins C dx [])) := fun b o e => by
  rw [upd_ne (ne_of_none e hy), upd_ne (ne_of_none e hd)]; exact e
theorem mk_Web (T : Txt P K mg ζ) : ∀ {vs H Q E}, spF K (fWeb ζ.Web) vs H Q E → ∀ y dx, H y = none → H dx = none → dx ≠ y → spWeb ζ.Web (.ref y :: vs) (upd (upd H dx (.own y)) y (.ins ζ.Web dx [])) (fun v H2 => v = .non ∧ Q (.ref y) H2) E := fun {vs H Q E} h y dx hy hd ne => by
  obtain ⟨g, as, Ed, Qd, en, ia, ⟨h, n, tp, es, rfl, hh, hn, hl, hok, hnd, q⟩, kv, _⟩ := h
  obtain ⟨v1, r, rfl, i1, ia⟩ := ia.d1
  obtain ⟨v2, r, rfl, i2, ia⟩ := ia.d1
  obtain ⟨v3, r, rfl, i3, ia⟩ := ia.d1
  cases ia.n0
  obtain ⟨a, ts, rfl, ha, hr⟩ := edX_at i3
  have s0 := made_rows (C := ζ.Web) hy hd
  have sb := en.ok.sb
  refine ⟨y, a, dx, h, n, ts, es, by rw [i1.intE, i2.intE], upd_same, ?_, (hr.same sb).same s0, hh, hn, hl, hok, hnd, fun H' ss k W perm pw => ⟨rfl, ?_⟩⟩
  · rcases ha with ha | ha
    · exact .inl (s0 _ _ (sb _ _ ha))
    · exact .inr (s0 _ _ (sb _ _ ha))
  · have s1 := made_same hy hd k
    have w1 := en.ok.same s1
    have okS : ∀ e ∈ ss, EdgeOk h n e := fun e he => hok e (perm.mem_iff.mp he)
    refine kv _ (.d (webD ζ.Web h n ss)) H' _ (grow_le en.ok) w1 ?_ (q ss perm pw)
    exact webD_of w1 T.cl_Web (fun f hf => by
      simp only [List.mem_cons, List.not_mem_nil, or_false] at hf
      rcases hf with rfl | rfl | rfl
      · exact T.na_Web_height
      · exact T.na_Web_size
      · exact T.na_Web_edges) W (by rw [perm.length_eq]; omega) (ed3 okS)
end
end LR
set_option Elab.async false
set_option maxRecDepth 100000
set_option linter.all false
set_option maxHeartbeats 4000000
namespace LR
open PySem PySem.Spec PyProof.Rows L2
section
variable {P : Program} {w : World} {K : PySem.W.Frag} {mg : Str → Option Value} {base : Heap} {ζ : Cs}
def fGame (C : Addr) : Fs := fun as _ Q => ∃ (h : Int) (os : List Bool) (tp : Bool) (es : List (List Int)), as = [.d (.int h), .d (.str (strO os)), .d (edX tp es)] ∧ (h = 1 ∨ h = 2 ∨ h = 3) ∧ (1 ≤ os.length ∧ os.length ≤ 9) ∧ es.length ≤ 63 ∧ (∀ e ∈ es, EdgeOk h os.length e) ∧ es.Nodup ∧
  (∀ v : Nat, v < os.length → ∃ e ∈ es, e.head? = some (v : Int)) ∧ ∀ ss, ss.Perm es → ss.Pairwise elt → Q (.d (gameD C h os ss))
theorem naGame (T : Txt P K mg ζ) : ∀ f ∈ (["height", "size", "edges", "owners"] : List Str), NoAttr K ζ.Game f := fun f hf => by
  simp only [List.mem_cons, List.not_mem_nil, or_false] at hf
  rcases hf with rfl | rfl | rfl | rfl
  · exact T.na_Game_height
  · exact T.na_Game_size
  · exact T.na_Game_edges
  · exact T.na_Game_owners
theorem mk_Game (T : Txt P K mg ζ) : ∀ {vs H Q E}, spF K (fGame ζ.Game) vs H Q E → ∀ y dx, H y = none → H dx = none → dx ≠ y → spGame ζ.Game (.ref y :: vs) (upd (upd H dx (.own y)) y (.ins ζ.Game dx [])) (fun v H2 => v = .non ∧ Q (.ref y) H2) E := fun {vs H Q E} h y dx hy hd ne => by
  obtain ⟨g, as, Ed, Qd, en, ia, ⟨h, os, tp, es, rfl, hh, hn, hl, hok, hnd, hde, q⟩, kv, _⟩ := h
  obtain ⟨v1, r, rfl, i1, ia⟩ := ia.d1
  obtain ⟨v2, r, rfl, i2, ia⟩ := ia.d1
  obtain ⟨v3, r, rfl, i3, ia⟩ := ia.d1
  cases ia.n0
  obtain ⟨a, ts, rfl, ha, hr⟩ := edX_at i3
  have s0 := made_rows (C := ζ.Game) hy hd
  have sb := en.ok.sb
  refine ⟨y, a, dx, h, os, ts, es, by rw [i1.intE, i2.strE], upd_same, ?_, (hr.same sb).same s0, hh, hn, hl, hok, hnd, hde, fun H' ss k W perm pw => ⟨rfl, ?_⟩⟩
  · rcases ha with ha | ha
    · exact .inl (s0 _ _ (sb _ _ ha))
    · exact .inr (s0 _ _ (sb _ _ ha))
  · have s1 := made_same hy hd k
    have w1 := en.ok.same s1
    have okS : ∀ e ∈ ss, EdgeOk h os.length e := fun e he => hok e (perm.mem_iff.mp he)
    exact kv _ (.d (gameD ζ.Game h os ss)) H' _ (grow_le en.ok) w1 (gameD_of w1 T.cl_Game (naGame T) W (by rw [perm.length_eq]; omega) (ed3 okS)) (q ss perm pw)
end
end LR
set_option Elab.async false
set_option maxRecDepth 100000
set_option linter.all false
set_option maxHeartbeats 4000000
namespace LR
open PySem PySem.Spec PyProof.Rows L2
section
variable {P : Program} {w : World} {K : PySem.W.Frag} {mg : Str → Option Value} {base : Heap} {ζ : Cs}
/-- a game made, or what is due -/
def fGameX (C C0 C1 C3 C4 C5 C6 : Addr) : Fs := fun as Ed Q => ∃ (h : Int) (z : Str) (tp : Bool) (es : List (List Int)), as = [.d (.int h), .d (.str z), .d (edX tp es)] ∧ h.natAbs ≤ 1000000 ∧ z.length ≤ 1000 ∧ es.length ≤ 1000 ∧ (∀ e ∈ es, e.length = 3) ∧
  (∀ os, gameDue h z es = .fine os → ∀ ss, ss.Perm es → ss.Pairwise elt → Q (.d (gameD C h os ss))) ∧
  (gameDue h z es = .owners → Ed ⟨C0, none⟩) ∧ (gameDue h z es = .web .height → Ed ⟨C1, none⟩) ∧ (gameDue h z es = .web .large → Ed ⟨C3, none⟩) ∧
  (∀ i, gameDue h z es = .web (.bad i) → Ed ⟨C4, some [("index", .int (i : Nat))]⟩) ∧ (∀ i, gameDue h z es = .web (.dup i) → Ed ⟨C5, some [("index", .int (i : Nat))]⟩) ∧ (∀ v, gameDue h z es = .dead v → Ed ⟨C6, some [("node", .int (v : Nat))]⟩)
theorem gameDue_fine {h : Int} {z : Str} {es : List (List Int)} {os : List Bool} (e : gameDue h z es = .fine os) : z = strO os ∧ (h = 1 ∨ h = 2 ∨ h = 3) ∧ (1 ≤ os.length ∧ os.length ≤ 9) ∧ es.length ≤ 63 ∧ (∀ e ∈ es, EdgeOk h os.length e) ∧ es.Nodup ∧ ∀ v : Nat, v < os.length → (v : Int) ∈ es.map fun e => e.headD 0 := by
  unfold gameDue at e
  split at e
  · cases e
  · rename_i c
    split at e
    · cases e
    · rename_i os2 ow
      have ez := ownsOf_some ow
      split at e
      · rename_i w
        split at e
        · cases e
        · rename_i nd
          cases e
          obtain ⟨a, b, c2, d, f⟩ := webDue_fine.mp w
          exact ⟨ez, a, by omega, c2, d, f, deadIn_none.mp nd⟩
      · cases e
theorem er_new {g : G} {H H' : Hp} {d C : Addr} {fld : Str} {v : Int} (w : WOk g H) (s : Same H H') (hn : H d = none) (hd : H' d = some (.xd [(fld, .int v)])) : IsEr (g.grow H H').B (.ref C) (some d) ⟨C, some [(fld, .int v)]⟩ := ⟨rfl, d, rfl, by rw [grow_new hn]; exact hd⟩
theorem small1 {h : Int} (hh : h.natAbs ≤ 1000000) : h.natAbs < 2 ^ 1900 := Nat.lt_of_le_of_lt hh (Nat.lt_of_lt_of_le (by decide : 1000000 < 2 ^ 20) (Nat.pow_le_pow_right (by decide) (by decide)))
namespace GX
theorem mk_Game_of (T : Txt P K mg ζ) : ∀ {vs H Q E}, spF K (fGameX ζ.Game ζ.BadOwners ζ.BadHeight ζ.TooLarge ζ.BadEdge ζ.DuplicateEdge ζ.DeadEnd) vs H Q E → ∀ y dx, H y = none → H dx = none → dx ≠ y → spGameX ζ.Game ζ.BadOwners ζ.BadHeight ζ.TooLarge ζ.BadEdge ζ.DuplicateEdge ζ.DeadEnd (.ref y :: vs) (upd (upd H dx (.own y)) y (.ins ζ.Game dx [])) (fun v H2 => v = .non ∧ Q (.ref y) H2) E := fun {vs H Q E} h y dx hy hd ne => by
  obtain ⟨g, as, Ed, Qd, en, ia, ⟨h, z, tp, es, rfl, hh, hz, hl, h3, q, x0, x1, x2, x4, x5, x6⟩, kv, kx⟩ := h
  obtain ⟨v1, r, rfl, i1, ia⟩ := ia.d1
  obtain ⟨v2, r, rfl, i2, ia⟩ := ia.d1
  obtain ⟨v3, r, rfl, i3, ia⟩ := ia.d1
  cases ia.n0
  obtain ⟨a, ts, rfl, ha, hr⟩ := edX_at i3
  have s0 := made_rows (C := ζ.Game) hy hd
  have sb := en.ok.sb
  have r0 : ∀ C, Ed ⟨C, none⟩ → ∀ H', Same (upd (upd H dx (.own y)) y (.ins ζ.Game dx [])) H' → E (.ref C) none H' := fun C x H' s1 => kx ⟨C, none⟩ _ _ H' _ (grow_le en.ok) (en.ok.same (s0.trans s1)) ⟨rfl, rfl⟩ x
  have r1 : ∀ C fld v, Ed ⟨C, some [(fld, .int v)]⟩ → ∀ H' d, Keep y (upd (upd H dx (.own y)) y (.ins ζ.Game dx [])) H' → H' d = none → E (.ref C) (some d) (upd H' d (.xd [(fld, .int v)])) := fun C fld v x H' d k hd' => by
    have sa : Same H H' := made_same hy hd k
    have hn : H d = none := by
      cases c : H d with
      | none => rfl
      | some o => rw [sa _ _ c] at hd'; cases hd'
    have s1 : Same H (upd H' d (.xd [(fld, .int v)])) := sa.new hd'
    exact kx ⟨C, some [(fld, .int v)]⟩ _ _ _ _ (grow_le en.ok) (en.ok.same s1) (er_new en.ok s1 hn upd_same) x
  refine ⟨y, a, dx, h, z, ts, es, by rw [i1.intE, i2.strE], upd_same, ?_, (hr.same sb).same s0, small1 hh, hz, hl, h3, fun os e H' ss k W perm pw => ⟨rfl, ?_⟩, fun e => r0 _ (x0 e), fun e => r0 _ (x1 e), fun e => r0 _ (x2 e), fun i e H' d s1 hd' => r1 _ _ _ (x4 i e) H' d s1.keep hd', fun i e H' d s1 hd' => r1 _ _ _ (x5 i e) H' d s1.keep hd', fun v e H' d k hd' => r1 _ _ _ (x6 v e) H' d k hd'⟩
  · rcases ha with ha | ha
    · exact .inl (s0 _ _ (sb _ _ ha))
    · exact .inr (s0 _ _ (sb _ _ ha))
  · obtain ⟨_, _, _, hl63, hok, _⟩ := gameDue_fine e
    have s1 := made_same hy hd k
    have w1 := en.ok.same s1
    have okS : ∀ e ∈ ss, EdgeOk h os.length e := fun e he => hok e (perm.mem_iff.mp he)
    exact kv _ (.d (gameD ζ.Game h os ss)) H' _ (grow_le en.ok) w1 (gameD_of w1 T.cl_Game (naGame T) W (by rw [perm.length_eq]; omega) (ed3 okS)) (q os e ss perm pw)
end GX
theorem gameDue_own {h : Int} {os : List Bool} {es : List (List Int)} (n9 : 1 ≤ os.length ∧ os.length ≤ 9) : gameDue h (strO os) es = match webDue h os.length es with
    | .fine => (match deadIn os.length es with
      | some v => .dead v
      | none => .fine os)
    | d => .web d := by
  have hle := strO_len os
  first
  | (unfold gameDue; rw [hle, if_neg (fun z => z n9), ownsOf_strO]; done)
  | (unfold gameDue; rw [hle, if_neg (fun z => z n9), ownsOf_strO]; rfl)
end
end LR
set_option Elab.async false
set_option maxRecDepth 100000
set_option linter.all false
set_option maxHeartbeats 4000000
namespace LR
open PySem PySem.Spec PyProof.Rows L2
section
variable {P : Program} {w : World} {K : PySem.W.Frag} {mg : Str → Option Value} {base : Heap} {ζ : Cs}
theorem map_getD {α : Type} {f : α → D} {l : List α} {i : Nat} {x : D} (e : (l.map f)[i]? = some x) : ∃ y, l[i]? = some y ∧ x = f y := by
  rw [List.getElem?_map] at e
  cases h : l[i]? with
  | none => rw [h] at e; cases e
  | some y => rw [h] at e; cases e; exact ⟨y, rfl, rfl⟩
theorem rg_get {n i : Nat} {x : D} (e : (rgD 0 n)[i]? = some x) : i < n ∧ x = nat i := by
  unfold rgD at e
  obtain ⟨y, ey, rfl⟩ := map_getD e
  have hi := (List.getElem?_eq_some_iff.mp ey).1
  rw [List.length_range] at hi
  rw [List.getElem?_range hi] at ey
  cases ey
  exact ⟨hi, by show D.int _ = D.int _; rw [Int.zero_add]⟩
theorem rg_len {a : Int} {n : Nat} : (rgD a n).length = n := by unfold rgD; rw [List.length_map, List.length_range]
theorem pseq_of {p : PF} {env : List Ev} {l : List D} (h : p env = some (.lst l)) : (ipSeq p).p env = some l := by
  show pseq p env = _
  unfold pseq
  rw [h]
end
end LR
set_option Elab.async false
set_option maxRecDepth 100000
set_option linter.all false
set_option maxHeartbeats 4000000
namespace LR
open PySem PySem.Spec PyProof.Rows L2
section
variable {P : Program} {w : World} {K : PySem.W.Frag} {mg : Str → Option Value} {base : Heap} {ζ : Cs}
def fNum : Fs := fun as _ Q => ∃ i : Int, as = [.d (.int i)] ∧ Q (.d (.bl true))
theorem q_num (T : Txt P K mg ζ) : CalX P w K mg base 1 "_law_number" (spF K fNum) := by
  refine T.d_number.dl sc_number (by rintro as E Q ⟨i, rfl, _⟩; rfl) (by decide) fun fa cdv A outer s H E hr => ⟨_, qss_one (qs_ret (qe_p (qp_and (qp_callB (o_isi (T := "int") kitI) call_isi (by rfl) T.n_isinstance b_isinstance (qps_cons (qp_var (pv 0)) (qps_cons (qp_ty (pe_bltn (v := .ty "int") (by rfl) T.n_int b_int rfl)) (qps_nil)))) (qp_one (qp_not (qp_callB (o_isi (T := "bool") kitBo) call_isi (by rfl) T.n_isinstance b_isinstance (qps_cons (qp_var (pv 0)) (qps_cons (qp_ty (pe_bltn (v := .ty "bool") (by rfl) T.n_bool b_bool rfl)) (qps_nil))))))))), ?_⟩
  rintro as Ed Qd ⟨i, rfl, q⟩
  exact ⟨_, rfl, q⟩
end
end LR
set_option Elab.async false
set_option maxRecDepth 100000
set_option linter.all false
set_option maxHeartbeats 4000000
namespace LR
open PySem PySem.Spec PyProof.Rows L2
section
variable {P : Program} {w : World} {K : PySem.W.Frag} {mg : Str → Option Value} {base : Heap} {ζ : Cs}
def chS (c : Nat) : Str := ⟨#[c]⟩
def txS (l : List Nat) : Str := ⟨l.toArray⟩
theorem txS_ix {l : List Nat} {i c : Nat} (hl : l.length ≤ 1000) (h : l[i]? = some c) : ixD (.str (txS l)) (nat i) = some (.str (chS c)) :=
  strIx (z := txS l) (l := l) (by show l.toArray.toList = l; rw [List.toList_toArray]) hl h
theorem txS_len {l : List Nat} (h : l.length ≤ 1000) : lenD [.str (txS l)] = some (nat l.length) := by
  have e1 : (txS l).length = l.length := by show l.toArray.size = _; rw [List.size_toArray]
  show (if (txS l).length ≤ 100000 then some (nat (txS l).length) else none) = _
  rw [e1, if_pos (by omega)]
theorem addS_txS {a b : List Nat} (h : a.length + b.length ≤ 100000) : addD (.str (txS a)) (.str (txS b)) = some (.str (txS (a ++ b))) := by
  have e1 : ∀ l : List Nat, (txS l).length = l.length := fun l => by show l.toArray.size = _; rw [List.size_toArray]
  show (if (txS a).length + (txS b).length ≤ 100000 then some (D.str (txS a ++ txS b)) else none) = _
  rw [if_pos (by rw [e1, e1]; exact h)]
  congr 2
  show (⟨a.toArray ++ b.toArray⟩ : Str) = ⟨(a ++ b).toArray⟩
  congr 1
  simp
theorem sliS_take {l : List Nat} {k : Nat} (hl : l.length ≤ 1000) (hk : k ≤ l.length) : sliD (.str (txS l)) none (some (k : Int)) = some (.str (txS (l.take k))) := by
  have e1 : (txS l).length = l.length := by show l.toArray.size = _; rw [List.size_toArray]
  show (if (txS l).length ≤ 100000 then some (D.str (cutS (txS l) none (some (k : Int)))) else none) = _
  rw [if_pos (by omega)]
  unfold cutS
  rw [HT.sIx_none, HT.sIx_nat, e1]
  congr 2
  show (⟨(((l.toArray).toList.drop 0).take (min k l.length - 0)).toArray⟩ : Str) = ⟨(l.take k).toArray⟩
  rw [List.toList_toArray, List.drop_zero, Nat.sub_zero, Nat.min_eq_left hk]
theorem sliS_drop {l : List Nat} {k : Nat} (hl : l.length ≤ 1000) (hk : k ≤ l.length) : sliD (.str (txS l)) (some (k : Int)) none = some (.str (txS (l.drop k))) := by
  have e1 : (txS l).length = l.length := by show l.toArray.size = _; rw [List.size_toArray]
  show (if (txS l).length ≤ 100000 then some (D.str (cutS (txS l) (some (k : Int)) none)) else none) = _
  rw [if_pos (by omega)]
  unfold cutS
  rw [HT.sIx_none, HT.sIx_nat, e1]
  congr 2
  show (⟨(((l.toArray).toList.drop (min k l.length)).take (l.length - min k l.length)).toArray⟩ : Str) = ⟨(l.drop k).toArray⟩
  rw [List.toList_toArray, Nat.min_eq_left hk, List.take_of_length_le (by rw [List.length_drop]; exact Nat.le_refl _)]
theorem psliS_take {p q : PF} {env : List Ev} {l : List Nat} {n : Nat} (h : p env = some (.str (txS l))) (k : q env = some (nat n)) (hl : l.length ≤ 1000) (hn : n ≤ l.length) : psli p none (some q) env = some (.str (txS (l.take n))) := by
  have e : evO (some q) env = some (some (n : Int)) := by
    show (match q env with
      | some (.int i) => some (some i)
      | _ => none) = _
    rw [k]
  unfold psli
  rw [h, e]
  exact sliS_take hl hn
theorem psliS_drop {p q : PF} {env : List Ev} {l : List Nat} {n : Nat} (h : p env = some (.str (txS l))) (k : q env = some (nat n)) (hl : l.length ≤ 1000) (hn : n ≤ l.length) : psli p (some q) none env = some (.str (txS (l.drop n))) := by
  have e : evO (some q) env = some (some (n : Int)) := by
    show (match q env with
      | some (.int i) => some (some i)
      | _ => none) = _
    rw [k]
  unfold psli
  rw [h, e]
  exact sliS_drop hl hn
theorem cutD_take {l : List D} {n : Nat} : cutD l none (some (n : Int)) = l.take n := by
  unfold cutD
  rw [HT.sIx_none, HT.sIx_nat, List.drop_zero, Nat.sub_zero]
  rcases Nat.le_total n l.length with h | h
  · rw [Nat.min_eq_left h]
  · rw [Nat.min_eq_right h, List.take_of_length_le (Nat.le_refl _), List.take_of_length_le h]
theorem psliL_take {p q : PF} {env : List Ev} {l : List D} {n : Nat} (h : p env = some (.lst l)) (k : q env = some (nat n)) : psli p none (some q) env = some (.lst (l.take n)) := by
  have e : evO (some q) env = some (some (n : Int)) := by
    show (match q env with
      | some (.int i) => some (some i)
      | _ => none) = _
    rw [k]
  unfold psli
  rw [h, e]
  show some (D.lst (cutD l none (some (n : Int)))) = _
  rw [cutD_take]
theorem in_edsX (e : List Int) (es : List (List Int)) : ∃ b : Bool, inD (intT e) (.lst (es.map intT)) = some (.bl b) ∧ (b = true ↔ e ∈ es) := by
  obtain ⟨b, h, hb⟩ := nin_eds e es
  obtain ⟨c, hc, e2⟩ := notO_some (show notO (inL (intT e) (es.map intT)) = some (.bl b) from h)
  cases e2
  refine ⟨c, hc, ?_⟩
  cases c
  · exact ⟨fun z => (by cases z), fun z => absurd z (hb.mp rfl)⟩
  · exact ⟨fun _ => Classical.byContradiction fun n => Bool.noConfusion (hb.mpr n), fun _ => rfl⟩
theorem filt_head {p : Nat → Bool} {n x : Nat} {r : List Nat} (h : (List.range n).filter p = x :: r) : x < n ∧ p x = true ∧ ∀ j, j < x → p j = false := by
  have e : ((List.range n).filter p).head? = some x := by rw [h]; rfl
  rw [List.head?_filter, List.find?_range_eq_some] at e
  exact ⟨List.mem_range.mp e.2.1, e.1, fun j hj => by have := e.2.2 j hj; simpa using this⟩
theorem filt_nil {p : Nat → Bool} {n : Nat} (h : (List.range n).filter p = []) : ∀ j, j < n → p j = false := fun j hj => by
  have := List.filter_eq_nil_iff.mp h j (List.mem_range.mpr hj)
  simpa using this
end
end LR
set_option Elab.async false
set_option maxRecDepth 100000
set_option linter.all false
set_option maxHeartbeats 4000000
namespace LR
open PySem PySem.Spec PyProof.Rows L2
section
variable {P : Program} {w : World} {K : PySem.W.Frag} {mg : Str → Option Value} {base : Heap} {ζ : Cs}
def fIsEdge : Fs := fun as _ Q => ∃ e : List Int, as = [.d (intT e)] ∧ e.length = 3 ∧ Q (.d (.bl true))
theorem q_isEdge (T : Txt P K mg ζ) : CalX P w K mg base 2 "_law_is_edge" (spF K fIsEdge) := by
  have cx_number : CalX P w K mg base 1 "_law_number" (spF K fNum) := q_num T
  refine T.d_is_edge.dl sc_is_edge (by rintro as E Q ⟨e, rfl, _⟩; rfl) (by decide) fun fa cdv A outer s H E hr => ⟨_, qss_cons (qs_if (qt_p (QPW.qpt (qpw_or (qpt_not (qpt_truth (qp_callB (o_isi (T := "tuple") kitU) call_isi (by rfl) T.n_isinstance b_isinstance (qps_cons (qp_var (pv 0)) (qps_cons (qp_ty (pe_bltn (v := .ty "tuple") (by rfl) T.n_tuple b_tuple rfl)) (qps_nil)))))) (qpw_or1 (qpt_cmp (op_neD hr.units) o_ne (qp_callB o_len c_len (by rfl) T.n_len b_len (qps_cons (qp_var (pv 0)) (qps_nil))) (qp_int) (nomark _))))))
 (qss_one (qs_ret (qe_p (qp_bl))))
 (qss_nil))
 (qss_one (qs_ret (qe_and (qe_cT cx_number hr (by first | decide | omega) (takes_of rfl rfl rfl rfl) (by rfl) (qa_cons (qe_p (qp_ix ix_A o_ix (qp_var (pv 0)) (qp_int) (fun _ _ => rfl))) (qa_nil))) (qe_and (qe_cT cx_number hr (by first | decide | omega) (takes_of rfl rfl rfl rfl) (by rfl) (qa_cons (qe_p (qp_ix ix_A o_ix (qp_var (pv 0)) (qp_int) (fun _ _ => rfl))) (qa_nil))) (qe_one (qe_cT cx_number hr (by first | decide | omega) (takes_of rfl rfl rfl rfl) (by rfl) (qa_cons (qe_p (qp_ix ix_A o_ix (qp_var (pv 0)) (qp_int) (fun _ _ => rfl))) (qa_nil)))))))), ?_⟩
  rintro as Ed Qd ⟨e, rfl, h3, q⟩
  obtain ⟨a, b, c, rfl⟩ := len3 h3
  refine ⟨false, por_of (a := false) rfl (fun _ => rfl) (fun z => by cases z), (fun z => by cases z), fun _ => ?_⟩
  refine ⟨_, p2_of rfl rfl (atI_of (k := 0) rfl), a, rfl, true, rfl, fun _ => ?_, fun z => by cases z⟩
  refine ⟨_, p2_of rfl rfl (atI_of (k := 1) rfl), b, rfl, true, rfl, fun _ => ?_, fun z => by cases z⟩
  exact ⟨_, p2_of rfl rfl (atI_of (k := 2) rfl), c, rfl, q⟩
def fAnyC : Fs := fun as _ Q => ∃ near far : Nat, as = [.pool, .d (nat near), .d (nat far)] ∧ (1 ≤ near ∧ near ≤ 1000) ∧ (1 ≤ far ∧ far ≤ 1000) ∧ ∀ v : Int, -100 ≤ v → (v < near ∨ v + 70 < far) → Q (.d (.int v))
theorem q_anyC (T : Txt P K mg ζ) : CalX P w K mg base 2 "_law_any_count" (spF K fAnyC) := by
  have cx_draw : CalX P w K mg base 1 "_law_draw" (spF K fDraw) := q_draw T
  refine T.d_any_count.dl sc_any_count (by rintro as E Q ⟨n, f, rfl, _⟩; rfl) (by decide) fun fa cdv A outer s H E hr => ⟨_, qss_cons (qs_if (qt_cmp (op_eqD hr.units) o_eq (qe_cT cx_draw hr (by first | decide | omega) (takes_of rfl rfl rfl rfl) (by rfl) (qa_cons (qe_var (pv 0)) (qa_cons (qe_p (qp_int)) (qa_nil)))) (qe_p (qp_int)) (nomark _))
 (qss_one (qs_ret (qe_op op_sub o_sub (qe_cT cx_draw hr (by first | decide | omega) (takes_of rfl rfl rfl rfl) (by rfl) (qa_cons (qe_var (pv 0)) (qa_cons (qe_var (pv 2)) (qa_nil)))) (qe_p (qp_int)))))
 (qss_nil))
 (qss_one (qs_ret (qe_op op_sub o_sub (qe_cT cx_draw hr (by first | decide | omega) (takes_of rfl rfl rfl rfl) (by rfl) (qa_cons (qe_var (pv 0)) (qa_cons (qe_var (pv 1)) (qa_nil)))) (qe_p (qp_int))))), ?_⟩
  rintro as Ed Qd ⟨n, f, rfl, hn, hf, q⟩
  refine ⟨_, rfl, 4, rfl, by decide, by decide, fun u u0 u1 => ⟨_, rfl, _, rfl, _, rfl, fun _ => ?_, fun _ => ?_⟩⟩
  · exact ⟨f, rfl, by omega, by omega, fun v v0 v1 => ⟨_, rfl, _, rfl, q _ (by omega) (by omega)⟩⟩
  · exact ⟨n, rfl, by omega, by omega, fun v v0 v1 => ⟨_, rfl, _, rfl, q _ (by omega) (by omega)⟩⟩
def fBey : Fs := fun as _ Q => ∃ many : Int, as = [.pool, .d (.int many)] ∧ ∀ v : Int, Q (.d (.int v))
theorem q_bey (T : Txt P K mg ζ) : CalX P w K mg base 2 "_law_beyond" (spF K fBey) := by
  have cx_draw : CalX P w K mg base 1 "_law_draw" (spF K fDraw) := q_draw T
  refine T.d_beyond.dl sc_beyond (by rintro as E Q ⟨n, rfl, _⟩; rfl) (by decide) fun fa cdv A outer s H E hr => ⟨_, qss_cons (qs_setN (i := 2) false sc_beyond.nd rfl (Or.inl rfl) (qe_op op_mulA o_mul (qe_cT cx_draw hr (by first | decide | omega) (takes_of rfl rfl rfl rfl) (by rfl) (qa_cons (qe_var (pv 0)) (qa_cons (qe_p (qp_int)) (qa_nil)))) (qe_cT cx_draw hr (by first | decide | omega) (takes_of rfl rfl rfl rfl) (by rfl) (qa_cons (qe_var (pv 0)) (qa_cons (qe_p (qp_op op_pow o_pow (qp_int) (qp_int))) (qa_nil))))))
 (qss_cons (qs_if (qt_cmp (op_eqD hr.units) o_eq (qe_cT cx_draw hr (by first | decide | omega) (takes_of rfl rfl rfl rfl) (by rfl) (qa_cons (qe_var (pv 0)) (qa_cons (qe_p (qp_int)) (qa_nil)))) (qe_p (qp_int)) (nomark _))
 (qss_one (qs_ret (qe_p (qp_op op_sub o_sub (qp_neg (qp_int)) (qp_var (pv 2))))))
 (qss_nil))
 (qss_one (qs_ret (qe_p (qp_op op_addA o_add (qp_var (pv 1)) (qp_var (pv 2))))))), ?_⟩
  rintro as Ed Qd ⟨n, rfl, q⟩
  have fin : ∀ x : Int, (dSeq (dIfS (dB (d2 eqD (dCall fDraw (daCons (dVar 0) (daCons (dP (pc (D.int 2))) daNil))) (dP (pc (D.int 0))))) (dRet (dP (p2 subD (p1 negD (pc (D.int 1))) (pvar 2)))) dNext) (dRet (dP (p2 addD (pvar 1) (pvar 2)))) (Dn.ofF Ed Qd) [.pool, .d (.int n), .d (.int x)]) := fun x => by
    refine ⟨_, rfl, 2, rfl, by decide, by decide, fun u u0 u1 => ⟨_, rfl, _, rfl, _, rfl, fun _ => ⟨_, rfl, q _⟩, fun _ => ⟨_, rfl, q _⟩⟩⟩
  refine ⟨_, rfl, 2, rfl, by decide, by decide, fun v v0 v1 => ?_⟩
  refine ⟨.int 100000, p2_of rfl rfl ?_, 100000, rfl, by decide, by decide, fun u u0 u1 => ⟨.int (v * u), ?_, fin _⟩⟩
  · show (if (0 : Int) ≤ 5 ∧ (5 : Int) ≤ 1000000 ∧ (10 : Int).natAbs < 2 ^ 64 then some (D.int ((10 : Int) ^ (5 : Int).toNat)) else none) = _
    rw [if_pos ⟨by decide, by decide, by decide⟩]; rfl
  · show (if (smI v || smI u) = true then some (D.int (v * u)) else none) = _
    rw [if_pos (by rw [show smI v = true by unfold smI; rw [decide_eq_true (by omega), decide_eq_true (by omega)]; rfl]; rfl)]
theorem u_lenE2 (c : List (List Int)) : lenD [edL c] = some (nat c.length) := some_nat (by rw [List.length_map])
def fOneE : Fs := fun as _ Q => ∃ (top n : Nat) (es : List (List Int)), as = [.pool, .d (nat top), .d (nat n), .d (edL es)] ∧ top ≤ 100 ∧ (1 ≤ n ∧ n ≤ 1000) ∧ es.length ≤ 1000 ∧ (∀ e ∈ es, e.length = 3) ∧ ∀ e : List Int, e.length = 3 → Q (.d (intT e))
theorem q_oneE (T : Txt P K mg ζ) : CalX P w K mg base 3 "_law_one_edge" (spF K fOneE) := by
  have cx_draw : CalX P w K mg base 1 "_law_draw" (spF K fDraw) := q_draw T
  have cx_beyond : CalX P w K mg base 2 "_law_beyond" (spF K fBey) := q_bey T
  refine T.d_one_edge.dl sc_one_edge (by rintro as E Q ⟨t, n, es, rfl, _⟩; rfl) (by decide) fun fa cdv A outer s H E hr => ⟨_, qss_cons (qs_setN (i := 4) false sc_one_edge.nd rfl (Or.inl rfl) (qe_tup (qa_cons (qe_cT cx_draw hr (by first | decide | omega) (takes_of rfl rfl rfl rfl) (by rfl) (qa_cons (qe_var (pv 0)) (qa_cons (qe_var (pv 2)) (qa_nil)))) (qa_cons (qe_cT cx_draw hr (by first | decide | omega) (takes_of rfl rfl rfl rfl) (by rfl) (qa_cons (qe_var (pv 0)) (qa_cons (qe_p (qp_op op_addA o_add (qp_var (pv 1)) (qp_int))) (qa_nil)))) (qa_cons (qe_cT cx_draw hr (by first | decide | omega) (takes_of rfl rfl rfl rfl) (by rfl) (qa_cons (qe_var (pv 0)) (qa_cons (qe_var (pv 2)) (qa_nil)))) (qa_nil))))))
 (qss_cons (qs_setN (i := 5) false sc_one_edge.nd rfl (Or.inl rfl) (qe_cT cx_draw hr (by first | decide | omega) (takes_of rfl rfl rfl rfl) (by rfl) (qa_cons (qe_var (pv 0)) (qa_cons (qe_p (qp_int)) (qa_nil)))))
 (qss_cut (qs_if (qt_p (QPW.qpt (qpw_or (qpt_cmp (op_eqD hr.units) o_eq (qp_var (pv 5)) (qp_int) (nomark _)) (qpw_or1 (qpt_cmp (op_eqD hr.units) o_eq (qp_var (pv 5)) (qp_int) (nomark _))))))
 (qss_one (qs_setN (i := 4) false sc_one_edge.nd rfl (Or.inl rfl) (qe_tup (qa_cons (qe_cT cx_beyond hr (by first | decide | omega) (takes_of rfl rfl rfl rfl) (by rfl) (qa_cons (qe_var (pv 0)) (qa_cons (qe_var (pv 2)) (qa_nil)))) (qa_cons (qe_p (qp_ix ix_A o_ix (qp_var (pv 4)) (qp_int) (fun _ _ => rfl))) (qa_cons (qe_p (qp_ix ix_A o_ix (qp_var (pv 4)) (qp_int) (fun _ _ => rfl))) (qa_nil)))))))
 (qss_nil))
 (qss_cut (qs_if (qt_p (qpt_cmp (op_eqD hr.units) o_eq (qp_var (pv 5)) (qp_int) (nomark _)))
 (qss_one (qs_setN (i := 4) false sc_one_edge.nd rfl (Or.inl rfl) (qe_tup (qa_cons (qe_p (qp_ix ix_A o_ix (qp_var (pv 4)) (qp_int) (fun _ _ => rfl))) (qa_cons (qe_cT cx_beyond hr (by first | decide | omega) (takes_of rfl rfl rfl rfl) (by rfl) (qa_cons (qe_var (pv 0)) (qa_cons (qe_p (qp_op op_addA o_add (qp_var (pv 1)) (qp_int))) (qa_nil)))) (qa_cons (qe_p (qp_ix ix_A o_ix (qp_var (pv 4)) (qp_int) (fun _ _ => rfl))) (qa_nil)))))))
 (qss_nil))
 (qss_cut (qs_if (qt_p (QPW.qpt (qpw_or (qpt_cmp (op_eqD hr.units) o_eq (qp_var (pv 5)) (qp_int) (nomark _)) (qpw_or1 (qpt_cmp (op_eqD hr.units) o_eq (qp_var (pv 5)) (qp_int) (nomark _))))))
 (qss_one (qs_setN (i := 4) false sc_one_edge.nd rfl (Or.inl rfl) (qe_tup (qa_cons (qe_p (qp_ix ix_A o_ix (qp_var (pv 4)) (qp_int) (fun _ _ => rfl))) (qa_cons (qe_p (qp_ix ix_A o_ix (qp_var (pv 4)) (qp_int) (fun _ _ => rfl))) (qa_cons (qe_cT cx_beyond hr (by first | decide | omega) (takes_of rfl rfl rfl rfl) (by rfl) (qa_cons (qe_var (pv 0)) (qa_cons (qe_var (pv 2)) (qa_nil)))) (qa_nil)))))))
 (qss_nil))
 (qss_cut (qs_if (qt_p (QPW.qpt (qpw_and (QPW.qpt (qpw_or (qpt_cmp (op_eqD hr.units) o_eq (qp_var (pv 5)) (qp_int) (nomark _)) (qpw_or1 (qpt_cmp (op_eqD hr.units) o_eq (qp_var (pv 5)) (qp_int) (nomark _))))) (qpw_and1 (qpt_cmp op_gt o_cmp (qp_callB o_len c_len (by rfl) T.n_len b_len (qps_cons (qp_var (pv 3)) (qps_nil))) (qp_int) (nomark _))))))
 (qss_one (qs_setN (i := 4) false sc_one_edge.nd rfl (Or.inl rfl) (qe_ix ix_A o_ix (qe_var (pv 3)) (qe_cT cx_draw hr (by first | decide | omega) (takes_of rfl rfl rfl rfl) (by rfl) (qa_cons (qe_var (pv 0)) (qa_cons (qe_p (qp_callB o_len c_len (by rfl) T.n_len b_len (qps_cons (qp_var (pv 3)) (qps_nil)))) (qa_nil)))) (fun _ _ => rfl))))
 (qss_nil))
 (qss_one (qs_ret (qe_var (pv 4))))))))), ?_⟩
  rintro as Ed Qd ⟨top, n, es, rfl, ht, hn, hl, h3, q⟩
  have t3 : ∀ a b c : Int, D.tup [.int a, .int b, .int c] = intT [a, b, c] := fun _ _ _ => rfl
  refine ⟨n, rfl, by omega, by omega, fun a a0 a1 => ⟨_, p2_of rfl rfl rfl, top + 1, rfl, by omega, by omega, fun b b0 b1 => ⟨n, rfl, by omega, by omega, fun c c0 c1 => ?_⟩⟩⟩
  refine ⟨_, rfl, by show 3 ≤ 1000; decide, ?_⟩
  refine ⟨_, rfl, 16, rfl, by decide, by decide, fun fl f0 f1 => ?_⟩
  have pq : ∀ (i j : Int) (env : List Ev), pvar 5 env = some (.int fl) → por (p2 eqD (pvar 5) (pc (D.int i))) (p2 eqD (pvar 5) (pc (D.int j))) env = some (.bl (decide (fl = i) || decide (fl = j))) := fun i j env h => por_of (a := decide (fl = i)) (p2_of h rfl rfl) (fun z => (p2_of h rfl rfl).trans (by rw [z, Bool.false_or])) (fun z => by rw [z]; rfl)
  refine ⟨fun e => ∃ x y z : Int, e = [.pool, .d (nat top), .d (nat n), .d (edL es), .d (intT [x, y, z]), .d (.int fl)], ?_, ?_⟩
  · refine ⟨_, pq 1 4 _ rfl, fun _ => ?_, fun _ => ⟨_, _, _, rfl⟩⟩
    exact ⟨n, rfl, fun v => ⟨_, p2_of rfl rfl (atI_of (k := 1) rfl), _, p2_of rfl rfl (atI_of (k := 2) rfl), _, rfl, by show 3 ≤ 1000; decide, _, _, _, rfl⟩⟩
  rintro e ⟨x, y, z, rfl⟩
  refine ⟨fun e => ∃ x y z : Int, e = [.pool, .d (nat top), .d (nat n), .d (edL es), .d (intT [x, y, z]), .d (.int fl)], ?_, ?_⟩
  · refine ⟨_, p2_of rfl rfl rfl, fun _ => ?_, fun _ => ⟨_, _, _, rfl⟩⟩
    exact ⟨_, p2_of rfl rfl (atI_of (k := 0) rfl), _, p2_of rfl rfl rfl, top + 1, rfl, fun v => ⟨_, p2_of rfl rfl (atI_of (k := 2) rfl), _, rfl, by show 3 ≤ 1000; decide, _, _, _, rfl⟩⟩
  rintro e ⟨x, y, z, rfl⟩
  refine ⟨fun e => ∃ x y z : Int, e = [.pool, .d (nat top), .d (nat n), .d (edL es), .d (intT [x, y, z]), .d (.int fl)], ?_, ?_⟩
  · refine ⟨_, pq 3 4 _ rfl, fun _ => ?_, fun _ => ⟨_, _, _, rfl⟩⟩
    exact ⟨_, p2_of rfl rfl (atI_of (k := 0) rfl), _, p2_of rfl rfl (atI_of (k := 1) rfl), n, rfl, fun v => ⟨_, rfl, by show 3 ≤ 1000; decide, _, _, _, rfl⟩⟩
  rintro e ⟨x, y, z, rfl⟩
  refine ⟨fun e => ∃ d : List Int, d.length = 3 ∧ e = [.pool, .d (nat top), .d (nat n), .d (edL es), .d (intT d), .d (.int fl)], ?_, ?_⟩
  · refine ⟨_, pand_of (a := decide (fl = 5) || decide (fl = 6)) (b := (decide (fl = 5) || decide (fl = 6)) && decide ((0 : Int) < es.length)) (pq 5 6 _ rfl) (fun z => (p2_of (pN1 rfl (u_lenE2 es)) rfl rfl).trans (by rw [z, Bool.true_and])) (fun z => by rw [z]; rfl), fun z => ?_, fun _ => ⟨_, rfl, rfl⟩⟩
    rw [Bool.and_eq_true, decide_eq_true_eq] at z
    refine ⟨_, pN1 rfl (u_lenE2 es), es.length, rfl, by omega, by omega, fun v v0 v1 => ?_⟩
    obtain ⟨k, rfl⟩ : ∃ k : Nat, v = (k : Int) := ⟨v.toNat, by omega⟩
    obtain ⟨d, ed⟩ : ∃ d, es[k]? = some d := ⟨_, List.getElem?_eq_getElem (by omega)⟩
    exact ⟨intT d, atI_of (k := k) (by rw [List.getElem?_map, ed]; rfl), d, h3 d (List.mem_of_getElem? ed), rfl⟩
  rintro e ⟨d, d3, rfl⟩
  exact q d d3
def fSpoil : Fs := fun as _ Q => ∃ cs : List Nat, as = [.pool, .d (.str (txS cs))] ∧ cs.length ≤ 100 ∧ (∀ c ∈ cs, c < 128) ∧ ∀ ds : List Nat, ds.length = cs.length → (∀ c ∈ ds, c < 128) → Q (.d (.str (txS ds)))
theorem q_spoil (T : Txt P K mg ζ) : CalX P w K mg base 2 "_law_spoilt_letters" (spF K fSpoil) := by
  have cx_draw : CalX P w K mg base 1 "_law_draw" (spF K fDraw) := q_draw T
  refine T.d_spoilt_letters.dl sc_spoilt_letters (by rintro as E Q ⟨cs, rfl, _⟩; rfl) (by decide) fun fa cdv A outer s H E hr => ⟨_, qss_cons (qs_setN (i := 2) false sc_spoilt_letters.nd rfl (Or.inl rfl) (qe_p (qp_str)))
 (qss_cut (qs_if (qt_cmp (op_eqD hr.units) o_eq (qe_cT cx_draw hr (by first | decide | omega) (takes_of rfl rfl rfl rfl) (by rfl) (qa_cons (qe_var (pv 0)) (qa_cons (qe_p (qp_int)) (qa_nil)))) (qe_p (qp_int)) (nomark _))
 (qss_one (qs_setN (i := 2) false sc_spoilt_letters.nd rfl (Or.inl rfl) (qe_p (qp_str))))
 (qss_nil))
 (qss_cons (qs_for (vs := [3]) [3, 4] (passes_of rfl) rfl (qi_range1 (by rfl) T.n_range (qe_op op_addA o_add (qe_p (qp_int)) (qe_cT cx_draw hr (by first | decide | omega) (takes_of rfl rfl rfl rfl) (by rfl) (qa_cons (qe_var (pv 0)) (qa_cons (qe_p (qp_int)) (qa_nil)))))) (qg_name (pg_name (i := 3) sc_spoilt_letters.nd rfl (Or.inl rfl)))
 (qss_one (qs_if (qt_p (qpt_cmp op_gt o_cmp (qp_callB o_len c_len (by rfl) T.n_len b_len (qps_cons (qp_var (pv 1)) (qps_nil))) (qp_int) (nomark _)))
 (qss_cons (qs_setN (i := 4) false sc_spoilt_letters.nd rfl (Or.inl rfl) (qe_cT cx_draw hr (by first | decide | omega) (takes_of rfl rfl rfl rfl) (by rfl) (qa_cons (qe_var (pv 0)) (qa_cons (qe_p (qp_callB o_len c_len (by rfl) T.n_len b_len (qps_cons (qp_var (pv 1)) (qps_nil)))) (qa_nil)))))
 (qss_one (qs_setN (i := 1) false sc_spoilt_letters.nd rfl (Or.inl rfl) (qe_op op_addA o_add (qe_op op_addA o_add (qe_p (qp_slice (qp_var (pv 1)) qpo_none (qpo_some (qp_var (pv 4))))) (qe_ix ix_A o_ix (qe_var (pv 2)) (qe_cT cx_draw hr (by first | decide | omega) (takes_of rfl rfl rfl rfl) (by rfl) (qa_cons (qe_var (pv 0)) (qa_cons (qe_p (qp_callB o_len c_len (by rfl) T.n_len b_len (qps_cons (qp_var (pv 2)) (qps_nil)))) (qa_nil)))) (fun _ _ => rfl))) (qe_p (qp_slice (qp_var (pv 1)) (qpo_some (qp_op op_addA o_add (qp_var (pv 4)) (qp_int))) qpo_none))))))
 (qss_nil))))
 (qss_one (qs_ret (qe_var (pv 1)))))), ?_⟩
  rintro as Ed Qd ⟨cs, rfl, hl, hc, q⟩
  refine ⟨_, rfl, ?_⟩
  refine ⟨fun e => ∃ sg : List Nat, (1 ≤ sg.length ∧ sg.length ≤ 200) ∧ (∀ c ∈ sg, c < 128) ∧ e = [.pool, .d (.str (txS cs)), .d (.str (txS sg)), .any, .any], ?_, ?_⟩
  · refine ⟨_, rfl, 2, rfl, by decide, by decide, fun u u0 u1 => ⟨_, rfl, _, rfl, _, rfl, fun _ => ⟨_, rfl, ?_⟩, fun _ => ?_⟩⟩
    · refine ⟨(Str.ofString "abC ").cps.toList, by decide +kernel, by decide +kernel, ?_⟩
      rfl
    · refine ⟨(Str.ofString " !\"#$&'()*+,-./0123456789:;<=>?@CDEFGHIJKLMNOPQRSTUVWXYZ[\\]^_`abcdefghijklmnopqrstuvwxyz{|}~").cps.toList, by decide +kernel, by decide +kernel, ?_⟩
      rfl
  rintro e ⟨sg, sl, sc, rfl⟩
  refine ⟨_, rfl, _, rfl, 2, rfl, by decide, by decide, fun m m0 m1 => ⟨_, rfl, ⟨by omega, by omega⟩, fun i e => ∃ ds : List Nat, ds.length = cs.length ∧ (∀ c ∈ ds, c < 128) ∧ e = [.pool, .d (.str (txS ds)), .d (.str (txS sg)), .any, .any], ⟨cs, rfl, hc, rfl⟩, ?_, ?_⟩⟩
  · rintro i x e ex ⟨ds, dl, dc, rfl⟩
    obtain ⟨hi, rfl⟩ := rg_get ex
    refine ⟨_, p2_of (pN1 rfl (txS_len (by omega))) rfl rfl, fun z => ?_, fun _ => ⟨ds, dl, dc, rfl⟩⟩
    have z : (0 : Int) < (ds.length : Int) := of_decide_eq_true z
    refine ⟨_, pN1 rfl (txS_len (by omega)), ds.length, rfl, by omega, by omega, fun a a0 a1 => ?_⟩
    obtain ⟨k, rfl⟩ : ∃ k : Nat, a = (k : Int) := ⟨a.toNat, by omega⟩
    refine ⟨_, psliS_take (n := k) rfl rfl (by omega) (by omega), ?_⟩
    refine ⟨_, pN1 rfl (txS_len (by omega)), sg.length, rfl, by omega, by omega, fun b b0 b1 => ?_⟩
    obtain ⟨j, rfl⟩ : ∃ j : Nat, b = (j : Int) := ⟨b.toNat, by omega⟩
    obtain ⟨c, ec⟩ : ∃ c, sg[j]? = some c := ⟨_, List.getElem?_eq_getElem (by omega)⟩
    refine ⟨.str (txS [c]), txS_ix (by omega) ec, _, addS_txS (by rw [List.length_take, List.length_singleton]; omega), ?_⟩
    refine ⟨_, psliS_drop (n := k + 1) rfl (p2_of rfl rfl rfl) (by omega) (by omega), _, addS_txS (by rw [List.length_append, List.length_take, List.length_drop, List.length_singleton]; omega), ?_⟩
    refine ⟨(ds.take k ++ [c]) ++ ds.drop (k + 1), ?_, fun y hy => ?_, rfl⟩
    · rw [List.length_append, List.length_append, List.length_take, List.length_drop, List.length_singleton]; omega
    · rcases List.mem_append.mp hy with y | y
      · rcases List.mem_append.mp y with y | y
        · exact dc _ (List.mem_of_mem_take y)
        · rw [List.mem_singleton.mp y]; exact sc _ (List.mem_of_getElem? ec)
      · exact dc _ (List.mem_of_mem_drop y)
  · rintro e ⟨ds, dl, dc, rfl⟩
    exact q ds dl dc
end
end LR
set_option Elab.async false
set_option maxRecDepth 100000
set_option linter.all false
set_option maxHeartbeats 4000000
namespace LR
open PySem PySem.Spec PyProof.Rows L2
section
variable {P : Program} {w : World} {K : PySem.W.Frag} {mg : Str → Option Value} {base : Heap} {ζ : Cs}
def Tri (es : List (List Int)) : Prop := ∀ e ∈ es, e.length = 3
def wdD : WDue → D
  | .height => .lst [.str "BadHeight", .non]
  | .size => .lst [.str "BadSize", .non]
  | .large => .lst [.str "TooLarge", .non]
  | .bad i => .lst [.str "BadEdge", nat i]
  | .dup i => .lst [.str "DuplicateEdge", nat i]
  | .fine => .lst [.str "", .non]
theorem u_lst2X {p q : PF} {env : List Ev} {a b : D} (h1 : p env = some a) (h2 : q env = some b) : plst [p, q] env = some (.lst [a, b]) := by
  unfold plst evs evs evs
  rw [h1, h2]
def fDueE : Fs := fun as _ Q => ∃ (h n : Int) (es : List (List Int)), as = [.d (.int h), .d (.int n), .d (edL es)] ∧ es.length ≤ 1000 ∧ Tri es ∧ Q (.d (wdD (edDue h n [] 0 es)))
theorem q_dueE (T : Txt P K mg ζ) : CalX P w K mg base 1 "_law_due_for_edges" (spF K fDueE) := by
  refine T.d_due_for_edges.dl sc_due_for_edges (by rintro as E Q ⟨h, n, es, rfl, _⟩; rfl) (by decide) fun fa cdv A outer s H E hr => ⟨_, qss_cons (qs_setN (i := 3) true sc_due_for_edges.nd rfl (Or.inl rfl) (qe_lst (qa_nil)))
 (qss_cons (qs_setN (i := 4) true sc_due_for_edges.nd rfl (Or.inl rfl) (qe_lst (qa_nil)))
 (qss_cut (qs_for (vs := [5]) [5, 6] (passes_of rfl) rfl (qi_range1 (by rfl) T.n_range (qe_p (qp_callB o_len c_len (by rfl) T.n_len b_len (qps_cons (qp_var (pv 2)) (qps_nil))))) (qg_name (pg_name (i := 5) sc_due_for_edges.nd rfl (Or.inl rfl)))
 (qss_cons (qs_setN (i := 6) false sc_due_for_edges.nd rfl (Or.inl rfl) (qe_p (qp_ix ix_A o_ix (qp_var (pv 2)) (qp_var (pv 5)) (fun _ _ => rfl))))
 (qss_cut (qs_if (qt_p (QPW.qpt (qpw_or (qpt_cmp op_lt o_cmp (qp_callB o_min3 (call_min3Nu rfl) (by rfl) T.n_min b_min (qps_cons (qp_ix ix_A o_ix (qp_var (pv 6)) (qp_int) (fun _ _ => rfl)) (qps_cons (qp_ix ix_A o_ix (qp_var (pv 6)) (qp_int) (fun _ _ => rfl)) (qps_cons (qp_ix ix_A o_ix (qp_var (pv 6)) (qp_int) (fun _ _ => rfl)) qps_nil)))) (qp_int) (nomark _)) (qpw_or (qpt_cmp op_ge o_cmp (qp_callB o_max2 (call_max2 rfl) (by rfl) T.n_max b_max (qps_cons (qp_ix ix_A o_ix (qp_var (pv 6)) (qp_int) (fun _ _ => rfl)) (qps_cons (qp_ix ix_A o_ix (qp_var (pv 6)) (qp_int) (fun _ _ => rfl)) (qps_nil)))) (qp_var (pv 1)) (nomark _)) (qpw_or1 (qpt_cmp op_gt o_cmp (qp_ix ix_A o_ix (qp_var (pv 6)) (qp_int) (fun _ _ => rfl)) (qp_op op_mulA o_mul (qp_int) (qp_var (pv 0))) (nomark _)))))))
 (qss_one (qs_own m_append (ps_expr (pe_bm PySem.F.plainAttrs_list PySem.F.slot_list_append PySem.F.type_list_append mt_append (pv 3) (qa_cons (qe_var (pv 5)) (qa_nil))))))
 (qss_nil))
 (qss_one (qs_if (qt_p (qpt_cmp (op_inA (Room.u65 hr)) o_in (qp_var (pv 6)) (qp_slice (qp_var (pv 2)) qpo_none (qpo_some (qp_var (pv 5)))) rfl))
 (qss_one (qs_own m_append (ps_expr (pe_bm PySem.F.plainAttrs_list PySem.F.slot_list_append PySem.F.type_list_append mt_append (pv 4) (qa_cons (qe_var (pv 5)) (qa_nil))))))
 (qss_nil))))))
 (qss_fz [3, 4] (qss_cons (qs_if (qt_p (QPW.qpt (qpw_and (qpt_cmp op_gt o_cmp (qp_callB o_len c_len (by rfl) T.n_len b_len (qps_cons (qp_var (pv 3)) (qps_nil))) (qp_int) (nomark _)) (qpw_and1 (QPW.qpt (qpw_or (qpt_cmp (op_eqD hr.units) o_eq (qp_callB o_len c_len (by rfl) T.n_len b_len (qps_cons (qp_var (pv 4)) (qps_nil))) (qp_int) (nomark _)) (qpw_or1 (qpt_cmp op_le o_cmp (qp_ix ix_A o_ix (qp_var (pv 3)) (qp_int) (fun _ _ => rfl)) (qp_ix ix_A o_ix (qp_var (pv 4)) (qp_int) (fun _ _ => rfl)) (nomark _)))))))))
 (qss_one (qs_ret (qe_p (qp_lst (qps_cons (qp_str) (qps_cons (qp_ix ix_A o_ix (qp_var (pv 3)) (qp_int) (fun _ _ => rfl)) (qps_nil)))))))
 (qss_nil))
 (qss_cons (qs_if (qt_p (qpt_cmp op_gt o_cmp (qp_callB o_len c_len (by rfl) T.n_len b_len (qps_cons (qp_var (pv 4)) (qps_nil))) (qp_int) (nomark _)))
 (qss_one (qs_ret (qe_p (qp_lst (qps_cons (qp_str) (qps_cons (qp_ix ix_A o_ix (qp_var (pv 4)) (qp_int) (fun _ _ => rfl)) (qps_nil)))))))
 (qss_nil))
 (qss_one (qs_ret (qe_p (qp_lst (qps_cons (qp_str) (qps_cons (qp_non) (qps_nil)))))))))))), ?_⟩
  rintro as Ed Qd ⟨h, n, es, rfl, hl, h3, q⟩
  have tri : ∀ e ∈ es, ∃ a b c : Int, e = [a, b, c] := fun e he => len3 (h3 e he)
  refine ⟨_, rfl, Nat.zero_le _, _, rfl, Nat.zero_le _, ?_⟩
  let B : Nat → List Nat := fun i => (List.range i).filter fun k => !(edOk h n (es.getD k []))
  let D2 : Nat → List Nat := fun i => (List.range i).filter fun k => decide (es.getD k [] ∈ es.take k)
  refine ⟨fun e => e = [.d (.int h), .d (.int n), .d (edL es), .own (.ls ((B es.length).map nat)), .own (.ls ((D2 es.length).map nat)), .any, .any], ?_, ?_⟩
  · refine ⟨_, pN1 rfl (u_lenE2 es), ⟨by omega, by omega⟩, fun i e => e = [.d (.int h), .d (.int n), .d (edL es), .own (.ls ((B i).map nat)), .own (.ls ((D2 i).map nat)), .any, .any], rfl, ?_, ?_⟩
    · rintro i x e ex rfl
      obtain ⟨hi, rfl⟩ := rg_get ex
      rw [Int.toNat_natCast] at hi
      obtain ⟨d, ed⟩ : ∃ d, es[i]? = some d := ⟨_, List.getElem?_eq_getElem hi⟩
      have gd : es.getD i [] = d := by rw [List.getD_eq_getElem?_getD, ed]; rfl
      obtain ⟨a, b, c, rfl⟩ := tri d (List.mem_of_getElem? ed)
      have bs : B (i + 1) = B i ++ if edOk h n [a, b, c] = true then [] else [i] := by
        show (List.range (i + 1)).filter _ = _
        rw [List.range_succ, List.filter_append]
        congr 1
        rw [List.filter_cons, gd, List.filter_nil]
        cases edOk h n [a, b, c] <;> rfl
      have ds : D2 (i + 1) = D2 i ++ if [a, b, c] ∈ es.take i then [i] else [] := by
        show (List.range (i + 1)).filter _ = _
        rw [List.range_succ, List.filter_append]
        congr 1
        rw [List.filter_cons, gd, List.filter_nil]
        by_cases q : [a, b, c] ∈ es.take i
        · rw [decide_eq_true q, if_pos q]; rfl
        · rw [decide_eq_false q, if_neg q]; rfl
      have bl : (B i).length ≤ i := Nat.le_trans (List.length_filter_le _ _) (by rw [List.length_range]; exact Nat.le_refl _)
      have dl : (D2 i).length ≤ i := Nat.le_trans (List.length_filter_le _ _) (by rw [List.length_range]; exact Nat.le_refl _)
      refine ⟨intT [a, b, c], p2_of rfl rfl (atI_of (k := i) (by rw [List.getElem?_map, ed]; rfl)), ?_⟩
      have mulh : mulD (.int 2) (.int h) = some (.int (2 * h)) := by
        show (if (smI 2 || smI h) = true then some (D.int (2 * h)) else none) = _
        rw [if_pos (by rfl)]
      have cond : ∀ env : List Ev, pvar 6 env = some (intT [a, b, c]) → pvar 1 env = some (.int n) → pvar 0 env = some (.int h) → por (p2 (cmpD fun i j => decide (i < j)) (pN min3D [p2 ixD (pvar 6) (pc (D.int 0)), p2 ixD (pvar 6) (pc (D.int 1)), p2 ixD (pvar 6) (pc (D.int 2))]) (pc (D.int 0))) (por (p2 (cmpD fun i j => decide (j ≤ i)) (pN max2D [p2 ixD (pvar 6) (pc (D.int 0)), p2 ixD (pvar 6) (pc (D.int 2))]) (pvar 1)) (p2 (cmpD fun i j => decide (j < i)) (p2 ixD (pvar 6) (pc (D.int 1))) (p2 mulD (pc (D.int 2)) (pvar 0)))) env = some (.bl (!(edOk h n [a, b, c]))) := fun env h6 h1 h0 => by
        have i0 : p2 ixD (pvar 6) (pc (D.int 0)) env = some (.int a) := p2_of h6 rfl (atI_of (k := 0) rfl)
        have i1 : p2 ixD (pvar 6) (pc (D.int 1)) env = some (.int b) := p2_of h6 rfl (atI_of (k := 1) rfl)
        have i2 : p2 ixD (pvar 6) (pc (D.int 2)) env = some (.int c) := p2_of h6 rfl (atI_of (k := 2) rfl)
        have m3 : pN min3D [p2 ixD (pvar 6) (pc (D.int 0)), p2 ixD (pvar 6) (pc (D.int 1)), p2 ixD (pvar 6) (pc (D.int 2))] env = some (.int (if c < (if b < a then b else a) then c else (if b < a then b else a))) := by
          unfold pN evs evs evs evs
          rw [i0, i1, i2]; rfl
        have m2 : pN max2D [p2 ixD (pvar 6) (pc (D.int 0)), p2 ixD (pvar 6) (pc (D.int 2))] env = some (.int (if c > a then c else a)) := pN2 i0 i2 rfl
        have v : (!(edOk h n [a, b, c])) = (decide ((if c < (if b < a then b else a) then c else (if b < a then b else a)) < 0) || (decide (n ≤ (if c > a then c else a)) || decide (2 * h < b))) := by
          rw [Bool.eq_iff_iff, Bool.not_eq_true', Bool.or_eq_true, Bool.or_eq_true, decide_eq_true_eq, decide_eq_true_eq, decide_eq_true_eq]
          constructor
          · intro no
            apply Classical.byContradiction
            intro k
            have : edOk h n [a, b, c] = true := edOk_iff.mpr ⟨a, b, c, rfl, by split at k <;> split at k <;> (try split at k) <;> omega, by split at k <;> split at k <;> (try split at k) <;> omega, by split at k <;> split at k <;> (try split at k) <;> omega⟩
            rw [this] at no; cases no
          · intro k
            cases e : edOk h n [a, b, c] with
            | false => rfl
            | true =>
              obtain ⟨a', b', c', e2, h1, h2, h3⟩ := edOk_iff.mp e
              cases e2
              exfalso
              split at k <;> split at k <;> (try split at k) <;> omega
        rw [v]
        exact por_of (a := decide ((if c < (if b < a then b else a) then c else (if b < a then b else a)) < 0)) (p2_of m3 rfl rfl) (fun z => (por_of (a := decide (n ≤ (if c > a then c else a))) (p2_of m2 h1 rfl) (fun z2 => (p2_of i1 (p2_of rfl h0 mulh) rfl).trans (by rw [z, z2, Bool.false_or, Bool.false_or])) (fun z2 => by rw [z, z2]; rfl))) (fun z => by rw [z]; rfl)
      refine ⟨fun e => e = [.d (.int h), .d (.int n), .d (edL es), .own (.ls ((B (i + 1)).map nat)), .own (.ls ((D2 i).map nat)), .d (nat i), .d (intT [a, b, c])], ?_, ?_⟩
      · refine ⟨_, cond _ rfl rfl rfl, fun z => ?_, fun z => ?_⟩
        · have z2 : edOk h n [a, b, c] ≠ true := fun y => by rw [y] at z; cases z
          refine ⟨_, rfl, _, _, rfl, rfl, by rw [List.length_append, List.length_map]; show _ + 1 ≤ 100000; omega, ?_⟩
          show _ = [Ev.d (.int h), .d (.int n), .d (edL es), .own (.ls ((B (i + 1)).map nat)), .own (.ls ((D2 i).map nat)), .d (nat i), .d (intT [a, b, c])]
          rw [bs, if_neg z2, List.map_append]; rfl
        · have z2 : edOk h n [a, b, c] = true := by simpa using z
          show _ = [Ev.d (.int h), .d (.int n), .d (edL es), .own (.ls ((B (i + 1)).map nat)), .own (.ls ((D2 i).map nat)), .d (nat i), .d (intT [a, b, c])]
          rw [bs, if_pos z2, List.append_nil]; rfl
      rintro e rfl
      obtain ⟨t, et, ht⟩ := in_edsX [a, b, c] (es.take i)
      refine ⟨t, p2_of rfl ((psliL_take (n := i) rfl rfl).trans (by rw [← List.map_take])) et, fun z => ?_, fun z => ?_⟩
      · refine ⟨_, rfl, _, _, rfl, rfl, by rw [List.length_append, List.length_map]; show _ + 1 ≤ 100000; omega, ?_⟩
        show _ = [Ev.d (.int h), .d (.int n), .d (edL es), .own (.ls ((B (i + 1)).map nat)), .own (.ls ((D2 (i + 1)).map nat)), .any, .any]
        rw [ds, if_pos (ht.mp z), List.map_append]; rfl
      · show _ = [Ev.d (.int h), .d (.int n), .d (edL es), .own (.ls ((B (i + 1)).map nat)), .own (.ls ((D2 (i + 1)).map nat)), .any, .any]
        rw [ds, if_neg (fun y => by rw [ht.mpr y] at z; cases z), List.append_nil]; rfl
    · rintro e rfl
      rw [rg_len, Int.toNat_natCast]
  rintro e rfl
  have eB : (List.range es.length).filter (fun k => !(edOk h n (es.getD k []))) = B es.length := rfl
  have eD : (List.range es.length).filter (fun k => decide (es.getD k [] ∈ es.take k)) = D2 es.length := rfl
  generalize B es.length = Bs at eB
  generalize D2 es.length = Ds at eD
  have at_ : ∀ j, j < es.length → ∃ e, es[j]? = some e ∧ es.getD j [] = e := fun j hj => ⟨_, List.getElem?_eq_getElem hj, by rw [List.getD_eq_getElem?_getD, List.getElem?_eq_getElem hj]; rfl⟩
  have far : ∀ i, i ≤ es.length → (∀ j, j < i → (!(edOk h n (es.getD j []))) = false) → (∀ j, j < i → decide (es.getD j [] ∈ es.take j) = false) → edDue h n [] 0 es = edDue h n (es.take i) i (es.drop i) := fun i hi h1 h2 => edDue_far i hi fun j e hj ej => by
    have ge : es.getD j [] = e := by rw [List.getD_eq_getElem?_getD, ej]; rfl
    have a := h1 j hj
    have b := h2 j hj
    rw [ge] at a b
    exact ⟨by simpa using a, by simpa using b⟩
  have lB : lenD [.lst (Bs.map nat)] = some (nat Bs.length) := some_nat (by rw [List.length_map])
  have lD : lenD [.lst (Ds.map nat)] = some (nat Ds.length) := some_nat (by rw [List.length_map])
  have bad1 : ∀ x r, Bs = x :: r → (∀ j, j < x → decide (es.getD j [] ∈ es.take j) = false) → edDue h n [] 0 es = .bad x := fun x r e nd => by
    rw [e] at eB
    obtain ⟨x1, x2, x3⟩ := filt_head eB
    obtain ⟨d, ed, gd⟩ := at_ x x1
    rw [far x (by omega) x3 nd, edDue_step ed, if_pos]
    rw [gd] at x2; simpa using x2
  have dup1 : ∀ y r, Ds = y :: r → (∀ j, j ≤ y → (!(edOk h n (es.getD j []))) = false) → edDue h n [] 0 es = .dup y := fun y r e nb => by
    rw [e] at eD
    obtain ⟨y1, y2, y3⟩ := filt_head eD
    obtain ⟨d, ed, gd⟩ := at_ y y1
    have nb1 := nb y (Nat.le_refl _)
    rw [gd] at nb1 y2
    rw [far y (by omega) (fun j hj => nb j (by omega)) y3, edDue_step ed, if_neg (by intro z; rw [z] at nb1; cases nb1), if_pos (of_decide_eq_true y2)]
  cases hB : Bs with
  | nil =>
    subst hB
    have nb := filt_nil eB
    refine ⟨false, pand_of (a := false) (b := false) (p2_of (pN1 rfl rfl) rfl rfl) (fun z => by cases z) (fun _ => rfl), (fun z => by cases z), fun _ => ?_⟩
    cases hD : Ds with
    | nil =>
      subst hD
      have nd := filt_nil eD
      refine ⟨false, p2_of (pN1 rfl rfl) rfl rfl, (fun z => by cases z), fun _ => ⟨_, rfl, ?_⟩⟩
      rw [far es.length (Nat.le_refl _) nb nd, List.drop_length] at q
      exact q
    | cons y r =>
      refine ⟨true, p2_of (pN1 rfl rfl) rfl ?_, fun _ => ⟨_, u_lst2X rfl (p2_of rfl rfl (atI_of (k := 0) rfl)), ?_⟩, fun z => by cases z⟩
      · show some (D.bl (decide ((0 : Int) < (((y :: r).map nat).length : Int)))) = _
        rw [List.length_map, List.length_cons, decide_eq_true (by omega)]
      · rw [dup1 y r hD (fun j hj => nb j (by have := (filt_head (hD ▸ eD)).1; omega))] at q
        exact q
  | cons x r =>
    have gt0 : ∀ (z : Nat) (l : List Nat), cmpD (fun i j => decide (j < i)) (nat ((z :: l).map nat).length) (.int 0) = some (.bl true) := fun z l => by
      show some (D.bl (decide ((0 : Int) < (((z :: l).map nat).length : Int)))) = _
      rw [List.length_map, List.length_cons, decide_eq_true (by omega)]
    obtain ⟨x1, x2, x3⟩ := filt_head (hB ▸ eB)
    cases hD : Ds with
    | nil =>
      have nd := filt_nil (hD ▸ eD)
      refine ⟨true, pand_of (a := true) (b := true) (p2_of (pN1 rfl rfl) rfl (gt0 x r)) (fun _ => por_of (a := true) (p2_of (pN1 rfl rfl) rfl rfl) (fun z => by cases z) (fun _ => rfl)) (fun z => by cases z), fun _ => ⟨_, u_lst2X rfl (p2_of rfl rfl (atI_of (k := 0) rfl)), ?_⟩, fun z => by cases z⟩
      rw [bad1 x r hB (fun j hj => nd j (by omega))] at q
      exact q
    | cons y r2 =>
      obtain ⟨y1, y2, y3⟩ := filt_head (hD ▸ eD)
      have ne0 : eqD (nat ((y :: r2).map nat).length) (.int 0) = some (.bl false) := by
        show some (D.bl (decide ((((y :: r2).map nat).length : Int) = 0))) = _
        rw [List.length_map, List.length_cons, decide_eq_false (by omega)]
      have cmp : cmpD (fun i j => decide (i ≤ j)) (nat x) (nat y) = some (.bl (decide (x ≤ y))) := by
        show some (D.bl (decide ((x : Int) ≤ (y : Int)))) = _
        congr 2; rw [decide_eq_decide]; omega
      refine ⟨decide (x ≤ y), pand_of (a := true) (p2_of (pN1 rfl rfl) rfl (gt0 x r)) (fun _ => por_of (a := false) (p2_of (pN1 rfl rfl) rfl ne0) (fun _ => p2_of (p2_of rfl rfl (atI_of (k := 0) rfl)) (p2_of rfl rfl (atI_of (k := 0) rfl)) cmp) (fun z => by cases z)) (fun z => by cases z), fun z => ⟨_, u_lst2X rfl (p2_of rfl rfl (atI_of (k := 0) rfl)), ?_⟩, fun z => ?_⟩
      · have z := of_decide_eq_true z
        rw [bad1 x r hB (fun j hj => y3 j (by omega))] at q
        exact q
      · have z := of_decide_eq_false z
        refine ⟨true, p2_of (pN1 rfl rfl) rfl (gt0 y r2), fun _ => ⟨_, u_lst2X rfl (p2_of rfl rfl (atI_of (k := 0) rfl)), ?_⟩, fun z => by cases z⟩
        rw [dup1 y r2 hD (fun j hj => x3 j (by omega))] at q
        exact q
def fDueW : Fs := fun as _ Q => ∃ (h n : Int) (es : List (List Int)), as = [.d (.int h), .d (.int n), .d (edL es)] ∧ es.length ≤ 1000 ∧ Tri es ∧ Q (.d (wdD (webDue h n es)))
theorem q_dueW (T : Txt P K mg ζ) : CalX P w K mg base 2 "_law_due_for_web" (spF K fDueW) := by
  have cx_due_for_edges : CalX P w K mg base 1 "_law_due_for_edges" (spF K fDueE) := q_dueE T
  refine T.d_due_for_web.dl sc_due_for_web (by rintro as E Q ⟨h, n, es, rfl, _⟩; rfl) (by decide) fun fa cdv A outer s H E hr => ⟨_, qss_cons (qs_if (qt_p (QPW.qpt (qpw_or (qpt_cmp op_lt o_cmp (qp_var (pv 0)) (qp_int) (nomark _)) (qpw_or1 (qpt_cmp op_gt o_cmp (qp_var (pv 0)) (qp_int) (nomark _))))))
 (qss_one (qs_ret (qe_p (qp_lst (qps_cons (qp_str) (qps_cons (qp_non) (qps_nil)))))))
 (qss_nil))
 (qss_cons (qs_if (qt_p (QPW.qpt (qpw_or (qpt_cmp op_lt o_cmp (qp_var (pv 1)) (qp_int) (nomark _)) (qpw_or1 (qpt_cmp op_gt o_cmp (qp_var (pv 1)) (qp_int) (nomark _))))))
 (qss_one (qs_ret (qe_p (qp_lst (qps_cons (qp_str) (qps_cons (qp_non) (qps_nil)))))))
 (qss_nil))
 (qss_cons (qs_if (qt_p (qpt_cmp op_gt o_cmp (qp_callB o_len c_len (by rfl) T.n_len b_len (qps_cons (qp_var (pv 2)) (qps_nil))) (qp_int) (nomark _)))
 (qss_one (qs_ret (qe_p (qp_lst (qps_cons (qp_str) (qps_cons (qp_non) (qps_nil)))))))
 (qss_nil))
 (qss_one (qs_ret (qe_cT cx_due_for_edges hr (by first | decide | omega) (takes_of rfl rfl rfl rfl) (by rfl) (qa_cons (qe_var (pv 0)) (qa_cons (qe_var (pv 1)) (qa_cons (qe_var (pv 2)) (qa_nil))))))))), ?_⟩
  rintro as Ed Qd ⟨h, n, es, rfl, hl, h3, q⟩
  have hb : ∀ (a lo hi : Int) (env : List Ev) (p : PF), p env = some (.int a) → por (p2 (cmpD fun i j => decide (i < j)) p (pc (.int lo))) (p2 (cmpD fun i j => decide (j < i)) p (pc (.int hi))) env = some (.bl (decide (a < lo) || decide (hi < a))) := fun a lo hi env p h => por_of (a := decide (a < lo)) (p2_of h rfl rfl) (fun z => (p2_of h rfl rfl).trans (by rw [z, Bool.false_or])) (fun z => by rw [z]; rfl)
  refine ⟨_, hb h 1 3 _ _ rfl, fun z => ?_, fun z => ?_⟩
  · rw [Bool.or_eq_true, decide_eq_true_eq, decide_eq_true_eq] at z
    have : webDue h n es = .height := by unfold webDue; rw [if_pos (by omega)]
    rw [this] at q
    exact ⟨_, rfl, q⟩
  rw [Bool.or_eq_false_iff, decide_eq_false_iff_not, decide_eq_false_iff_not] at z
  refine ⟨_, hb n 1 9 _ _ rfl, fun y => ?_, fun y => ?_⟩
  · rw [Bool.or_eq_true, decide_eq_true_eq, decide_eq_true_eq] at y
    have : webDue h n es = .size := by unfold webDue; rw [if_neg (by omega), if_pos (by omega)]
    rw [this] at q
    exact ⟨_, rfl, q⟩
  rw [Bool.or_eq_false_iff, decide_eq_false_iff_not, decide_eq_false_iff_not] at y
  refine ⟨_, p2_of (pN1 rfl (u_lenE2 es)) rfl rfl, fun x => ?_, fun x => ?_⟩
  · have x : (63 : Int) < (es.length : Int) := of_decide_eq_true x
    have : webDue h n es = .large := by unfold webDue; rw [if_neg (by omega), if_neg (by omega), if_pos (by omega)]
    rw [this] at q
    exact ⟨_, rfl, q⟩
  have x : ¬ (63 : Int) < (es.length : Int) := of_decide_eq_false x
  have : webDue h n es = edDue h n [] 0 es := by
    first
    | (unfold webDue; rw [if_neg (by omega), if_neg (by omega), if_neg (by omega)]; done)
    | (unfold webDue; rw [if_neg (by omega), if_neg (by omega), if_neg (by omega)]; rfl)
  rw [this] at q
  exact ⟨h, n, es, rfl, hl, h3, q⟩
end
end LR
set_option Elab.async false
set_option maxRecDepth 100000
set_option linter.all false
set_option maxHeartbeats 4000000
namespace LR
open PySem PySem.Spec PyProof.Rows L2
section
variable {P : Program} {w : World} {K : PySem.W.Frag} {mg : Str → Option Value} {base : Heap} {ζ : Cs}
theorem minUX (a b : Nat) : min2D [nat a, nat b] = some (nat (min a b)) := by
  show some (D.int _) = some (D.int _)
  congr 2
  omega
theorem u_mulX {a b : Nat} (hb : b < 1000000) : mulD (nat a) (nat b) = some (nat (a * b)) := by
  have h2 : smI (b : Int) = true := by unfold smI; rw [decide_eq_true (by omega), decide_eq_true (by omega)]; rfl
  show (if (smI (a : Int) || smI (b : Int)) = true then some (D.int ((a : Int) * (b : Int))) else none) = _
  rw [if_pos (by rw [h2, Bool.or_true])]
  show some (D.int _) = some (D.int _)
  congr 2
theorem u_modX {a : Int} {b : Nat} (hb : 0 < b) : modD (.int a) (nat b) = some (.int (a % (b : Int))) := by
  show (if 0 < (b : Int) then some (D.int (a % (b : Int))) else none) = _
  rw [if_pos (by omega)]
theorem u_divX {a : Int} {b : Nat} (hb : 0 < b) (h2 : b < 1000000) : fdivD (.int a) (nat b) = some (.int (a / (b : Int))) := by
  show (if 0 < (b : Int) ∧ (b : Int) < 1073741824 then some (D.int (a / (b : Int))) else none) = _
  rw [if_pos ⟨by omega, by omega⟩]
def fManyE : Fs := fun as _ Q => ∃ (top n : Nat) (es : List (List Int)), as = [.pool, .d (nat top), .d (nat n), .d (edL es)] ∧ top ≤ 100 ∧ (1 ≤ n ∧ n ≤ 1000) ∧ es.length ≤ 200 ∧ Tri es ∧ ∀ fs, fs.length ≤ 1000 → Tri fs → Q (.fr (.ls (fs.map intT)))
theorem q_manyE (T : Txt P K mg ζ) : CalX P w K mg base 3 "_law_many_edges" (spF K fManyE) := by
  have cx_draw : CalX P w K mg base 1 "_law_draw" (spF K fDraw) := q_draw T
  refine T.d_many_edges.dl sc_many_edges (by rintro as E Q ⟨t, n, es, rfl, _⟩; rfl) (by decide) fun fa cdv A outer s H E hr => ⟨_, qss_cons (qs_setN (i := 4) false sc_many_edges.nd rfl (Or.inl rfl) (qe_op op_addA o_add (qe_p (qp_int)) (qe_cT cx_draw hr (by first | decide | omega) (takes_of rfl rfl rfl rfl) (by rfl) (qa_cons (qe_var (pv 0)) (qa_cons (qe_p (qp_int)) (qa_nil))))))
 (qss_cons (qs_if (qt_cmp (op_eqD hr.units) o_eq (qe_cT cx_draw hr (by first | decide | omega) (takes_of rfl rfl rfl rfl) (by rfl) (qa_cons (qe_var (pv 0)) (qa_cons (qe_p (qp_int)) (qa_nil)))) (qe_p (qp_int)) (nomark _))
 (qss_cons (qs_setN (i := 5) true sc_many_edges.nd rfl (Or.inl rfl) (qe_listF (by rfl) T.n_list b_list (qe_var (pv 3))))
 (qss_cons (qs_for (vs := [6]) [6] (passes_of rfl) rfl (qi_range1 (by rfl) T.n_range (qe_p (qp_int))) (qg_name (pg_name (i := 6) sc_many_edges.nd rfl (Or.inl rfl)))
 (qss_one (qs_if (qt_loan (QPW.qpt (qpw_and (qpt_cmp op_gt o_cmp (qp_callB o_len c_len (by rfl) T.n_len b_len (qps_cons (qp_var (pv 3)) (qps_nil))) (qp_int) (nomark _)) (qpw_and1 (qpt_cmp op_lt o_cmp (qp_callB o_len c_len (by rfl) T.n_len b_len (qps_cons (qp_var (pv 5)) (qps_nil))) (qp_var (pv 4)) (nomark _))))))
 (qss_one (qs_own m_append (ps_expr (pe_bm PySem.F.plainAttrs_list PySem.F.slot_list_append PySem.F.type_list_append mt_append (pv 5) (qa_cons (qe_ixO (pv 5) (qp_var (pv 6)) (fun _ _ => rfl)) (qa_nil))))))
 (qss_nil))))
 (qss_one (qs_retO (pv 5)))))
 (qss_nil))
 (qss_cons (qs_setN (i := 7) false sc_many_edges.nd rfl (by first | exact Or.inr rfl | exact Or.inl rfl) (qe_p (qp_op op_addA o_add (qp_var (pv 1)) (qp_int))))
 (qss_cons (qs_setN (i := 8) false sc_many_edges.nd rfl (by first | exact Or.inr rfl | exact Or.inl rfl) (qe_p (qp_op op_mulA o_mul (qp_op op_mulA o_mul (qp_var (pv 2)) (qp_var (pv 7))) (qp_var (pv 2)))))
 (qss_cons (qs_setN (i := 9) false sc_many_edges.nd rfl (by first | exact Or.inr rfl | exact Or.inl rfl) (qe_cT cx_draw hr (by first | decide | omega) (takes_of rfl rfl rfl rfl) (by rfl) (qa_cons (qe_var (pv 0)) (qa_cons (qe_var (pv 8)) (qa_nil)))))
 (qss_cons (qs_setLcP (own := [("k", 6)]) (it := ipRng1 _) (i := 10) false rfl sc_many_edges.nd rfl rfl (sw_true rfl rfl rfl (by decide +kernel)) (qi_range1 (by rfl) T.n_range (qe_p (qp_callB o_min2 (call_min2 rfl) (by rfl) T.n_min b_min (qps_cons (qp_var (pv 4)) (qps_cons (qp_var (pv 8)) (qps_nil)))))) (blkOk_by (N := N_many_edges) (sc := defScope s_many_edges) (by decide +kernel)) (fun _ _ _ _ _ => qg_name (pg_name (i := 6) sc_many_edges.nd rfl (Or.inl rfl))) (fun _ _ _ _ _ => qpts_nil) (fun _ _ _ _ _ => qp_op op_mod o_mod (qp_callTy o_int call_int1 (by rfl) T.n_int b_int (qps_cons (qp_op op_addA o_add (qp_var (pv 9)) (qp_var (pv 6))) (qps_nil))) (qp_var (pv 8))))
 (qss_one (qs_ret (qf_lc (own := [("k", 6)]) (it := ipSeq _) rfl sc_many_edges.nd (qi_seq (qe_p (qp_var (pv 10)))) (blkOk_by (N := N_many_edges) (sc := defScope s_many_edges) (by decide +kernel)) (fun _ _ _ _ _ => qg_name (pg_name (i := 6) sc_many_edges.nd rfl (Or.inl rfl))) (fun _ _ _ _ _ => qpts_nil) (fun _ _ _ _ _ => qp_tup (qps_cons (qp_op op_mod o_mod (qp_callTy o_int call_int1 (by rfl) T.n_int b_int (qps_cons (qp_var (pv 6)) (qps_nil))) (qp_var (pv 2))) (qps_cons (qp_op op_mod o_mod (qp_callTy o_int call_int1 (by rfl) T.n_int b_int (qps_cons (qp_op op_fdiv o_fdiv (qp_var (pv 6)) (qp_var (pv 2))) (qps_nil))) (qp_var (pv 7))) (qps_cons (qp_op op_fdiv o_fdiv (qp_op op_fdiv o_fdiv (qp_var (pv 6)) (qp_var (pv 2))) (qp_var (pv 7))) (qps_nil))))))))))))), ?_⟩
  rintro as Ed Qd ⟨top, n, es, rfl, ht, hn, hl, h3, q⟩
  refine ⟨_, rfl, _, rfl, 4, rfl, by decide, by decide, fun g0 a0 a1 => ⟨_, rfl, ?_⟩⟩
  obtain ⟨g, eg, hg⟩ : ∃ g : Nat, 62 + g0 = (g : Int) ∧ (62 ≤ g ∧ g ≤ 65) := ⟨(62 + g0).toNat, by omega, by omega⟩
  rw [eg]
  refine ⟨_, rfl, 2, rfl, by decide, by decide, fun u u0 u1 => ⟨_, rfl, _, rfl, _, rfl, fun z => ?_, fun z => ?_⟩⟩
  · refine ⟨_, rfl, ?_⟩
    refine ⟨_, rfl, ⟨by decide, by decide⟩, fun i e => ∃ fs, fs.length ≤ 200 + i ∧ Tri fs ∧ (es.length = 0 ∨ g ≤ fs.length ∨ fs.length = es.length + i) ∧ e = [.pool, .d (nat top), .d (nat n), .d (edL es), .d (nat g), .own (.ls (fs.map intT)), .any, .any, .any, .any, .any], ⟨es, by omega, h3, .inr (.inr rfl), rfl⟩, ?_, ?_⟩
    · rintro i x e ex ⟨fs, fl, f3, inv, rfl⟩
      obtain ⟨hi, rfl⟩ := rg_get ex
      have hi : i < 66 := hi
      refine ⟨decide (0 < es.length) && decide (fs.length < g), pand_of (a := decide (0 < es.length)) (p2_of (pN1 rfl (u_lenE2 es)) rfl ?_) (fun z => (p2_of (pN1 rfl (u_lenE2 fs)) rfl ?_).trans (by rw [z, Bool.true_and])) (fun z => by rw [z]; rfl), fun z => ?_, fun z => ?_⟩
      · show some (D.bl (decide ((0 : Int) < (es.length : Int)))) = _
        congr 2; rw [decide_eq_decide]; omega
      · show some (D.bl (decide ((fs.length : Int) < (g : Int)))) = _
        congr 2; rw [decide_eq_decide]; omega
      · rw [Bool.and_eq_true, decide_eq_true_eq, decide_eq_true_eq] at z
        obtain ⟨d, ed⟩ : ∃ d, fs[i]? = some d := ⟨_, List.getElem?_eq_getElem (by omega)⟩
        refine ⟨_, rfl, _, (i : Int), intT d, rfl, rfl, (atI_of (k := i) (by rw [List.getElem?_map, ed]; rfl) : ixD (.lst (fs.map intT)) (nat i) = some (intT d)), _, _, rfl, rfl, by rw [List.length_append, List.length_map]; show _ + 1 ≤ 100000; omega, fs ++ [d], ?_, fun e he => ?_, ?_, ?_⟩
        · rw [List.length_append, List.length_singleton]; omega
        · rcases List.mem_append.mp he with y | y
          · exact f3 e y
          · rw [List.mem_singleton.mp y]; exact f3 d (List.mem_of_getElem? ed)
        · rw [List.length_append, List.length_singleton]; omega
        · rw [List.map_append]; rfl
      · rw [Bool.and_eq_false_iff, decide_eq_false_iff_not, decide_eq_false_iff_not] at z
        exact ⟨fs, by omega, f3, by omega, rfl⟩
    · rintro e ⟨fs, fl, f3, _, rfl⟩
      exact q fs (by have : (rgD 0 (66 : Int).toNat).length = 66 := by rw [rg_len]; rfl
                     omega) f3
  · obtain ⟨r, er, hr⟩ : ∃ r : Nat, r = top + 1 ∧ (1 ≤ r ∧ r ≤ 101) := ⟨_, rfl, by omega⟩
    have m1 : mulD (nat n) (nat r) = some (nat (n * r)) := u_mulX (by omega)
    have m2 : mulD (nat (n * r)) (nat n) = some (nat (n * r * n)) := u_mulX (by omega)
    have t1 : 1 ≤ n * r * n := Nat.mul_pos (Nat.mul_pos (by omega) (by omega)) (by omega)
    have t2 : n * r * n ≤ 1000 * 101 * 1000 := Nat.mul_le_mul (Nat.mul_le_mul hn.2 hr.2) hn.2
    refine ⟨nat r, p2_of rfl rfl (by rw [er]; rfl), ?_⟩
    refine ⟨nat (n * r * n), p2_of (p2_of rfl rfl m1) rfl m2, ?_⟩
    have t2 : n * r * n < 1073741824 := Nat.lt_of_le_of_lt t2 (by decide)
    generalize n * r * n = tt at t1 t2 ⊢
    refine ⟨tt, rfl, by omega, by omega, fun b b0 b1 => ?_⟩
    obtain ⟨mm, emm, hmm⟩ : ∃ mm : Nat, min2D [nat g, nat tt] = some (nat mm) ∧ mm ≤ 65 := ⟨min g tt, minUX g tt, by omega⟩
    refine ⟨(List.range mm).map fun k : Nat => D.int ((b + (k : Int)) % (tt : Int)), plc_of rfl (prng1_nat (n := mm) (pN2 rfl rfl emm) (by omega)) (pcol_all (l := List.range mm) (enc := nat) (F := fun k : Nat => D.int ((b + (k : Int)) % (tt : Int))) fun k hk => pturn_of (c := true) rfl rfl fun _ => p2_of (pN1 (p2_of rfl rfl rfl) rfl) rfl (u_modX (by omega))), ?_⟩
    have nn : ∀ k : Int, fdivD (.int k) (nat n) = some (.int (k / (n : Int))) := fun k => u_divX (by omega) (by omega)
    refine ⟨((List.range mm).map fun k : Nat => (b + (k : Int)) % (tt : Int)).map fun k : Int => intT [k % (n : Int), (k / (n : Int)) % (r : Int), (k / (n : Int)) / (r : Int)], plc_of rfl (pseq_of (by show some (D.lst ((List.range mm).map fun k : Nat => D.int ((b + (k : Int)) % (tt : Int)))) = some (D.lst (((List.range mm).map fun k : Nat => (b + (k : Int)) % (tt : Int)).map D.int)); rw [List.map_map]; rfl)) (pcol_all (l := (List.range mm).map fun k : Nat => (b + (k : Int)) % (tt : Int)) (enc := D.int) (F := fun k : Int => intT [k % (n : Int), (k / (n : Int)) % (r : Int), (k / (n : Int)) / (r : Int)]) fun k hk => pturn_of (c := true) rfl rfl fun _ => ptup3 (p2_of (pN1 rfl rfl) rfl (u_modX (by omega))) (p2_of (pN1 (p2_of rfl rfl (nn k)) rfl) rfl (u_modX (by omega))) (p2_of (p2_of rfl rfl (nn k)) rfl (u_divX (by omega) (by omega)))), ?_⟩
    have e1 : ∀ l : List Int, (l.map fun k : Int => intT [k % (n : Int), (k / (n : Int)) % (r : Int), (k / (n : Int)) / (r : Int)]) = (l.map fun k : Int => [k % (n : Int), (k / (n : Int)) % (r : Int), (k / (n : Int)) / (r : Int)]).map intT := fun l => by
      rw [List.map_map]; rfl
    rw [e1]
    refine q _ (by rw [List.length_map, List.length_map, List.length_range]; omega) fun e he => ?_
    obtain ⟨k, _, rfl⟩ := List.mem_map.mp he
    rfl
def fAllE : Fs := fun as _ Q => ∃ (top n : Nat), as = [.pool, .d (nat top), .d (nat n)] ∧ top ≤ 100 ∧ (1 ≤ n ∧ n ≤ 100) ∧ ∀ fs, fs.length ≤ 1000 → Tri fs → Q (.d (edL fs))
theorem q_allE (T : Txt P K mg ζ) : CalX P w K mg base 4 "_law_all_edges" (spF K fAllE) := by
  have cx_draw : CalX P w K mg base 1 "_law_draw" (spF K fDraw) := q_draw T
  have cx_one_edge : CalX P w K mg base 3 "_law_one_edge" (spF K fOneE) := q_oneE T
  have cx_many_edges : CalX P w K mg base 3 "_law_many_edges" (spF K fManyE) := q_manyE T
  refine T.d_all_edges.dl sc_all_edges (by rintro as E Q ⟨t, n, rfl, _⟩; rfl) (by decide) fun fa cdv A outer s H E hr => ⟨_, qss_cons (qs_setN (i := 3) false sc_all_edges.nd rfl (Or.inl rfl) (qe_cmp (op_eqD hr.units) o_eq (qe_cT cx_draw hr (by first | decide | omega) (takes_of rfl rfl rfl rfl) (by rfl) (qa_cons (qe_var (pv 0)) (qa_cons (qe_p (qp_int)) (qa_nil)))) (qe_p (qp_int)) (nomark _)))
 (qss_cons (qs_setN (i := 4) false sc_all_edges.nd rfl (Or.inl rfl) (qe_cT cx_draw hr (by first | decide | omega) (takes_of rfl rfl rfl rfl) (by rfl) (qa_cons (qe_var (pv 0)) (qa_cons (qe_p (qp_int)) (qa_nil)))))
 (qss_cut (qs_if (qt_cmp (op_eqD hr.units) o_eq (qe_cT cx_draw hr (by first | decide | omega) (takes_of rfl rfl rfl rfl) (by rfl) (qa_cons (qe_var (pv 0)) (qa_cons (qe_p (qp_int)) (qa_nil)))) (qe_p (qp_int)) (nomark _))
 (qss_one (qs_setN (i := 4) false sc_all_edges.nd rfl (Or.inl rfl) (qe_cT cx_draw hr (by first | decide | omega) (takes_of rfl rfl rfl rfl) (by rfl) (qa_cons (qe_var (pv 0)) (qa_cons (qe_p (qp_int)) (qa_nil))))))
 (qss_nil))
 (qss_cons (qs_setN (i := 5) true sc_all_edges.nd rfl (Or.inl rfl) (qe_lst (qa_nil)))
 (qss_cut (qs_for (vs := [6]) [6, 7] (passes_of rfl) rfl (qi_range1 (by rfl) T.n_range (qe_var (pv 4))) (qg_name (pg_name (i := 6) sc_all_edges.nd rfl (Or.inl rfl)))
 (qss_one (qs_if (qt_p (qpt_truth (qp_var (pv 3))))
 (qss_one (qs_own m_append (ps_expr (pe_bm PySem.F.plainAttrs_list PySem.F.slot_list_append PySem.F.type_list_append mt_append (pv 5) (qa_cons (qe_loanE (qe_cT cx_one_edge hr (by first | decide | omega) (takes_of rfl rfl rfl rfl) (by rfl) (qa_cons (qe_var (pv 0)) (qa_cons (qe_var (pv 1)) (qa_cons (qe_var (pv 2)) (qa_cons (qe_var (pv 5)) (qa_nil))))))) (qa_nil))))))
 (qss_cons (qs_setN (i := 7) false sc_all_edges.nd rfl (Or.inl rfl) (qe_tup (qa_cons (qe_cT cx_draw hr (by first | decide | omega) (takes_of rfl rfl rfl rfl) (by rfl) (qa_cons (qe_var (pv 0)) (qa_cons (qe_var (pv 2)) (qa_nil)))) (qa_cons (qe_cT cx_draw hr (by first | decide | omega) (takes_of rfl rfl rfl rfl) (by rfl) (qa_cons (qe_var (pv 0)) (qa_cons (qe_p (qp_op op_addA o_add (qp_var (pv 1)) (qp_int))) (qa_nil)))) (qa_cons (qe_cT cx_draw hr (by first | decide | omega) (takes_of rfl rfl rfl rfl) (by rfl) (qa_cons (qe_var (pv 0)) (qa_cons (qe_var (pv 2)) (qa_nil)))) (qa_nil))))))
 (qss_one (qs_if (qt_loan (qpt_cmp (op_notInA (Room.u65 hr)) o_nin (qp_var (pv 7)) (qp_var (pv 5)) rfl))
 (qss_one (qs_own m_append (ps_expr (pe_bm PySem.F.plainAttrs_list PySem.F.slot_list_append PySem.F.type_list_append mt_append (pv 5) (qa_cons (qe_var (pv 7)) (qa_nil))))))
 (qss_nil)))))))
 (qss_cut (qs_if (qt_cmp (op_eqD hr.units) o_eq (qe_cT cx_draw hr (by first | decide | omega) (takes_of rfl rfl rfl rfl) (by rfl) (qa_cons (qe_var (pv 0)) (qa_cons (qe_p (qp_int)) (qa_nil)))) (qe_p (qp_int)) (nomark _))
 (qss_one (qs_for (vs := [8]) [8] (passes_of rfl) rfl (qi_range1 (by rfl) T.n_range (qe_var (pv 2))) (qg_name (pg_name (i := 8) sc_all_edges.nd rfl (by first | exact Or.inr rfl | exact Or.inl rfl)))
 (qss_one (qs_if (qt_loan (qpt_cmp (op_eqD hr.units) o_eq (qp_callB o_len c_len (by rfl) T.n_len b_len (qps_cons (qp_lc (own := [("edge", 7)]) (it := ipSeq _) rfl sc_all_edges.nd (fun W => qi_seq (qe_p (qp_var (pv 5)))) (blkOk_by (N := N_all_edges) (sc := defScope s_all_edges) (by decide +kernel)) (fun _ _ _ _ _ => qg_name (pg_name (i := 7) sc_all_edges.nd rfl (Or.inl rfl))) (fun _ _ _ _ _ => qpts_one (qpt_cmp (op_eqD hr.units) o_eq (qp_ix ix_A o_ix (qp_var (pv 7)) (qp_int) (fun _ _ => rfl)) (qp_var (pv 8)) (nomark _))) (fun _ _ _ _ _ => qp_var (pv 7))) (qps_nil))) (qp_int) (nomark _)))
 (qss_one (qs_own m_append (ps_expr (pe_bm PySem.F.plainAttrs_list PySem.F.slot_list_append PySem.F.type_list_append mt_append (pv 5) (qa_cons (qe_tup (qa_cons (qe_var (pv 8)) (qa_cons (qe_cT cx_draw hr (by first | decide | omega) (takes_of rfl rfl rfl rfl) (by rfl) (qa_cons (qe_var (pv 0)) (qa_cons (qe_p (qp_op op_addA o_add (qp_var (pv 1)) (qp_int))) (qa_nil)))) (qa_cons (qe_cT cx_draw hr (by first | decide | omega) (takes_of rfl rfl rfl rfl) (by rfl) (qa_cons (qe_var (pv 0)) (qa_cons (qe_var (pv 2)) (qa_nil)))) (qa_nil))))) (qa_nil))))))
 (qss_nil)))))
 (qss_nil))
 (qss_fz [5] (qss_cut (qs_if (qt_cmp (op_eqD hr.units) o_eq (qe_cT cx_draw hr (by first | decide | omega) (takes_of rfl rfl rfl rfl) (by rfl) (qa_cons (qe_var (pv 0)) (qa_cons (qe_p (qp_int)) (qa_nil)))) (qe_p (qp_int)) (nomark _))
 (qss_cons (qs_setN (i := 5) true sc_all_edges.nd rfl (Or.inl rfl) (qe_cT cx_many_edges hr (by first | decide | omega) (takes_of rfl rfl rfl rfl) (by rfl) (qa_cons (qe_var (pv 0)) (qa_cons (qe_var (pv 1)) (qa_cons (qe_var (pv 2)) (qa_cons (qe_var (pv 5)) (qa_nil)))))))
 (qss_fz [5] qss_nil))
 (qss_nil))
 (qss_one (qs_ret (qe_var (pv 5))))))))))), ?_⟩
  rintro as Ed Qd ⟨top, n, rfl, ht, hn, q⟩
  refine ⟨_, rfl, 2, rfl, by decide, by decide, fun u u0 u1 => ⟨_, rfl, _, rfl, ?_⟩⟩
  refine ⟨_, rfl, 9, rfl, by decide, by decide, fun c0 a0 a1 => ?_⟩
  refine ⟨fun e => ∃ c : Int, (0 ≤ c ∧ c ≤ 66) ∧ e = [.pool, .d (nat top), .d (nat n), .d (.bl (decide (u = 0))), .d (.int c), .any, .any, .any, .any], ?_, ?_⟩
  · refine ⟨_, rfl, 16, rfl, by decide, by decide, fun v v0 v1 => ⟨_, rfl, _, rfl, _, rfl, fun z => ⟨_, rfl, 67, rfl, by decide, by decide, fun c b0 b1 => ⟨c, by omega, rfl⟩⟩, fun z => ⟨c0, by omega, rfl⟩⟩⟩
  rintro e ⟨c, hc, rfl⟩
  refine ⟨_, rfl, Nat.zero_le _, ?_⟩
  have drw : ∀ (env : List Ev) (Q : List Ar → Prop) (Ed : Er → Prop), nth env 0 = .pool → nth env 1 = .d (nat top) → nth env 2 = .d (nat n) → True := fun _ _ _ _ _ _ => trivial
  refine ⟨fun e => ∃ fs, fs.length ≤ 66 ∧ Tri fs ∧ e = [.pool, .d (nat top), .d (nat n), .d (.bl (decide (u = 0))), .d (.int c), .own (.ls (fs.map intT)), .any, .any, .any], ?_, ?_⟩
  · refine ⟨⟨by omega, by omega⟩, fun i e => ∃ fs, fs.length ≤ i ∧ Tri fs ∧ e = [.pool, .d (nat top), .d (nat n), .d (.bl (decide (u = 0))), .d (.int c), .own (.ls (fs.map intT)), .any, .any, .any], ⟨[], Nat.le_refl _, (fun _ h => by cases h), rfl⟩, ?_, ?_⟩
    · rintro i x e ex ⟨fs, fl, f3, rfl⟩
      obtain ⟨hi, rfl⟩ := rg_get ex
      have hi2 : i < 66 := by omega
      have more : ∀ d : List Int, d.length = 3 → Tri (fs ++ [d]) := fun d d3 e he => by
        rcases List.mem_append.mp he with y | y
        · exact f3 e y
        · rw [List.mem_singleton.mp y]; exact d3
      refine ⟨_, p1_of rfl rfl, fun z => ?_, fun z => ?_⟩
      · refine ⟨_, rfl, top, n, fs, rfl, ht, by omega, by omega, f3, fun d d3 => ⟨intT d, rfl, (by show imds (d.map D.int) = true; exact imds_intsL d), _, _, rfl, rfl, by rw [List.length_append, List.length_map]; show _ + 1 ≤ 100000; omega, fs ++ [d], by rw [List.length_append, List.length_singleton]; omega, more d d3, ?_⟩⟩
        rw [List.map_append]; rfl
      · refine ⟨n, rfl, by omega, by omega, fun a a0 a1 => ⟨_, p2_of rfl rfl rfl, top + 1, rfl, by omega, by omega, fun b b0 b1 => ⟨n, rfl, by omega, by omega, fun d d0 d1 => ?_⟩⟩⟩
        refine ⟨_, rfl, by show 3 ≤ 1000; decide, ?_⟩
        obtain ⟨t, et, ht'⟩ := nin_eds [a, b, d] fs
        refine ⟨t, p2_of rfl rfl et, fun y => ?_, fun y => ⟨fs, by omega, f3, rfl⟩⟩
        refine ⟨_, rfl, _, _, rfl, rfl, by rw [List.length_append, List.length_map]; show _ + 1 ≤ 100000; omega, fs ++ [[a, b, d]], by rw [List.length_append, List.length_singleton]; omega, more _ rfl, ?_⟩
        rw [List.map_append]; rfl
    · rintro e ⟨fs, fl, f3, rfl⟩
      exact ⟨fs, by rw [rg_len] at fl; omega, f3, rfl⟩
  rintro e ⟨fs, fl, f3, rfl⟩
  refine ⟨fun e => ∃ fs, fs.length ≤ 66 + n ∧ Tri fs ∧ e = [.pool, .d (nat top), .d (nat n), .d (.bl (decide (u = 0))), .d (.int c), .own (.ls (fs.map intT)), .any, .any, .any], ?_, ?_⟩
  · refine ⟨_, rfl, 2, rfl, by decide, by decide, fun v v0 v1 => ⟨_, rfl, _, rfl, _, rfl, fun z => ?_, fun z => ⟨fs, by omega, f3, rfl⟩⟩⟩
    refine ⟨⟨by omega, by omega⟩, fun i e => ∃ fs, fs.length ≤ 66 + i ∧ Tri fs ∧ e = [.pool, .d (nat top), .d (nat n), .d (.bl (decide (u = 0))), .d (.int c), .own (.ls (fs.map intT)), .any, .any, .any], ⟨fs, by omega, f3, rfl⟩, ?_, ?_⟩
    · rintro i x e ex ⟨fs, fl, f3, rfl⟩
      obtain ⟨hi, rfl⟩ := rg_get ex
      rw [Int.toNat_natCast] at hi
      have tri : ∀ e ∈ fs, ∃ a b c : Int, e = [a, b, c] := fun e he => len3 (f3 e he)
      refine ⟨_, p2_of (pN1 (plc_of rfl (pseq_of rfl) (pcol_map (l := fs) (enc := intT) (P := fun e => decide (es0 e = (i : Int))) (F := intT) fun e he => ?_)) (u_lenE2 _)) rfl rfl, fun z => ?_, fun z => ⟨fs, by omega, f3, rfl⟩⟩
      · obtain ⟨a, b, c, rfl⟩ := tri e he
        exact pturn_of rfl (p2_of (p2_of rfl rfl (atI_of (k := 0) rfl)) rfl rfl) fun _ => rfl
      · refine ⟨_, rfl, _, p2_of rfl rfl rfl, top + 1, rfl, by omega, by omega, fun b b0 b1 => ⟨n, rfl, by omega, by omega, fun d d0 d1 => ?_⟩⟩
        refine ⟨_, rfl, by show 3 ≤ 1000; decide, _, _, rfl, rfl, by rw [List.length_append, List.length_map]; show _ + 1 ≤ 100000; omega, fs ++ [[(i : Int), b, d]], by rw [List.length_append, List.length_singleton]; omega, fun e he => ?_, ?_⟩
        · rcases List.mem_append.mp he with y | y
          · exact f3 e y
          · rw [List.mem_singleton.mp y]; rfl
        · rw [List.map_append]; rfl
    · rintro e ⟨fs, fl, f3, rfl⟩
      exact ⟨fs, by rw [rg_len, Int.toNat_natCast] at fl; exact fl, f3, rfl⟩
  rintro e ⟨fs, fl, f3, rfl⟩
  refine ⟨fun e => ∃ fs, fs.length ≤ 1000 ∧ Tri fs ∧ e = [.pool, .d (nat top), .d (nat n), .d (.bl (decide (u = 0))), .d (.int c), .d (edL fs), .any, .any, .any], ?_, ?_⟩
  · refine ⟨_, rfl, 8, rfl, by decide, by decide, fun v v0 v1 => ⟨_, rfl, _, rfl, _, rfl, fun z => ?_, fun z => ⟨fs, by omega, f3, rfl⟩⟩⟩
    exact ⟨top, n, fs, rfl, ht, by omega, by omega, f3, fun gs gl g3 => ⟨gs, gl, g3, rfl⟩⟩
  rintro e ⟨gs, gl, g3, rfl⟩
  exact q gs gl g3
end
end LR
set_option Elab.async false
set_option maxRecDepth 100000
set_option linter.all false
set_option maxHeartbeats 4000000
namespace LR
open PySem PySem.Spec PyProof.Rows L2
section
variable {P : Program} {w : World} {K : PySem.W.Frag} {mg : Str → Option Value} {base : Heap} {ζ : Cs}
theorem strOk128 : ∀ c, c < 128 → PyData.strOk (chS c) = true := by decide +kernel
theorem eqD_chX {c k : Nat} (hc : c < 128) (hk : k < 128) : eqD (.str (chS c)) (.str (chS k)) = some (.bl (decide (c = k))) := by
  show (if PyData.strOk (chS c) = true ∧ PyData.strOk (chS k) = true then some (D.bl (decide (chS c = chS k))) else none) = _
  rw [if_pos ⟨strOk128 c hc, strOk128 k hk⟩]
  congr 2
  rw [decide_eq_decide]
  constructor
  · intro h; injection h with h; simpa using h
  · intro h; rw [h]
theorem pstr_txS {p : PF} {env : List Ev} {cs : List Nat} (hl : cs.length ≤ 1000) (h : p env = some (.str (txS cs))) : (ipStr p).p env = some (cs.map fun c => D.str (chS c)) := by
  show pstr p env = _
  unfold pstr
  rw [h]
  have e1 : (txS cs).cps.size = cs.length := by show cs.toArray.size = _; rw [List.size_toArray]
  show (if (txS cs).cps.size ≤ 100000 then some (ltrs (txS cs)) else none) = _
  rw [if_pos (by rw [e1]; omega)]
  congr 1
theorem eqS {a b : Str} {c : Bool} (ha : PyData.strOk a = true) (hb : PyData.strOk b = true) (e : decide (a = b) = c) : eqD (.str a) (.str b) = some (.bl c) := by
  show (if PyData.strOk a = true ∧ PyData.strOk b = true then some (D.bl (decide (a = b))) else none) = _
  rw [if_pos ⟨ha, hb⟩, e]
def gdD : GDue → D
  | .owners => .lst [.str "BadOwners", .non]
  | .web d => wdD d
  | .dead v => .lst [.str "DeadEnd", nat v]
  | .fine _ => .lst [.str "", .non]
theorem str_lenX {os : List Bool} (hl : os.length ≤ 1000) : lenD [.str (strO os)] = some (nat os.length) := by
  show (if (strO os).length ≤ 100000 then some (D.int ((strO os).length : Nat)) else none) = _
  rw [strO_len, if_pos (by omega)]
def fDueG : Fs := fun as _ Q => ∃ (h : Int) (cs : List Nat) (es : List (List Int)), as = [.d (.int h), .d (.str (txS cs)), .d (edL es)] ∧ cs.length ≤ 1000 ∧ (∀ c ∈ cs, c < 128) ∧ es.length ≤ 1000 ∧ Tri es ∧ Q (.d (gdD (gameDue h (txS cs) es)))
theorem q_dueG (T : Txt P K mg ζ) : CalX P w K mg base 3 "_law_due_for_game" (spF K fDueG) := by
  have cx_due_for_web : CalX P w K mg base 2 "_law_due_for_web" (spF K fDueW) := q_dueW T
  refine T.d_due_for_game.dl sc_due_for_game (by rintro as E Q ⟨h, cs, es, rfl, _⟩; rfl) (by decide) fun fa cdv A outer s H E hr => ⟨_, qss_cons (qs_setLcP (own := [("letter", 4)]) (it := ipStr _) (i := 3) false rfl sc_due_for_game.nd rfl rfl (sw_true rfl rfl rfl (by decide +kernel)) (qi_str (qe_p (qp_var (pv 1)))) (blkOk_by (N := N_due_for_game) (sc := defScope s_due_for_game) (by decide +kernel)) (fun _ _ _ _ _ => qg_name (pg_name (i := 4) sc_due_for_game.nd rfl (Or.inl rfl))) (fun _ _ _ _ _ => qpts_one (QPW.qpt (qpw_and (qpt_cmp (op_neD hr.units) o_ne (qp_var (pv 4)) (qp_str) (nomark _)) (qpw_and1 (qpt_cmp (op_neD hr.units) o_ne (qp_var (pv 4)) (qp_str) (nomark _)))))) (fun _ _ _ _ _ => qp_var (pv 4)))
 (qss_cons (qs_if (qt_p (QPW.qpt (qpw_or (qpt_cmp (op_eqD hr.units) o_eq (qp_callB o_len c_len (by rfl) T.n_len b_len (qps_cons (qp_var (pv 1)) (qps_nil))) (qp_int) (nomark _)) (qpw_or (qpt_cmp op_gt o_cmp (qp_callB o_len c_len (by rfl) T.n_len b_len (qps_cons (qp_var (pv 1)) (qps_nil))) (qp_int) (nomark _)) (qpw_or1 (qpt_cmp op_gt o_cmp (qp_callB o_len c_len (by rfl) T.n_len b_len (qps_cons (qp_var (pv 3)) (qps_nil))) (qp_int) (nomark _)))))))
 (qss_one (qs_ret (qe_p (qp_lst (qps_cons (qp_str) (qps_cons (qp_non) (qps_nil)))))))
 (qss_nil))
 (qss_cons (qs_setN (i := 5) false sc_due_for_game.nd rfl (Or.inl rfl) (qe_cT cx_due_for_web hr (by first | decide | omega) (takes_of rfl rfl rfl rfl) (by rfl) (qa_cons (qe_var (pv 0)) (qa_cons (qe_p (qp_callB o_len c_len (by rfl) T.n_len b_len (qps_cons (qp_var (pv 1)) (qps_nil)))) (qa_cons (qe_var (pv 2)) (qa_nil))))))
 (qss_cons (qs_if (qt_p (qpt_cmp (op_eqD hr.units) o_eq (qp_ix ix_A o_ix (qp_var (pv 5)) (qp_int) (fun _ _ => rfl)) (qp_str) (nomark _)))
 (qss_one (qs_for (vs := [6]) [6] (passes_of rfl) rfl (qi_range1 (by rfl) T.n_range (qe_p (qp_callB o_len c_len (by rfl) T.n_len b_len (qps_cons (qp_var (pv 1)) (qps_nil))))) (qg_name (pg_name (i := 6) sc_due_for_game.nd rfl (by first | exact Or.inr rfl | exact Or.inl rfl)))
 (qss_one (qs_if (qt_p (qpt_cmp (op_eqD hr.units) o_eq (qp_callB o_len c_len (by rfl) T.n_len b_len (qps_cons (qp_lc (own := [("edge", 7)]) (it := ipSeq _) rfl sc_due_for_game.nd (fun W => qi_seq (qe_p (qp_var (pv 2)))) (blkOk_by (N := N_due_for_game) (sc := defScope s_due_for_game) (by decide +kernel)) (fun _ _ _ _ _ => qg_name (pg_name (i := 7) sc_due_for_game.nd rfl (Or.inl rfl))) (fun _ _ _ _ _ => qpts_one (qpt_cmp (op_eqD hr.units) o_eq (qp_ix ix_A o_ix (qp_var (pv 7)) (qp_int) (fun _ _ => rfl)) (qp_var (pv 6)) (nomark _))) (fun _ _ _ _ _ => qp_var (pv 7))) (qps_nil))) (qp_int) (nomark _)))
 (qss_one (qs_ret (qe_p (qp_lst (qps_cons (qp_str) (qps_cons (qp_var (pv 6)) (qps_nil)))))))
 (qss_nil)))))
 (qss_nil))
 (qss_one (qs_ret (qe_var (pv 5))))))), ?_⟩
  rintro as Ed Qd ⟨h, cs, es, rfl, cl, cc, hl, h3, q⟩
  have cA : Str.ofString "A" = chS 65 := by decide +kernel
  have cB : Str.ofString "B" = chS 66 := by decide +kernel
  have tl : (txS cs).cps.toList = cs := by show cs.toArray.toList = _; rw [List.toList_toArray]
  have ln : (txS cs).length = cs.length := by show cs.toArray.size = _; rw [List.size_toArray]
  have tri : ∀ e ∈ es, ∃ a b c : Int, e = [a, b, c] := fun e he => len3 (h3 e he)
  refine ⟨(cs.filter nlC).map fun c => D.str (chS c), plc_of rfl (pstr_txS cl rfl) (pcol_map (l := cs) (enc := fun c => D.str (chS c)) (P := nlC) (F := fun c => D.str (chS c)) fun c hc => pturn_of rfl (pand_of (a := !decide (c = 65)) (b := nlC c) (p2_of rfl rfl ?_) (fun z => (p2_of rfl rfl ?_).trans (show some (D.bl (!decide (c = 66))) = _ from ?_)) (fun z => ?_)) fun _ => rfl), ?_⟩
  · rw [cA]; show notO (eqD _ _) = _; rw [eqD_chX (cc c hc) (by decide)]; rfl
  · rw [cB]; show notO (eqD _ _) = _; rw [eqD_chX (cc c hc) (by decide)]; rfl
  · unfold nlC
    have z : decide (c = 65) = false := by simpa using z
    rw [z, Bool.false_or]
  · unfold nlC
    have z : decide (c = 65) = true := by simpa using z
    rw [z]; rfl
  have lS : lenD [.lst ((cs.filter nlC).map fun c => D.str (chS c))] = some (nat (cs.filter nlC).length) := some_nat (by rw [List.length_map])
  refine ⟨decide (cs.length = 0) || (decide (9 < cs.length) || decide (0 < (cs.filter nlC).length)), por_of (a := decide (cs.length = 0)) (p2_of (pN1 rfl (txS_len cl)) rfl ?_) (fun z => por_of (a := decide (9 < cs.length)) (p2_of (pN1 rfl (txS_len cl)) rfl ?_) (fun z2 => (p2_of (pN1 rfl lS) rfl ?_).trans (by rw [z, z2, Bool.false_or, Bool.false_or])) (fun z2 => by rw [z, z2]; rfl)) (fun z => by rw [z]; rfl), fun z => ?_, fun z => ?_⟩
  · show some (D.bl (decide ((cs.length : Int) = 0))) = _
    congr 2; rw [decide_eq_decide]; omega
  · show some (D.bl (decide ((9 : Int) < (cs.length : Int)))) = _
    congr 2; rw [decide_eq_decide]; omega
  · show some (D.bl (decide ((0 : Int) < ((cs.filter nlC).length : Int)))) = some (D.bl (decide (0 < (cs.filter nlC).length)))
    congr 2; rw [decide_eq_decide]; omega
  · have : gameDue h (txS cs) es = .owners := by
      unfold gameDue
      by_cases c : 1 ≤ (txS cs).length ∧ (txS cs).length ≤ 9
      · rw [if_neg (fun y => y c)]
        rw [ln] at c
        rw [decide_eq_false (by omega), decide_eq_false (by omega), Bool.false_or, Bool.false_or] at z
        have z := of_decide_eq_true z
        have : ownsOf (txS cs) = none := ownsOf_none.mpr (by
          rw [tl, List.any_eq_true]
          obtain ⟨x, hx⟩ := List.exists_mem_of_length_pos z
          exact ⟨x, (List.mem_filter.mp hx).1, (List.mem_filter.mp hx).2⟩)
        rw [this]
      · rw [if_pos c]
    rw [this] at q
    exact ⟨_, rfl, q⟩
  rw [Bool.or_eq_false_iff, Bool.or_eq_false_iff, decide_eq_false_iff_not, decide_eq_false_iff_not, decide_eq_false_iff_not] at z
  obtain ⟨z1, z2, z3⟩ := z
  obtain ⟨os, ow⟩ : ∃ os, ownsOf (txS cs) = some os := by
    cases e : ownsOf (txS cs) with
    | some os => exact ⟨os, rfl⟩
    | none =>
      have := ownsOf_none.mp e
      rw [tl, List.any_eq_true] at this
      obtain ⟨x, hx, hn⟩ := this
      exact absurd (List.length_pos_of_mem (List.mem_filter.mpr ⟨hx, hn⟩)) z3
  have ez := ownsOf_some ow
  have lo : cs.length = os.length := by rw [← ln, ez, strO_len]
  rw [ez] at q
  rw [ez]
  have n9 : 1 ≤ os.length ∧ os.length ≤ 9 := by omega
  rw [gameDue_own n9] at q
  refine ⟨_, pN1 rfl (str_lenX (by omega)), h, os.length, es, rfl, hl, h3, ?_⟩
  cases hw : webDue h os.length es with
  | fine =>
    rw [hw] at q
    have q : Qd (.d (gdD (match deadIn os.length es with
      | some v => .dead v
      | none => .fine os))) := q
    refine ⟨true, p2_of (p2_of rfl rfl (atI_of (k := 0) rfl)) rfl (eqS (by decide +kernel) (by decide +kernel) (by decide +kernel)), fun _ => ?_, fun z => by cases z⟩
    refine ⟨_, pN1 rfl (str_lenX (by omega)), ⟨by omega, by omega⟩, fun i e => (∀ j : Nat, j < i → (j : Int) ∈ es.map fun e => e.headD 0) ∧ e = [.d (.int h), .d (.str (strO os)), .d (edL es), .d (.lst ((cs.filter nlC).map fun c => D.str (chS c))), .any, .d (wdD .fine), .any, .any], ⟨fun j hj => by omega, rfl⟩, ?_, ?_⟩
    · rintro i x e ex ⟨hj, rfl⟩
      obtain ⟨hi, rfl⟩ := rg_get ex
      rw [Int.toNat_natCast] at hi
      have ev : (es.filter fun e => decide (es0 e = (i : Int))).length = 0 ↔ (i : Int) ∉ es.map fun e => e.headD 0 := by
        rw [List.length_eq_zero_iff, List.filter_eq_nil_iff, List.mem_map]
        constructor
        · rintro k ⟨e, he, e0⟩
          obtain ⟨a, b, c, rfl⟩ := tri e he
          have := k _ he
          rw [decide_eq_true_eq] at this
          exact this e0
        · intro k e he z
          rw [decide_eq_true_eq] at z
          obtain ⟨a, b, c, rfl⟩ := tri e he
          exact k ⟨_, he, z⟩
      refine ⟨decide ((es.filter fun e => decide (es0 e = (i : Int))).length = 0), p2_of (pN1 (plc_of rfl (pseq_of rfl) (pcol_map (l := es) (enc := intT) (P := fun e => decide (es0 e = (i : Int))) (F := intT) fun e he => ?_)) (u_lenE2 _)) rfl ?_, fun z => ?_, fun z => ?_⟩
      · obtain ⟨a, b, c, rfl⟩ := tri e he
        exact pturn_of rfl (p2_of (p2_of rfl rfl (atI_of (k := 0) rfl)) rfl rfl) fun _ => rfl
      · show some (D.bl (decide (((es.filter fun e => decide (es0 e = (i : Int))).length : Int) = 0))) = _
        congr 2; rw [decide_eq_decide]; omega
      · have nm := ev.mp (of_decide_eq_true z)
        rw [deadIn_some hi nm hj] at q
        exact ⟨_, u_lst2X rfl rfl, q⟩
      · have nm : (i : Int) ∈ es.map fun e => e.headD 0 := Classical.byContradiction fun c => of_decide_eq_false z (ev.mpr c)
        refine ⟨fun j hj2 => ?_, rfl⟩
        by_cases c : j < i
        · exact hj j c
        · rw [show j = i by omega]; exact nm
    · rintro e ⟨hj, rfl⟩
      rw [rg_len, Int.toNat_natCast] at hj
      rw [deadIn_none.mpr hj] at q
      exact q
  | _ =>
    rw [hw] at q
    refine ⟨false, ?_, (fun z => by cases z), fun _ => q⟩
    first
    | exact p2_of (p2_of rfl rfl (atI_of (k := 0) rfl)) rfl (eqS (by decide +kernel) (by decide +kernel) (by decide +kernel))
    | show 0 = 52
end
end LR
set_option Elab.async false
set_option maxRecDepth 100000
set_option linter.all false
set_option maxHeartbeats 4000000
namespace LR
open PySem PySem.Spec PyProof.Rows L2
section
variable {P : Program} {w : World} {K : PySem.W.Frag} {mg : Str → Option Value} {base : Heap} {ζ : Cs}
/-- a web made, or what is due -/
def fWebX (C C1 C2 C3 C4 C5 : Addr) : Fs := fun as Ed Q => ∃ (h n : Int) (tp : Bool) (es : List (List Int)), as = [.d (.int h), .d (.int n), .d (edX tp es)] ∧ h.natAbs ≤ 1000000 ∧ n.natAbs ≤ 1000000 ∧ es.length ≤ 1000 ∧ (∀ e ∈ es, e.length = 3) ∧
  (webDue h n es = .fine → ∀ ss, ss.Perm es → ss.Pairwise elt → Q (.d (webD C h n ss))) ∧
  (webDue h n es = .height → Ed ⟨C1, none⟩) ∧ (webDue h n es = .size → Ed ⟨C2, none⟩) ∧ (webDue h n es = .large → Ed ⟨C3, none⟩) ∧
  (∀ i, webDue h n es = .bad i → Ed ⟨C4, some [("index", .int (i : Nat))]⟩) ∧ (∀ i, webDue h n es = .dup i → Ed ⟨C5, some [("index", .int (i : Nat))]⟩)
namespace WX
theorem mk_Web_of (T : Txt P K mg ζ) : ∀ {vs H Q E}, spF K (fWebX ζ.Web ζ.BadHeight ζ.BadSize ζ.TooLarge ζ.BadEdge ζ.DuplicateEdge) vs H Q E → ∀ y dx, H y = none → H dx = none → dx ≠ y → spWebX ζ.Web ζ.BadHeight ζ.BadSize ζ.TooLarge ζ.BadEdge ζ.DuplicateEdge (.ref y :: vs) (upd (upd H dx (.own y)) y (.ins ζ.Web dx [])) (fun v H2 => v = .non ∧ Q (.ref y) H2) E := fun {vs H Q E} h y dx hy hd ne => by
  obtain ⟨g, as, Ed, Qd, en, ia, ⟨h, n, tp, es, rfl, hh, hn, hl, h3, q, x1, x2, x3, x4, x5⟩, kv, kx⟩ := h
  obtain ⟨v1, r, rfl, i1, ia⟩ := ia.d1
  obtain ⟨v2, r, rfl, i2, ia⟩ := ia.d1
  obtain ⟨v3, r, rfl, i3, ia⟩ := ia.d1
  cases ia.n0
  obtain ⟨a, ts, rfl, ha, hr⟩ := edX_at i3
  have s0 := made_rows (C := ζ.Web) hy hd
  have sb := en.ok.sb
  have r0 : ∀ C, Ed ⟨C, none⟩ → ∀ H', Same (upd (upd H dx (.own y)) y (.ins ζ.Web dx [])) H' → E (.ref C) none H' := fun C x H' s1 => kx ⟨C, none⟩ _ _ H' _ (grow_le en.ok) (en.ok.same (s0.trans s1)) ⟨rfl, rfl⟩ x
  have r1 : ∀ C fld v, Ed ⟨C, some [(fld, .int v)]⟩ → ∀ H' d, Keep y (upd (upd H dx (.own y)) y (.ins ζ.Web dx [])) H' → H' d = none → E (.ref C) (some d) (upd H' d (.xd [(fld, .int v)])) := fun C fld v x H' d k hd' => by
    have sa : Same H H' := made_same hy hd k
    have hn : H d = none := by
      cases c : H d with
      | none => rfl
      | some o => rw [sa _ _ c] at hd'; cases hd'
    have s1 : Same H (upd H' d (.xd [(fld, .int v)])) := sa.new hd'
    exact kx ⟨C, some [(fld, .int v)]⟩ _ _ _ _ (grow_le en.ok) (en.ok.same s1) (er_new en.ok s1 hn upd_same) x
  refine ⟨y, a, dx, h, n, ts, es, by rw [i1.intE, i2.intE], upd_same, ?_, (hr.same sb).same s0, small1 hh, small1 hn, hl, h3, fun e H' ss k W perm pw => ⟨rfl, ?_⟩, fun e => r0 _ (x1 e), fun e => r0 _ (x2 e), fun e => r0 _ (x3 e), fun i e H' d s1 hd' => r1 _ _ _ (x4 i e) H' d s1.keep hd', fun i e H' d s1 hd' => r1 _ _ _ (x5 i e) H' d s1.keep hd'⟩
  · rcases ha with ha | ha
    · exact .inl (s0 _ _ (sb _ _ ha))
    · exact .inr (s0 _ _ (sb _ _ ha))
  · obtain ⟨_, hn9, hl63, hok, _⟩ := webDue_fine.mp e
    have s1 := made_same hy hd k
    have w1 := en.ok.same s1
    have okS : ∀ e ∈ ss, EdgeOk h n e := fun e he => hok e (perm.mem_iff.mp he)
    refine kv _ (.d (webD ζ.Web h n ss)) H' _ (grow_le en.ok) w1 ?_ (q e ss perm pw)
    exact webD_of w1 T.cl_Web (fun f hf => by
      simp only [List.mem_cons, List.not_mem_nil, or_false] at hf
      rcases hf with rfl | rfl | rfl
      · exact T.na_Web_height
      · exact T.na_Web_size
      · exact T.na_Web_edges) W (by rw [perm.length_eq]; omega) (ed3 okS)
end WX
end
end LR
set_option Elab.async false
set_option maxRecDepth 100000
set_option linter.all false
set_option maxHeartbeats 4000000
namespace LR
open PySem PySem.Spec PyProof.Rows L2
section
variable {P : Program} {w : World} {K : PySem.W.Frag} {mg : Str → Option Value} {base : Heap} {ζ : Cs}
def knD (d : List Bool) : D := .lst (d.map .bl)
/-- what is told of a refusal -/
def wKin : WDue → List Bool
  | .height => [true, false, false, false, false, false, false, false, false, true]
  | .size => [false, true, false, false, false, false, false, false, false, true]
  | .large => [false, false, true, false, false, false, false, false, false, true]
  | .bad _ => [false, false, false, false, true, false, false, true, false, true]
  | .dup _ => [false, false, false, false, false, true, false, true, false, true]
  | .fine => []
def gKin : GDue → List Bool
  | .owners => [false, false, false, true, false, false, false, true, false, true]
  | .web d => wKin d
  | .dead _ => [false, false, false, false, false, false, true, true, false, true]
  | .fine _ => []
def wPl : WDue → D
  | .bad i => nat i
  | .dup i => nat i
  | _ => .non
def gPl : GDue → D
  | .web d => wPl d
  | .dead v => nat v
  | _ => .non
theorem u_lst3X {p q r : PF} {env : List Ev} {a b c : D} (h1 : p env = some a) (h2 : q env = some b) (h3 : r env = some c) : plst [p, q, r] env = some (.lst [a, b, c]) := by
  unfold plst evs evs evs evs
  rw [h1, h2, h3]
def anO (m : D) (k : List Bool) (p : D) : Ow := .tr [.da m, .ls (k.map .bl), .da p]
def fGm (G : Addr) : Fs := fun as _ Q => ∃ (h : Int) (z : Str) (tp : Bool) (es : List (List Int)), as = [.d (.int h), .d (.str z), .d (edX tp es)] ∧ h.natAbs ≤ 1000000 ∧ z.length ≤ 1000 ∧ es.length ≤ 1000 ∧ Tri es ∧
  (∀ os, gameDue h z es = .fine os → ∀ ss, ss.Perm es → ss.Pairwise elt → Q (.fr (anO (gameD G h os ss) [] .non))) ∧ ((∀ os, gameDue h z es ≠ .fine os) → Q (.fr (anO .non (gKin (gameDue h z es)) (gPl (gameDue h z es)))))
theorem q_gm (T : Txt P K mg ζ) : CalX P w K mg base 7 "_law_game" (spF K (fGm ζ.Game)) := by
  have cx_Game : MakX P w K mg base 5 "Game" ζ.Game (spGameX ζ.Game ζ.BadOwners ζ.BadHeight ζ.TooLarge ζ.BadEdge ζ.DuplicateEdge ζ.DeadEnd) := ok_gameX T
  have mk_Game_of := @GX.mk_Game_of P K mg ζ
  refine T.d_game.dl sc_game (by rintro as E Q ⟨h, z, tp, es, rfl, _⟩; rfl) (by decide) fun fa cdv A outer s H E hr => ⟨_, qss_cons (qs_setN (i := 3) false sc_game.nd rfl (Or.inl rfl) (qe_p (qp_non)))
 (qss_cons (qs_setN (i := 4) false sc_game.nd rfl (Or.inl rfl) (qe_p (qp_non)))
 (qss_cons (qs_setN (i := 5) true sc_game.nd rfl (Or.inl rfl) (qe_lst (qa_nil)))
 (qss_cut (qs_try rfl rfl sc_game.nd (takes_of rfl rfl rfl rfl) (fun W pn xe tk po => qss_one (qs_setN (i := 3) false sc_game.nd rfl (Or.inl rfl) (qe_mkT cx_Game hr (by first | decide | omega) tk (by rfl) (qa_cons (qe_var (pv 0)) (qa_cons (qe_var (pv 1)) (qa_cons (qe_var (pv 2)) (qa_nil)))) (mk_Game_of T)))) (clq_held (i := 6) rfl rfl (by exact ⟨rfl, by decide, .inl T.mg_LadderreachError⟩) (fun a oe cls d pn hz hf => qss_cons (qs_setN (i := 5) true sc_game.nd rfl (Or.inl rfl) (qe_lst (qa_cons (qe_isX (e2 := .Constant .none 0 ⟨0, 0, 0, 0⟩) (p := ⟨0, 0, 0, 0⟩) T.objc hz hf (.own _) (pe_callB (call_isX T.objc hz hf) (by rfl) T.n_isinstance b_isinstance (pa_cons (pv 6) (pa_cons (pe_glob (v := .ref ζ.BadHeight) (by rfl) T.mg_BadHeight rfl) pa_nil)))) (qa_cons (qe_isX (e2 := .Constant .none 0 ⟨0, 0, 0, 0⟩) (p := ⟨0, 0, 0, 0⟩) T.objc hz hf (.own _) (pe_callB (call_isX T.objc hz hf) (by rfl) T.n_isinstance b_isinstance (pa_cons (pv 6) (pa_cons (pe_glob (v := .ref ζ.BadSize) (by rfl) T.mg_BadSize rfl) pa_nil)))) (qa_cons (qe_isX (e2 := .Constant .none 0 ⟨0, 0, 0, 0⟩) (p := ⟨0, 0, 0, 0⟩) T.objc hz hf (.own _) (pe_callB (call_isX T.objc hz hf) (by rfl) T.n_isinstance b_isinstance (pa_cons (pv 6) (pa_cons (pe_glob (v := .ref ζ.TooLarge) (by rfl) T.mg_TooLarge rfl) pa_nil)))) (qa_cons (qe_isX (e2 := .Constant .none 0 ⟨0, 0, 0, 0⟩) (p := ⟨0, 0, 0, 0⟩) T.objc hz hf (.own _) (pe_callB (call_isX T.objc hz hf) (by rfl) T.n_isinstance b_isinstance (pa_cons (pv 6) (pa_cons (pe_glob (v := .ref ζ.BadOwners) (by rfl) T.mg_BadOwners rfl) pa_nil)))) (qa_nil)))))))
 (qss_cons (qs_setN (i := 5) true sc_game.nd rfl (Or.inl rfl) (qe_loanF (qe_catF (qe_var (pv 5)) (qe_lst (qa_cons (qe_isX (e2 := .Constant .none 0 ⟨0, 0, 0, 0⟩) (p := ⟨0, 0, 0, 0⟩) T.objc hz hf (.own _) (pe_callB (call_isX T.objc hz hf) (by rfl) T.n_isinstance b_isinstance (pa_cons (pv 6) (pa_cons (pe_glob (v := .ref ζ.BadEdge) (by rfl) T.mg_BadEdge rfl) pa_nil)))) (qa_cons (qe_isX (e2 := .Constant .none 0 ⟨0, 0, 0, 0⟩) (p := ⟨0, 0, 0, 0⟩) T.objc hz hf (.own _) (pe_callB (call_isX T.objc hz hf) (by rfl) T.n_isinstance b_isinstance (pa_cons (pv 6) (pa_cons (pe_glob (v := .ref ζ.DuplicateEdge) (by rfl) T.mg_DuplicateEdge rfl) pa_nil)))) (qa_cons (qe_isX (e2 := .Constant .none 0 ⟨0, 0, 0, 0⟩) (p := ⟨0, 0, 0, 0⟩) T.objc hz hf (.own _) (pe_callB (call_isX T.objc hz hf) (by rfl) T.n_isinstance b_isinstance (pa_cons (pv 6) (pa_cons (pe_glob (v := .ref ζ.DeadEnd) (by rfl) T.mg_DeadEnd rfl) pa_nil)))) (qa_nil))))))))
 (qss_cons (qs_setN (i := 5) true sc_game.nd rfl (Or.inl rfl) (qe_loanF (qe_catF (qe_var (pv 5)) (qe_lst (qa_cons (qe_isX (e2 := .Constant .none 0 ⟨0, 0, 0, 0⟩) (p := ⟨0, 0, 0, 0⟩) T.objc hz hf (.own _) (pe_callB (call_isX T.objc hz hf) (by rfl) T.n_isinstance b_isinstance (pa_cons (pv 6) (pa_cons (pe_glob (v := .ref ζ.GameError) (by rfl) T.mg_GameError rfl) pa_nil)))) (qa_cons (qe_isX (e2 := .Constant .none 0 ⟨0, 0, 0, 0⟩) (p := ⟨0, 0, 0, 0⟩) T.objc hz hf (.own _) (pe_callB (call_isX T.objc hz hf) (by rfl) T.n_isinstance b_isinstance (pa_cons (pv 6) (pa_cons (pe_glob (v := .ref ζ.OutOfRange) (by rfl) T.mg_OutOfRange rfl) pa_nil)))) (qa_cons (qe_isX (e2 := .Constant .none 0 ⟨0, 0, 0, 0⟩) (p := ⟨0, 0, 0, 0⟩) T.objc hz hf (.ty _) (pe_callB (call_isX T.objc hz hf) (by rfl) T.n_isinstance b_isinstance (pa_cons (pv 6) (pa_cons (pe_bltn (v := .ty "ValueError") (by rfl) T.n_ValueError b_ValueError rfl) pa_nil)))) (qa_nil))))))))
 (qss_cons (qs_if (QW.qt (qw_or (qt_truth (qe_isX (e2 := .Constant .none 0 ⟨0, 0, 0, 0⟩) (p := ⟨0, 0, 0, 0⟩) T.objc hz hf (.own _) (pe_callB (call_isX T.objc hz hf) (by rfl) T.n_isinstance b_isinstance (pa_cons (pv 6) (pa_cons (pe_glob (v := .ref ζ.BadEdge) (by rfl) T.mg_BadEdge rfl) pa_nil))))) (qw_or1 (qt_truth (qe_isX (e2 := .Constant .none 0 ⟨0, 0, 0, 0⟩) (p := ⟨0, 0, 0, 0⟩) T.objc hz hf (.own _) (pe_callB (call_isX T.objc hz hf) (by rfl) T.n_isinstance b_isinstance (pa_cons (pv 6) (pa_cons (pe_glob (v := .ref ζ.DuplicateEdge) (by rfl) T.mg_DuplicateEdge rfl) pa_nil))))))))
 (qss_one (qs_setN (i := 4) false sc_game.nd rfl (Or.inl rfl) (qe_alt (qe_xf T.e_BadEdge.X T.e_BadEdge.no hz hf (pv 6)) (qe_xf T.e_DuplicateEdge.X T.e_DuplicateEdge.no hz hf (pv 6)))))
 (qss_nil))
 (qss_one (qs_if (qt_truth (qe_isX (e2 := .Constant .none 0 ⟨0, 0, 0, 0⟩) (p := ⟨0, 0, 0, 0⟩) T.objc hz hf (.own _) (pe_callB (call_isX T.objc hz hf) (by rfl) T.n_isinstance b_isinstance (pa_cons (pv 6) (pa_cons (pe_glob (v := .ref ζ.DeadEnd) (by rfl) T.mg_DeadEnd rfl) pa_nil)))))
 (qss_one (qs_setN (i := 4) false sc_game.nd rfl (Or.inl rfl) (qe_xf T.e_DeadEnd.X T.e_DeadEnd.no hz hf (pv 6))))
 (qss_nil))))))) (clq_nil)))
 (qss_one (qs_retLst (qo_cons (qe_var (pv 3)) (qo_own (pv 5) (qo_cons (qe_var (pv 4)) (qo_nil))))))))), ?_⟩
  rintro as Ed Qd ⟨h, z, tp, es, rfl, hh, hz, hl, h3, q1, q2⟩
  refine ⟨_, rfl, _, rfl, _, rfl, Nat.zero_le _, ?_⟩
  refine ⟨fun e => ∃ (m p : D) (k : List Bool) (z6 : Ev), e = [.d (.int h), .d (.str z), .d (edX tp es), .d m, .d p, .own (.ls (k.map .bl)) none, z6] ∧ Qd (.fr (anO m k p)), ?_, ?_⟩
  rotate_left
  · rintro e ⟨m, p, k, z6, rfl, q⟩
    exact ⟨rfl, _, _, rfl, by show 3 ≤ 1000; decide, q⟩
  refine ⟨h, z, tp, es, rfl, hh, hz, hl, h3, fun os e ss sp pw => (by refine ⟨_, _, _, .any, ?_, q1 os e ss sp pw⟩; rfl), fun e => ?_, fun e => ?_, fun e => ?_, fun i e => ?_, fun i e => ?_, fun v e => ?_⟩
  · have q := q2 (by rw [e]; intro os z; cases z)
    rw [e] at q
    refine ⟨true, T.exm_BadOwners_LadderreachError, fun _ a dd hA _ => ?_, fun z => by cases z⟩
    exact ⟨ζ.BadOwners, _, false, rfl, T.r_BadOwners.E, rfl, T.kit_BadOwners_BadHeight, ζ.BadOwners, _, false, rfl, T.r_BadOwners.E, rfl, T.kit_BadOwners_BadSize, ζ.BadOwners, _, false, rfl, T.r_BadOwners.E, rfl, T.kit_BadOwners_TooLarge, ζ.BadOwners, _, true, rfl, T.r_BadOwners.E, rfl, T.kit_BadOwners_BadOwners, _, rfl, (by show 4 ≤ 1000; decide), ζ.BadOwners, _, false, rfl, T.r_BadOwners.E, rfl, T.kit_BadOwners_BadEdge, ζ.BadOwners, _, false, rfl, T.r_BadOwners.E, rfl, T.kit_BadOwners_DuplicateEdge, ζ.BadOwners, _, false, rfl, T.r_BadOwners.E, rfl, T.kit_BadOwners_DeadEnd, _, rfl, (by show 3 ≤ 1000; decide), _, _, rfl, rfl, (by show _ ≤ 100000; decide), _, rfl, rfl, ζ.BadOwners, _, true, rfl, T.r_BadOwners.E, rfl, T.kit_BadOwners_GameError, ζ.BadOwners, _, false, rfl, T.r_BadOwners.E, rfl, T.kit_BadOwners_OutOfRange, ζ.BadOwners, _, true, rfl, T.r_BadOwners.E, rfl, T.kit_BadOwners_ValueError, _, rfl, (by show 3 ≤ 1000; decide), _, _, rfl, rfl, (by show _ ≤ 100000; decide), _, rfl, rfl, ⟨ζ.BadOwners, _, false, rfl, T.r_BadOwners.E, rfl, T.kit_BadOwners_BadEdge, false, rfl, (fun z => by cases z), (fun _ => ⟨ζ.BadOwners, _, false, rfl, T.r_BadOwners.E, rfl, T.kit_BadOwners_DuplicateEdge, false, rfl, (fun z => by cases z), (fun _ => ⟨ζ.BadOwners, _, false, rfl, T.r_BadOwners.E, rfl, T.kit_BadOwners_DeadEnd, false, rfl, (fun z => by cases z), (fun _ => (by refine ⟨_, _, _, .any, ?_, q⟩; rfl))⟩)⟩)⟩⟩
  · have q := q2 (by rw [e]; intro os z; cases z)
    rw [e] at q
    refine ⟨true, T.exm_BadHeight_LadderreachError, fun _ a dd hA _ => ?_, fun z => by cases z⟩
    exact ⟨ζ.BadHeight, _, true, rfl, T.r_BadHeight.E, rfl, T.kit_BadHeight_BadHeight, ζ.BadHeight, _, false, rfl, T.r_BadHeight.E, rfl, T.kit_BadHeight_BadSize, ζ.BadHeight, _, false, rfl, T.r_BadHeight.E, rfl, T.kit_BadHeight_TooLarge, ζ.BadHeight, _, false, rfl, T.r_BadHeight.E, rfl, T.kit_BadHeight_BadOwners, _, rfl, (by show 4 ≤ 1000; decide), ζ.BadHeight, _, false, rfl, T.r_BadHeight.E, rfl, T.kit_BadHeight_BadEdge, ζ.BadHeight, _, false, rfl, T.r_BadHeight.E, rfl, T.kit_BadHeight_DuplicateEdge, ζ.BadHeight, _, false, rfl, T.r_BadHeight.E, rfl, T.kit_BadHeight_DeadEnd, _, rfl, (by show 3 ≤ 1000; decide), _, _, rfl, rfl, (by show _ ≤ 100000; decide), _, rfl, rfl, ζ.BadHeight, _, false, rfl, T.r_BadHeight.E, rfl, T.kit_BadHeight_GameError, ζ.BadHeight, _, false, rfl, T.r_BadHeight.E, rfl, T.kit_BadHeight_OutOfRange, ζ.BadHeight, _, true, rfl, T.r_BadHeight.E, rfl, T.kit_BadHeight_ValueError, _, rfl, (by show 3 ≤ 1000; decide), _, _, rfl, rfl, (by show _ ≤ 100000; decide), _, rfl, rfl, ⟨ζ.BadHeight, _, false, rfl, T.r_BadHeight.E, rfl, T.kit_BadHeight_BadEdge, false, rfl, (fun z => by cases z), (fun _ => ⟨ζ.BadHeight, _, false, rfl, T.r_BadHeight.E, rfl, T.kit_BadHeight_DuplicateEdge, false, rfl, (fun z => by cases z), (fun _ => ⟨ζ.BadHeight, _, false, rfl, T.r_BadHeight.E, rfl, T.kit_BadHeight_DeadEnd, false, rfl, (fun z => by cases z), (fun _ => (by refine ⟨_, _, _, .any, ?_, q⟩; rfl))⟩)⟩)⟩⟩
  · have q := q2 (by rw [e]; intro os z; cases z)
    rw [e] at q
    refine ⟨true, T.exm_TooLarge_LadderreachError, fun _ a dd hA _ => ?_, fun z => by cases z⟩
    exact ⟨ζ.TooLarge, _, false, rfl, T.r_TooLarge.E, rfl, T.kit_TooLarge_BadHeight, ζ.TooLarge, _, false, rfl, T.r_TooLarge.E, rfl, T.kit_TooLarge_BadSize, ζ.TooLarge, _, true, rfl, T.r_TooLarge.E, rfl, T.kit_TooLarge_TooLarge, ζ.TooLarge, _, false, rfl, T.r_TooLarge.E, rfl, T.kit_TooLarge_BadOwners, _, rfl, (by show 4 ≤ 1000; decide), ζ.TooLarge, _, false, rfl, T.r_TooLarge.E, rfl, T.kit_TooLarge_BadEdge, ζ.TooLarge, _, false, rfl, T.r_TooLarge.E, rfl, T.kit_TooLarge_DuplicateEdge, ζ.TooLarge, _, false, rfl, T.r_TooLarge.E, rfl, T.kit_TooLarge_DeadEnd, _, rfl, (by show 3 ≤ 1000; decide), _, _, rfl, rfl, (by show _ ≤ 100000; decide), _, rfl, rfl, ζ.TooLarge, _, false, rfl, T.r_TooLarge.E, rfl, T.kit_TooLarge_GameError, ζ.TooLarge, _, false, rfl, T.r_TooLarge.E, rfl, T.kit_TooLarge_OutOfRange, ζ.TooLarge, _, true, rfl, T.r_TooLarge.E, rfl, T.kit_TooLarge_ValueError, _, rfl, (by show 3 ≤ 1000; decide), _, _, rfl, rfl, (by show _ ≤ 100000; decide), _, rfl, rfl, ⟨ζ.TooLarge, _, false, rfl, T.r_TooLarge.E, rfl, T.kit_TooLarge_BadEdge, false, rfl, (fun z => by cases z), (fun _ => ⟨ζ.TooLarge, _, false, rfl, T.r_TooLarge.E, rfl, T.kit_TooLarge_DuplicateEdge, false, rfl, (fun z => by cases z), (fun _ => ⟨ζ.TooLarge, _, false, rfl, T.r_TooLarge.E, rfl, T.kit_TooLarge_DeadEnd, false, rfl, (fun z => by cases z), (fun _ => (by refine ⟨_, _, _, .any, ?_, q⟩; rfl))⟩)⟩)⟩⟩
  · have q := q2 (by rw [e]; intro os z; cases z)
    rw [e] at q
    refine ⟨true, T.exm_BadEdge_LadderreachError, fun _ a dd hA _ => ?_, fun z => by cases z⟩
    obtain ⟨d0, hd0⟩ := hA _ rfl
    exact ⟨ζ.BadEdge, _, false, rfl, T.e_BadEdge.E, rfl, T.kit_BadEdge_BadHeight, ζ.BadEdge, _, false, rfl, T.e_BadEdge.E, rfl, T.kit_BadEdge_BadSize, ζ.BadEdge, _, false, rfl, T.e_BadEdge.E, rfl, T.kit_BadEdge_TooLarge, ζ.BadEdge, _, false, rfl, T.e_BadEdge.E, rfl, T.kit_BadEdge_BadOwners, _, rfl, (by show 4 ≤ 1000; decide), ζ.BadEdge, _, true, rfl, T.e_BadEdge.E, rfl, T.kit_BadEdge_BadEdge, ζ.BadEdge, _, false, rfl, T.e_BadEdge.E, rfl, T.kit_BadEdge_DuplicateEdge, ζ.BadEdge, _, false, rfl, T.e_BadEdge.E, rfl, T.kit_BadEdge_DeadEnd, _, rfl, (by show 3 ≤ 1000; decide), _, _, rfl, rfl, (by show _ ≤ 100000; decide), _, rfl, rfl, ζ.BadEdge, _, true, rfl, T.e_BadEdge.E, rfl, T.kit_BadEdge_GameError, ζ.BadEdge, _, false, rfl, T.e_BadEdge.E, rfl, T.kit_BadEdge_OutOfRange, ζ.BadEdge, _, true, rfl, T.e_BadEdge.E, rfl, T.kit_BadEdge_ValueError, _, rfl, (by show 3 ≤ 1000; decide), _, _, rfl, rfl, (by show _ ≤ 100000; decide), _, rfl, rfl, ⟨ζ.BadEdge, _, true, rfl, T.e_BadEdge.E, rfl, T.kit_BadEdge_BadEdge, true, rfl, (fun _ => ⟨(fun _ => .inl ⟨rfl, _, rfl, ⟨d0, hd0⟩, .inl ⟨((i : Nat) : Int), rfl, ⟨ζ.BadEdge, _, false, rfl, T.e_BadEdge.E, rfl, T.kit_BadEdge_DeadEnd, false, rfl, (fun z => by cases z), (fun _ => (by refine ⟨_, _, _, .any, ?_, q⟩; rfl))⟩⟩⟩), (fun z => by cases z)⟩), (fun z => by cases z)⟩⟩
  · have q := q2 (by rw [e]; intro os z; cases z)
    rw [e] at q
    refine ⟨true, T.exm_DuplicateEdge_LadderreachError, fun _ a dd hA _ => ?_, fun z => by cases z⟩
    obtain ⟨d0, hd0⟩ := hA _ rfl
    exact ⟨ζ.DuplicateEdge, _, false, rfl, T.e_DuplicateEdge.E, rfl, T.kit_DuplicateEdge_BadHeight, ζ.DuplicateEdge, _, false, rfl, T.e_DuplicateEdge.E, rfl, T.kit_DuplicateEdge_BadSize, ζ.DuplicateEdge, _, false, rfl, T.e_DuplicateEdge.E, rfl, T.kit_DuplicateEdge_TooLarge, ζ.DuplicateEdge, _, false, rfl, T.e_DuplicateEdge.E, rfl, T.kit_DuplicateEdge_BadOwners, _, rfl, (by show 4 ≤ 1000; decide), ζ.DuplicateEdge, _, false, rfl, T.e_DuplicateEdge.E, rfl, T.kit_DuplicateEdge_BadEdge, ζ.DuplicateEdge, _, true, rfl, T.e_DuplicateEdge.E, rfl, T.kit_DuplicateEdge_DuplicateEdge, ζ.DuplicateEdge, _, false, rfl, T.e_DuplicateEdge.E, rfl, T.kit_DuplicateEdge_DeadEnd, _, rfl, (by show 3 ≤ 1000; decide), _, _, rfl, rfl, (by show _ ≤ 100000; decide), _, rfl, rfl, ζ.DuplicateEdge, _, true, rfl, T.e_DuplicateEdge.E, rfl, T.kit_DuplicateEdge_GameError, ζ.DuplicateEdge, _, false, rfl, T.e_DuplicateEdge.E, rfl, T.kit_DuplicateEdge_OutOfRange, ζ.DuplicateEdge, _, true, rfl, T.e_DuplicateEdge.E, rfl, T.kit_DuplicateEdge_ValueError, _, rfl, (by show 3 ≤ 1000; decide), _, _, rfl, rfl, (by show _ ≤ 100000; decide), _, rfl, rfl, ⟨ζ.DuplicateEdge, _, false, rfl, T.e_DuplicateEdge.E, rfl, T.kit_DuplicateEdge_BadEdge, false, rfl, (fun z => by cases z), (fun _ => ⟨ζ.DuplicateEdge, _, true, rfl, T.e_DuplicateEdge.E, rfl, T.kit_DuplicateEdge_DuplicateEdge, true, rfl, (fun _ => .inr ⟨rfl, _, rfl, ⟨d0, hd0⟩, .inl ⟨((i : Nat) : Int), rfl, ⟨ζ.DuplicateEdge, _, false, rfl, T.e_DuplicateEdge.E, rfl, T.kit_DuplicateEdge_DeadEnd, false, rfl, (fun z => by cases z), (fun _ => (by refine ⟨_, _, _, .any, ?_, q⟩; rfl))⟩⟩⟩), (fun z => by cases z)⟩)⟩⟩
  · have q := q2 (by rw [e]; intro os z; cases z)
    rw [e] at q
    refine ⟨true, T.exm_DeadEnd_LadderreachError, fun _ a dd hA _ => ?_, fun z => by cases z⟩
    obtain ⟨d0, hd0⟩ := hA _ rfl
    exact ⟨ζ.DeadEnd, _, false, rfl, T.e_DeadEnd.E, rfl, T.kit_DeadEnd_BadHeight, ζ.DeadEnd, _, false, rfl, T.e_DeadEnd.E, rfl, T.kit_DeadEnd_BadSize, ζ.DeadEnd, _, false, rfl, T.e_DeadEnd.E, rfl, T.kit_DeadEnd_TooLarge, ζ.DeadEnd, _, false, rfl, T.e_DeadEnd.E, rfl, T.kit_DeadEnd_BadOwners, _, rfl, (by show 4 ≤ 1000; decide), ζ.DeadEnd, _, false, rfl, T.e_DeadEnd.E, rfl, T.kit_DeadEnd_BadEdge, ζ.DeadEnd, _, false, rfl, T.e_DeadEnd.E, rfl, T.kit_DeadEnd_DuplicateEdge, ζ.DeadEnd, _, true, rfl, T.e_DeadEnd.E, rfl, T.kit_DeadEnd_DeadEnd, _, rfl, (by show 3 ≤ 1000; decide), _, _, rfl, rfl, (by show _ ≤ 100000; decide), _, rfl, rfl, ζ.DeadEnd, _, true, rfl, T.e_DeadEnd.E, rfl, T.kit_DeadEnd_GameError, ζ.DeadEnd, _, false, rfl, T.e_DeadEnd.E, rfl, T.kit_DeadEnd_OutOfRange, ζ.DeadEnd, _, true, rfl, T.e_DeadEnd.E, rfl, T.kit_DeadEnd_ValueError, _, rfl, (by show 3 ≤ 1000; decide), _, _, rfl, rfl, (by show _ ≤ 100000; decide), _, rfl, rfl, ⟨ζ.DeadEnd, _, false, rfl, T.e_DeadEnd.E, rfl, T.kit_DeadEnd_BadEdge, false, rfl, (fun z => by cases z), (fun _ => ⟨ζ.DeadEnd, _, false, rfl, T.e_DeadEnd.E, rfl, T.kit_DeadEnd_DuplicateEdge, false, rfl, (fun z => by cases z), (fun _ => ⟨ζ.DeadEnd, _, true, rfl, T.e_DeadEnd.E, rfl, T.kit_DeadEnd_DeadEnd, true, rfl, (fun _ => ⟨rfl, _, rfl, ⟨d0, hd0⟩, .inl ⟨((v : Nat) : Int), rfl, (by refine ⟨_, _, _, .any, ?_, q⟩; rfl)⟩⟩), (fun z => by cases z)⟩)⟩)⟩⟩
def fWm (C : Addr) : Fs := fun as _ Q => ∃ (h n : Int) (tp : Bool) (es : List (List Int)), as = [.d (.int h), .d (.int n), .d (edX tp es)] ∧ h.natAbs ≤ 1000000 ∧ n.natAbs ≤ 1000000 ∧ es.length ≤ 1000 ∧ Tri es ∧
  (webDue h n es = .fine → ∀ ss, ss.Perm es → ss.Pairwise elt → Q (.fr (anO (webD C h n ss) [] .non))) ∧ (webDue h n es ≠ .fine → Q (.fr (anO .non (wKin (webDue h n es)) (wPl (webDue h n es)))))
theorem q_wm (T : Txt P K mg ζ) : CalX P w K mg base 6 "_law_web" (spF K (fWm ζ.Web)) := by
  have cx_Web : MakX P w K mg base 4 "Web" ζ.Web (spWebX ζ.Web ζ.BadHeight ζ.BadSize ζ.TooLarge ζ.BadEdge ζ.DuplicateEdge) := ok_webX T
  have mk_Web_of := @WX.mk_Web_of P K mg ζ
  refine T.d_web.dl sc_web (by rintro as E Q ⟨h, n, tp, es, rfl, _⟩; rfl) (by decide) fun fa cdv A outer s H E hr => ⟨_, qss_cons (qs_setN (i := 3) false sc_web.nd rfl (Or.inl rfl) (qe_p (qp_non)))
 (qss_cons (qs_setN (i := 4) false sc_web.nd rfl (Or.inl rfl) (qe_p (qp_non)))
 (qss_cons (qs_setN (i := 5) true sc_web.nd rfl (Or.inl rfl) (qe_lst (qa_nil)))
 (qss_cut (qs_try rfl rfl sc_web.nd (takes_of rfl rfl rfl rfl) (fun W pn xe tk po => qss_one (qs_setN (i := 3) false sc_web.nd rfl (Or.inl rfl) (qe_mkT cx_Web hr (by first | decide | omega) tk (by rfl) (qa_cons (qe_var (pv 0)) (qa_cons (qe_var (pv 1)) (qa_cons (qe_var (pv 2)) (qa_nil)))) (mk_Web_of T)))) (clq_held (i := 6) rfl rfl (by exact ⟨rfl, by decide, .inl T.mg_LadderreachError⟩) (fun a oe cls d pn hz hf => qss_cons (qs_setN (i := 5) true sc_web.nd rfl (Or.inl rfl) (qe_lst (qa_cons (qe_isX (e2 := .Constant .none 0 ⟨0, 0, 0, 0⟩) (p := ⟨0, 0, 0, 0⟩) T.objc hz hf (.own _) (pe_callB (call_isX T.objc hz hf) (by rfl) T.n_isinstance b_isinstance (pa_cons (pv 6) (pa_cons (pe_glob (v := .ref ζ.BadHeight) (by rfl) T.mg_BadHeight rfl) pa_nil)))) (qa_cons (qe_isX (e2 := .Constant .none 0 ⟨0, 0, 0, 0⟩) (p := ⟨0, 0, 0, 0⟩) T.objc hz hf (.own _) (pe_callB (call_isX T.objc hz hf) (by rfl) T.n_isinstance b_isinstance (pa_cons (pv 6) (pa_cons (pe_glob (v := .ref ζ.BadSize) (by rfl) T.mg_BadSize rfl) pa_nil)))) (qa_cons (qe_isX (e2 := .Constant .none 0 ⟨0, 0, 0, 0⟩) (p := ⟨0, 0, 0, 0⟩) T.objc hz hf (.own _) (pe_callB (call_isX T.objc hz hf) (by rfl) T.n_isinstance b_isinstance (pa_cons (pv 6) (pa_cons (pe_glob (v := .ref ζ.TooLarge) (by rfl) T.mg_TooLarge rfl) pa_nil)))) (qa_cons (qe_isX (e2 := .Constant .none 0 ⟨0, 0, 0, 0⟩) (p := ⟨0, 0, 0, 0⟩) T.objc hz hf (.own _) (pe_callB (call_isX T.objc hz hf) (by rfl) T.n_isinstance b_isinstance (pa_cons (pv 6) (pa_cons (pe_glob (v := .ref ζ.BadOwners) (by rfl) T.mg_BadOwners rfl) pa_nil)))) (qa_nil)))))))
 (qss_cons (qs_setN (i := 5) true sc_web.nd rfl (Or.inl rfl) (qe_loanF (qe_catF (qe_var (pv 5)) (qe_lst (qa_cons (qe_isX (e2 := .Constant .none 0 ⟨0, 0, 0, 0⟩) (p := ⟨0, 0, 0, 0⟩) T.objc hz hf (.own _) (pe_callB (call_isX T.objc hz hf) (by rfl) T.n_isinstance b_isinstance (pa_cons (pv 6) (pa_cons (pe_glob (v := .ref ζ.BadEdge) (by rfl) T.mg_BadEdge rfl) pa_nil)))) (qa_cons (qe_isX (e2 := .Constant .none 0 ⟨0, 0, 0, 0⟩) (p := ⟨0, 0, 0, 0⟩) T.objc hz hf (.own _) (pe_callB (call_isX T.objc hz hf) (by rfl) T.n_isinstance b_isinstance (pa_cons (pv 6) (pa_cons (pe_glob (v := .ref ζ.DuplicateEdge) (by rfl) T.mg_DuplicateEdge rfl) pa_nil)))) (qa_cons (qe_isX (e2 := .Constant .none 0 ⟨0, 0, 0, 0⟩) (p := ⟨0, 0, 0, 0⟩) T.objc hz hf (.own _) (pe_callB (call_isX T.objc hz hf) (by rfl) T.n_isinstance b_isinstance (pa_cons (pv 6) (pa_cons (pe_glob (v := .ref ζ.DeadEnd) (by rfl) T.mg_DeadEnd rfl) pa_nil)))) (qa_nil))))))))
 (qss_cons (qs_setN (i := 5) true sc_web.nd rfl (Or.inl rfl) (qe_loanF (qe_catF (qe_var (pv 5)) (qe_lst (qa_cons (qe_isX (e2 := .Constant .none 0 ⟨0, 0, 0, 0⟩) (p := ⟨0, 0, 0, 0⟩) T.objc hz hf (.own _) (pe_callB (call_isX T.objc hz hf) (by rfl) T.n_isinstance b_isinstance (pa_cons (pv 6) (pa_cons (pe_glob (v := .ref ζ.GameError) (by rfl) T.mg_GameError rfl) pa_nil)))) (qa_cons (qe_isX (e2 := .Constant .none 0 ⟨0, 0, 0, 0⟩) (p := ⟨0, 0, 0, 0⟩) T.objc hz hf (.own _) (pe_callB (call_isX T.objc hz hf) (by rfl) T.n_isinstance b_isinstance (pa_cons (pv 6) (pa_cons (pe_glob (v := .ref ζ.OutOfRange) (by rfl) T.mg_OutOfRange rfl) pa_nil)))) (qa_cons (qe_isX (e2 := .Constant .none 0 ⟨0, 0, 0, 0⟩) (p := ⟨0, 0, 0, 0⟩) T.objc hz hf (.ty _) (pe_callB (call_isX T.objc hz hf) (by rfl) T.n_isinstance b_isinstance (pa_cons (pv 6) (pa_cons (pe_bltn (v := .ty "ValueError") (by rfl) T.n_ValueError b_ValueError rfl) pa_nil)))) (qa_nil))))))))
 (qss_one (qs_if (QW.qt (qw_or (qt_truth (qe_isX (e2 := .Constant .none 0 ⟨0, 0, 0, 0⟩) (p := ⟨0, 0, 0, 0⟩) T.objc hz hf (.own _) (pe_callB (call_isX T.objc hz hf) (by rfl) T.n_isinstance b_isinstance (pa_cons (pv 6) (pa_cons (pe_glob (v := .ref ζ.BadEdge) (by rfl) T.mg_BadEdge rfl) pa_nil))))) (qw_or1 (qt_truth (qe_isX (e2 := .Constant .none 0 ⟨0, 0, 0, 0⟩) (p := ⟨0, 0, 0, 0⟩) T.objc hz hf (.own _) (pe_callB (call_isX T.objc hz hf) (by rfl) T.n_isinstance b_isinstance (pa_cons (pv 6) (pa_cons (pe_glob (v := .ref ζ.DuplicateEdge) (by rfl) T.mg_DuplicateEdge rfl) pa_nil))))))))
 (qss_one (qs_setN (i := 4) false sc_web.nd rfl (Or.inl rfl) (qe_alt (qe_xf T.e_BadEdge.X T.e_BadEdge.no hz hf (pv 6)) (qe_xf T.e_DuplicateEdge.X T.e_DuplicateEdge.no hz hf (pv 6)))))
 (qss_nil)))))) (clq_nil)))
 (qss_one (qs_retLst (qo_cons (qe_var (pv 3)) (qo_own (pv 5) (qo_cons (qe_var (pv 4)) (qo_nil))))))))), ?_⟩
  rintro as Ed Qd ⟨h, n, tp, es, rfl, hh, hn, hl, h3, q1, q2⟩
  refine ⟨_, rfl, _, rfl, _, rfl, Nat.zero_le _, ?_⟩
  refine ⟨fun e => ∃ (m p : D) (k : List Bool) (z6 : Ev), e = [.d (.int h), .d (.int n), .d (edX tp es), .d m, .d p, .own (.ls (k.map .bl)) none, z6] ∧ Qd (.fr (anO m k p)), ?_, ?_⟩
  rotate_left
  · rintro e ⟨m, p, k, z6, rfl, q⟩
    exact ⟨rfl, _, _, rfl, by show 3 ≤ 1000; decide, q⟩
  refine ⟨h, n, tp, es, rfl, hh, hn, hl, h3, fun e ss sp pw => (by refine ⟨_, _, _, .any, ?_, q1 e ss sp pw⟩; rfl), fun e => ?_, fun e => ?_, fun e => ?_, fun i e => ?_, fun i e => ?_⟩
  · have q := q2 (by rw [e]; intro z; cases z)
    rw [e] at q
    refine ⟨true, T.exm_BadHeight_LadderreachError, fun _ a dd hA _ => ?_, fun z => by cases z⟩
    exact ⟨ζ.BadHeight, _, true, rfl, T.r_BadHeight.E, rfl, T.kit_BadHeight_BadHeight, ζ.BadHeight, _, false, rfl, T.r_BadHeight.E, rfl, T.kit_BadHeight_BadSize, ζ.BadHeight, _, false, rfl, T.r_BadHeight.E, rfl, T.kit_BadHeight_TooLarge, ζ.BadHeight, _, false, rfl, T.r_BadHeight.E, rfl, T.kit_BadHeight_BadOwners, _, rfl, (by show 4 ≤ 1000; decide), ζ.BadHeight, _, false, rfl, T.r_BadHeight.E, rfl, T.kit_BadHeight_BadEdge, ζ.BadHeight, _, false, rfl, T.r_BadHeight.E, rfl, T.kit_BadHeight_DuplicateEdge, ζ.BadHeight, _, false, rfl, T.r_BadHeight.E, rfl, T.kit_BadHeight_DeadEnd, _, rfl, (by show 3 ≤ 1000; decide), _, _, rfl, rfl, (by show _ ≤ 100000; decide), _, rfl, rfl, ζ.BadHeight, _, false, rfl, T.r_BadHeight.E, rfl, T.kit_BadHeight_GameError, ζ.BadHeight, _, false, rfl, T.r_BadHeight.E, rfl, T.kit_BadHeight_OutOfRange, ζ.BadHeight, _, true, rfl, T.r_BadHeight.E, rfl, T.kit_BadHeight_ValueError, _, rfl, (by show 3 ≤ 1000; decide), _, _, rfl, rfl, (by show _ ≤ 100000; decide), _, rfl, rfl, ⟨ζ.BadHeight, _, false, rfl, T.r_BadHeight.E, rfl, T.kit_BadHeight_BadEdge, false, rfl, (fun z => by cases z), (fun _ => ⟨ζ.BadHeight, _, false, rfl, T.r_BadHeight.E, rfl, T.kit_BadHeight_DuplicateEdge, false, rfl, (fun z => by cases z), (fun _ => (by refine ⟨_, _, _, .any, ?_, q⟩; rfl))⟩)⟩⟩
  · have q := q2 (by rw [e]; intro z; cases z)
    rw [e] at q
    refine ⟨true, T.exm_BadSize_LadderreachError, fun _ a dd hA _ => ?_, fun z => by cases z⟩
    exact ⟨ζ.BadSize, _, false, rfl, T.r_BadSize.E, rfl, T.kit_BadSize_BadHeight, ζ.BadSize, _, true, rfl, T.r_BadSize.E, rfl, T.kit_BadSize_BadSize, ζ.BadSize, _, false, rfl, T.r_BadSize.E, rfl, T.kit_BadSize_TooLarge, ζ.BadSize, _, false, rfl, T.r_BadSize.E, rfl, T.kit_BadSize_BadOwners, _, rfl, (by show 4 ≤ 1000; decide), ζ.BadSize, _, false, rfl, T.r_BadSize.E, rfl, T.kit_BadSize_BadEdge, ζ.BadSize, _, false, rfl, T.r_BadSize.E, rfl, T.kit_BadSize_DuplicateEdge, ζ.BadSize, _, false, rfl, T.r_BadSize.E, rfl, T.kit_BadSize_DeadEnd, _, rfl, (by show 3 ≤ 1000; decide), _, _, rfl, rfl, (by show _ ≤ 100000; decide), _, rfl, rfl, ζ.BadSize, _, false, rfl, T.r_BadSize.E, rfl, T.kit_BadSize_GameError, ζ.BadSize, _, false, rfl, T.r_BadSize.E, rfl, T.kit_BadSize_OutOfRange, ζ.BadSize, _, true, rfl, T.r_BadSize.E, rfl, T.kit_BadSize_ValueError, _, rfl, (by show 3 ≤ 1000; decide), _, _, rfl, rfl, (by show _ ≤ 100000; decide), _, rfl, rfl, ⟨ζ.BadSize, _, false, rfl, T.r_BadSize.E, rfl, T.kit_BadSize_BadEdge, false, rfl, (fun z => by cases z), (fun _ => ⟨ζ.BadSize, _, false, rfl, T.r_BadSize.E, rfl, T.kit_BadSize_DuplicateEdge, false, rfl, (fun z => by cases z), (fun _ => (by refine ⟨_, _, _, .any, ?_, q⟩; rfl))⟩)⟩⟩
  · have q := q2 (by rw [e]; intro z; cases z)
    rw [e] at q
    refine ⟨true, T.exm_TooLarge_LadderreachError, fun _ a dd hA _ => ?_, fun z => by cases z⟩
    exact ⟨ζ.TooLarge, _, false, rfl, T.r_TooLarge.E, rfl, T.kit_TooLarge_BadHeight, ζ.TooLarge, _, false, rfl, T.r_TooLarge.E, rfl, T.kit_TooLarge_BadSize, ζ.TooLarge, _, true, rfl, T.r_TooLarge.E, rfl, T.kit_TooLarge_TooLarge, ζ.TooLarge, _, false, rfl, T.r_TooLarge.E, rfl, T.kit_TooLarge_BadOwners, _, rfl, (by show 4 ≤ 1000; decide), ζ.TooLarge, _, false, rfl, T.r_TooLarge.E, rfl, T.kit_TooLarge_BadEdge, ζ.TooLarge, _, false, rfl, T.r_TooLarge.E, rfl, T.kit_TooLarge_DuplicateEdge, ζ.TooLarge, _, false, rfl, T.r_TooLarge.E, rfl, T.kit_TooLarge_DeadEnd, _, rfl, (by show 3 ≤ 1000; decide), _, _, rfl, rfl, (by show _ ≤ 100000; decide), _, rfl, rfl, ζ.TooLarge, _, false, rfl, T.r_TooLarge.E, rfl, T.kit_TooLarge_GameError, ζ.TooLarge, _, false, rfl, T.r_TooLarge.E, rfl, T.kit_TooLarge_OutOfRange, ζ.TooLarge, _, true, rfl, T.r_TooLarge.E, rfl, T.kit_TooLarge_ValueError, _, rfl, (by show 3 ≤ 1000; decide), _, _, rfl, rfl, (by show _ ≤ 100000; decide), _, rfl, rfl, ⟨ζ.TooLarge, _, false, rfl, T.r_TooLarge.E, rfl, T.kit_TooLarge_BadEdge, false, rfl, (fun z => by cases z), (fun _ => ⟨ζ.TooLarge, _, false, rfl, T.r_TooLarge.E, rfl, T.kit_TooLarge_DuplicateEdge, false, rfl, (fun z => by cases z), (fun _ => (by refine ⟨_, _, _, .any, ?_, q⟩; rfl))⟩)⟩⟩
  · have q := q2 (by rw [e]; intro z; cases z)
    rw [e] at q
    refine ⟨true, T.exm_BadEdge_LadderreachError, fun _ a dd hA _ => ?_, fun z => by cases z⟩
    obtain ⟨d0, hd0⟩ := hA _ rfl
    exact ⟨ζ.BadEdge, _, false, rfl, T.e_BadEdge.E, rfl, T.kit_BadEdge_BadHeight, ζ.BadEdge, _, false, rfl, T.e_BadEdge.E, rfl, T.kit_BadEdge_BadSize, ζ.BadEdge, _, false, rfl, T.e_BadEdge.E, rfl, T.kit_BadEdge_TooLarge, ζ.BadEdge, _, false, rfl, T.e_BadEdge.E, rfl, T.kit_BadEdge_BadOwners, _, rfl, (by show 4 ≤ 1000; decide), ζ.BadEdge, _, true, rfl, T.e_BadEdge.E, rfl, T.kit_BadEdge_BadEdge, ζ.BadEdge, _, false, rfl, T.e_BadEdge.E, rfl, T.kit_BadEdge_DuplicateEdge, ζ.BadEdge, _, false, rfl, T.e_BadEdge.E, rfl, T.kit_BadEdge_DeadEnd, _, rfl, (by show 3 ≤ 1000; decide), _, _, rfl, rfl, (by show _ ≤ 100000; decide), _, rfl, rfl, ζ.BadEdge, _, true, rfl, T.e_BadEdge.E, rfl, T.kit_BadEdge_GameError, ζ.BadEdge, _, false, rfl, T.e_BadEdge.E, rfl, T.kit_BadEdge_OutOfRange, ζ.BadEdge, _, true, rfl, T.e_BadEdge.E, rfl, T.kit_BadEdge_ValueError, _, rfl, (by show 3 ≤ 1000; decide), _, _, rfl, rfl, (by show _ ≤ 100000; decide), _, rfl, rfl, ⟨ζ.BadEdge, _, true, rfl, T.e_BadEdge.E, rfl, T.kit_BadEdge_BadEdge, true, rfl, (fun _ => ⟨(fun _ => .inl ⟨rfl, _, rfl, ⟨d0, hd0⟩, .inl ⟨((i : Nat) : Int), rfl, (by refine ⟨_, _, _, .any, ?_, q⟩; rfl)⟩⟩), (fun z => by cases z)⟩), (fun z => by cases z)⟩⟩
  · have q := q2 (by rw [e]; intro z; cases z)
    rw [e] at q
    refine ⟨true, T.exm_DuplicateEdge_LadderreachError, fun _ a dd hA _ => ?_, fun z => by cases z⟩
    obtain ⟨d0, hd0⟩ := hA _ rfl
    exact ⟨ζ.DuplicateEdge, _, false, rfl, T.e_DuplicateEdge.E, rfl, T.kit_DuplicateEdge_BadHeight, ζ.DuplicateEdge, _, false, rfl, T.e_DuplicateEdge.E, rfl, T.kit_DuplicateEdge_BadSize, ζ.DuplicateEdge, _, false, rfl, T.e_DuplicateEdge.E, rfl, T.kit_DuplicateEdge_TooLarge, ζ.DuplicateEdge, _, false, rfl, T.e_DuplicateEdge.E, rfl, T.kit_DuplicateEdge_BadOwners, _, rfl, (by show 4 ≤ 1000; decide), ζ.DuplicateEdge, _, false, rfl, T.e_DuplicateEdge.E, rfl, T.kit_DuplicateEdge_BadEdge, ζ.DuplicateEdge, _, true, rfl, T.e_DuplicateEdge.E, rfl, T.kit_DuplicateEdge_DuplicateEdge, ζ.DuplicateEdge, _, false, rfl, T.e_DuplicateEdge.E, rfl, T.kit_DuplicateEdge_DeadEnd, _, rfl, (by show 3 ≤ 1000; decide), _, _, rfl, rfl, (by show _ ≤ 100000; decide), _, rfl, rfl, ζ.DuplicateEdge, _, true, rfl, T.e_DuplicateEdge.E, rfl, T.kit_DuplicateEdge_GameError, ζ.DuplicateEdge, _, false, rfl, T.e_DuplicateEdge.E, rfl, T.kit_DuplicateEdge_OutOfRange, ζ.DuplicateEdge, _, true, rfl, T.e_DuplicateEdge.E, rfl, T.kit_DuplicateEdge_ValueError, _, rfl, (by show 3 ≤ 1000; decide), _, _, rfl, rfl, (by show _ ≤ 100000; decide), _, rfl, rfl, ⟨ζ.DuplicateEdge, _, false, rfl, T.e_DuplicateEdge.E, rfl, T.kit_DuplicateEdge_BadEdge, false, rfl, (fun z => by cases z), (fun _ => ⟨ζ.DuplicateEdge, _, true, rfl, T.e_DuplicateEdge.E, rfl, T.kit_DuplicateEdge_DuplicateEdge, true, rfl, (fun _ => .inr ⟨rfl, _, rfl, ⟨d0, hd0⟩, .inl ⟨((i : Nat) : Int), rfl, (by refine ⟨_, _, _, .any, ?_, q⟩; rfl)⟩⟩), (fun z => by cases z)⟩)⟩⟩
end
end LR
set_option Elab.async false
set_option maxRecDepth 100000
set_option linter.all false
set_option maxHeartbeats 4000000
namespace LR
open PySem PySem.Spec PyProof.Rows L2
section
variable {P : Program} {w : World} {K : PySem.W.Frag} {mg : Str → Option Value} {base : Heap} {ζ : Cs}
def nmG : GDue → Str
  | .owners => "BadOwners"
  | .web .height => "BadHeight"
  | .web .size => "BadSize"
  | .web .large => "TooLarge"
  | .web (.bad _) => "BadEdge"
  | .web (.dup _) => "DuplicateEdge"
  | .dead _ => "DeadEnd"
  | _ => ""
def nmsL : List Str := ["BadHeight", "BadSize", "TooLarge", "BadOwners", "BadEdge", "DuplicateEdge", "DeadEnd"]
theorem gdD_eq (g : GDue) : gdD g = .lst [.str (nmG g), gPl g] := by
  rcases g with _ | d | _ | _
  · rfl
  · cases d <;> rfl
  · rfl
  · rfl
theorem deq_bls : ∀ l : List Bool, deq (knD l) (knD l) = true := fun l => by
  have k : ∀ l : List Bool, PyData.eqvAll (pyL (l.map D.bl)) (pyL (l.map D.bl)) = true := fun l => by
    induction l with
    | nil => simp [pyL, PyData.eqvAll]
    | cons x r ih =>
      rw [List.map_cons, pyL, PyData.eqvAll, ih]
      simp [D.py, PyData.eqv]
  simp [knD, deq, D.py, PyData.eqv, k]
theorem okn_bls (l : List Bool) : okn 30 (knD l) = true := by
  show (l.map D.bl).all (okn 29) = true
  rw [List.all_map, List.all_eq_true]; intro x _; rfl
theorem oks_owners : PyData.strOk "BadOwners" = true := by decide +kernel
theorem oks_height : PyData.strOk "BadHeight" = true := by decide +kernel
theorem oks_size : PyData.strOk "BadSize" = true := by decide +kernel
theorem oks_large : PyData.strOk "TooLarge" = true := by decide +kernel
theorem oks_bad : PyData.strOk "BadEdge" = true := by decide +kernel
theorem oks_dup : PyData.strOk "DuplicateEdge" = true := by decide +kernel
theorem oks_dead : PyData.strOk "DeadEnd" = true := by decide +kernel
theorem oks_none : PyData.strOk "" = true := by decide +kernel
theorem oks_nmG (g : GDue) : PyData.strOk (nmG g) = true := by
  rcases g with _ | d | _ | _
  · exact oks_owners
  · cases d
    · exact oks_height
    · exact oks_size
    · exact oks_large
    · exact oks_bad
    · exact oks_dup
    · exact oks_none
  · exact oks_dead
  · exact oks_none
def kinN (s : Str) : List Bool := (nmsL.map fun n => decide (n = s)) ++ [(nmsL.drop 3).any fun z => decide (z = s), false, true]
theorem kin_owners : [false, false, false, true, false, false, false, true, false, true] = kinN "BadOwners" := by decide +kernel
theorem kin_height : [true, false, false, false, false, false, false, false, false, true] = kinN "BadHeight" := by decide +kernel
theorem kin_size : [false, true, false, false, false, false, false, false, false, true] = kinN "BadSize" := by decide +kernel
theorem kin_large : [false, false, true, false, false, false, false, false, false, true] = kinN "TooLarge" := by decide +kernel
theorem kin_bad : [false, false, false, false, true, false, false, true, false, true] = kinN "BadEdge" := by decide +kernel
theorem kin_dup : [false, false, false, false, false, true, false, true, false, true] = kinN "DuplicateEdge" := by decide +kernel
theorem kin_dead : [false, false, false, false, false, false, true, true, false, true] = kinN "DeadEnd" := by decide +kernel
theorem gKin_nm {g : GDue} (h : gKin g ≠ []) : gKin g = kinN (nmG g) := by
  rcases g with _ | d | _ | _
  · exact kin_owners
  · cases d
    · exact kin_height
    · exact kin_size
    · exact kin_large
    · exact kin_bad
    · exact kin_dup
    · exact absurd rfl h
  · exact kin_dead
  · exact absurd rfl h
theorem gPl_cases (g : GDue) : gPl g = .non ∨ ∃ i : Nat, gPl g = nat i := by
  rcases g with _ | d | _ | _
  · exact .inl rfl
  · cases d
    · exact .inl rfl
    · exact .inl rfl
    · exact .inl rfl
    · exact .inr ⟨_, rfl⟩
    · exact .inr ⟨_, rfl⟩
    · exact .inl rfl
  · exact .inr ⟨_, rfl⟩
  · exact .inl rfl
theorem isi_or {W G : Addr} {h : Int} {os ss} : orN (isiOD2 W W true) (isiOD2 G W true) [gameD G h os ss, .cls W] = some (.bl true) := by
  unfold orN
  by_cases c : G = W
  · subst c
    rw [show isiOD2 G G true [gameD G h os ss, .cls G] = some (.bl true) from if_pos ⟨rfl, rfl⟩]
  · rw [show isiOD2 W W true [gameD G h os ss, .cls W] = none from if_neg (fun z => c z.1)]
    exact if_pos ⟨rfl, rfl⟩
theorem list_or {W G : Addr} {h : Int} {os ss} : orN (listID W "edges") (listID G "edges") [gameD G h os ss] = some (edL ss) := by
  unfold orN
  by_cases c : G = W
  · subst c
    rw [show listID G "edges" [gameD G h os ss] = some (edL ss) from if_pos rfl]
  · rw [show listID W "edges" [gameD G h os ss] = none from if_neg c]
    exact if_pos rfl
def fRefd : Fs := fun as _ Q => ∃ g : GDue, as = [.d (.lst [.non, knD (gKin g), gPl g]), .d (gdD g)] ∧ gKin g ≠ [] ∧ Q (.d (.bl true))
theorem q_refd (T : Txt P K mg ζ) : CalX P w K mg base 2 "_law_refused_as" (spF K fRefd) := by
  have cx_number : CalX P w K mg base 1 "_law_number" (spF K fNum) := q_num T
  refine T.d_refused_as.dl sc_refused_as (by rintro as E Q ⟨g, rfl, _⟩; rfl) (by decide) fun fa cdv A outer s H E hr => ⟨_, qss_cons (qs_setN (i := 2) false sc_refused_as.nd rfl (Or.inl rfl) (qe_p (qp_lst (qps_cons (qp_str) (qps_cons (qp_str) (qps_cons (qp_str) (qps_cons (qp_str) (qps_cons (qp_str) (qps_cons (qp_str) (qps_cons (qp_str) (qps_nil)))))))))))
 (qss_cut (qs_setN (i := 3) false sc_refused_as.nd rfl (Or.inl rfl) (qe_p (qp_op op_addA o_add (qp_lc (own := [("name", 4)]) (it := ipSeq _) rfl sc_refused_as.nd (fun W => qi_seq (qe_p (qp_var (pv 2)))) (blkOk_by (N := N_refused_as) (sc := defScope s_refused_as) (by decide +kernel)) (fun _ _ _ _ _ => qg_name (pg_name (i := 4) sc_refused_as.nd rfl (Or.inl rfl))) (fun _ _ _ _ _ => qpts_nil) (fun _ _ _ _ _ => qp_cmp (op_eqD hr.units) o_eq (qp_var (pv 4)) (qp_ix ix_A o_ix (qp_var (pv 1)) (qp_int) (fun _ _ => rfl)) (nomark _))) (qp_lst (qps_cons (qp_cmp (op_inA (Room.u65 hr)) o_in (qp_ix ix_A o_ix (qp_var (pv 1)) (qp_int) (fun _ _ => rfl)) (qp_slice (qp_var (pv 2)) (qpo_some (qp_int)) qpo_none) rfl) (qps_cons (qp_bl) (qps_cons (qp_bl) (qps_nil))))))))
 (qss_cons (qs_if (qt_p (qpt_cmp (op_neD hr.units) o_ne (qp_ix ix_A o_ix (qp_var (pv 0)) (qp_int) (fun _ _ => rfl)) (qp_var (pv 3)) (nomark _)))
 (qss_one (qs_ret (qe_p (qp_bl))))
 (qss_nil))
 (qss_one (qs_ret (qe_or (qe_p (qp_cmp op_isN o_isN (qp_ix ix_A o_ix (qp_var (pv 1)) (qp_int) (fun _ _ => rfl)) (qp_non) (nomark _))) (qe_one (qe_and (qe_cT cx_number hr (by first | decide | omega) (takes_of rfl rfl rfl rfl) (by rfl) (qa_cons (qe_p (qp_ix ix_A o_ix (qp_var (pv 0)) (qp_int) (fun _ _ => rfl))) (qa_nil))) (qe_one (qe_p (qp_cmp (op_eqD hr.units) o_eq (qp_ix ix_A o_ix (qp_var (pv 0)) (qp_int) (fun _ _ => rfl)) (qp_ix ix_A o_ix (qp_var (pv 1)) (qp_int) (fun _ _ => rfl)) (nomark _))))))))))), ?_⟩
  rintro as Ed Qd ⟨g, rfl, hg, q⟩
  have okA : ∀ n ∈ nmsL, PyData.strOk n = true := by decide +kernel
  have okx : PyData.strOk (nmG g) = true := oks_nmG g
  rw [gdD_eq g]
  have kin : gKin g = kinN (nmG g) := gKin_nm hg
  refine ⟨.lst (nmsL.map D.str), rfl, ?_⟩
  refine ⟨fun e => e = [.d (.lst [.non, knD (gKin g), gPl g]), .d (.lst [.str (nmG g), gPl g]), .d (.lst (nmsL.map D.str)), .d (knD (gKin g)), .any], ?_, ?_⟩
  · refine ⟨knD (gKin g), p2_of (plc_of rfl (pseq_of rfl) (pcol_all (l := nmsL) (enc := D.str) (F := fun n => D.bl (decide (n = nmG g))) fun n hn => pturn_of (c := true) rfl rfl fun _ => p2_of rfl (p2_of rfl rfl (atI_of (k := 0) rfl)) (eqS (okA n hn) okx rfl))) (u_lst3X (a := .bl ((nmsL.drop 3).any fun z => decide (z = nmG g))) (p2_of (x := .str (nmG g)) (y := .lst ((nmsL.drop 3).map D.str)) (z := .bl ((nmsL.drop 3).any fun z => decide (z = nmG g))) (p2_of rfl rfl (atI_of (k := 0) rfl)) ?_ ?_) rfl rfl) ?_, rfl⟩
    · rfl
    · show inL (.str (nmG g)) ((nmsL.drop 3).map D.str) = _
      unfold inL
      rw [if_pos ⟨okx, by show ((nmsL.drop 3).map D.str).all (okn 29) = true; rw [List.all_map, List.all_eq_true]; intro x hx; exact okA x (List.mem_of_mem_drop hx)⟩, List.any_map]
      congr 2
    · rw [kin]
      show some (D.lst _) = some (D.lst ((kinN (nmG g)).map D.bl))
      unfold kinN
      rw [List.map_append, List.map_map]; rfl
  rintro e rfl
  refine ⟨false, p2_of (p2_of rfl rfl (atI_of (k := 1) rfl)) rfl ?_, (fun z => by cases z), fun _ => ?_⟩
  · have ek : eqD (knD (gKin g)) (knD (gKin g)) = some (.bl true) := by
      show (if _ then some (D.bl (deq (knD (gKin g)) (knD (gKin g)))) else none) = _
      rw [if_pos ⟨okn_bls _, okn_bls _⟩, deq_bls]
    show notO (eqD (knD (gKin g)) (knD (gKin g))) = some (.bl false)
    rw [ek]; rfl
  rcases gPl_cases g with eg | ⟨i, eg⟩
  · exact ⟨_, p2_of (p2_of rfl rfl (atI_of (k := 1) rfl)) rfl (by rw [eg]; rfl), true, rfl, (fun _ => q), fun z => by cases z⟩
  · refine ⟨_, p2_of (p2_of rfl rfl (atI_of (k := 1) rfl)) rfl (by rw [eg]; rfl), false, rfl, (fun z => by cases z), fun _ => ?_⟩
    refine ⟨_, p2_of rfl rfl (atI_of (k := 2) rfl), (i : Int), by rw [eg], true, rfl, (fun _ => ?_), fun z => by cases z⟩
    exact ⟨_, p2_of (p2_of rfl rfl (atI_of (k := 2) rfl)) (p2_of rfl rfl (atI_of (k := 1) rfl)) (by rw [eg]; show some (D.bl (decide ((i : Int) = (i : Int)))) = _; rw [decide_eq_true rfl]), q⟩
theorem elt_lex {e f : List Int} (h : elt e f) : HT.lexLt e f = true := by
  obtain ⟨s, r, t, s', r', t', rfl, rfl, h⟩ := h
  rw [HT.lexLt_cons]
  rcases h with h | ⟨rfl, h⟩
  · rw [if_neg (by omega)]; exact decide_eq_true h
  rw [if_pos rfl, HT.lexLt_cons]
  rcases h with h | ⟨rfl, h⟩
  · rw [if_neg (by omega)]; exact decide_eq_true h
  rw [if_pos rfl, HT.lexLt_cons, if_neg (by omega)]; exact decide_eq_true h
def fInO : Fs := fun as _ Q => ∃ (tp : Bool) (es ss : List (List Int)), as = [.d (edT ss), .d (edX tp es)] ∧ Tri es ∧ es.length ≤ 63 ∧ ss.Perm es ∧ ss.Pairwise elt ∧ Q (.d (.bl true))
theorem q_inO (T : Txt P K mg ζ) : CalX P w K mg base 3 "_law_in_order" (spF K fInO) := by
  have cx_is_edge : CalX P w K mg base 2 "_law_is_edge" (spF K fIsEdge) := q_isEdge T
  refine T.d_in_order.dl sc_in_order (by rintro as E Q ⟨tp, es, ss, rfl, _⟩; rfl) (by decide) fun fa cdv A outer s H E hr => ⟨_, qss_cons (qs_if (qt_p (QPW.qpt (qpw_or (qpt_not (qpt_truth (qp_callB (o_isi (T := "tuple") kitU) call_isi (by rfl) T.n_isinstance b_isinstance (qps_cons (qp_var (pv 0)) (qps_cons (qp_ty (pe_bltn (v := .ty "tuple") (by rfl) T.n_tuple b_tuple rfl)) (qps_nil)))))) (qpw_or1 (qpt_cmp (op_neD hr.units) o_ne (qp_callB o_len c_len (by rfl) T.n_len b_len (qps_cons (qp_var (pv 0)) (qps_nil))) (qp_callB o_len c_len (by rfl) T.n_len b_len (qps_cons (qp_var (pv 1)) (qps_nil))) (nomark _))))))
 (qss_one (qs_ret (qe_p (qp_bl))))
 (qss_nil))
 (qss_cons (qs_for (vs := [2]) [2] (passes_of rfl) rfl (qi_seq (qe_var (pv 0))) (qg_name (pg_name (i := 2) sc_in_order.nd rfl (Or.inl rfl)))
 (qss_one (qs_if (QW.qt (qw_or (qt_not (qt_truth (qe_cT cx_is_edge hr (by first | decide | omega) (takes_of rfl rfl rfl rfl) (by rfl) (qa_cons (qe_var (pv 2)) (qa_nil))))) (qw_or1 (qt_p (qpt_cmp (op_notInA (Room.u65 hr)) o_nin (qp_var (pv 2)) (qp_var (pv 1)) rfl)))))
 (qss_one (qs_ret (qe_p (qp_bl))))
 (qss_nil))))
 (qss_cons (qs_for (vs := [3]) [3] (passes_of rfl) rfl (qi_range2 (by rfl) T.n_range (qe_p (qp_int)) (qe_p (qp_callB o_len c_len (by rfl) T.n_len b_len (qps_cons (qp_var (pv 0)) (qps_nil))))) (qg_name (pg_name (i := 3) sc_in_order.nd rfl (Or.inl rfl)))
 (qss_one (qs_if (qt_p (qpt_not (qpt_cmp (op_ltT (Nat.lt_of_le_of_lt (Nat.le_add_right _ 65) (Room.u65 hr))) o_ltA (qp_ix ix_A o_ix (qp_var (pv 0)) (qp_op op_sub o_sub (qp_var (pv 3)) (qp_int)) (fun _ _ => rfl)) (qp_ix ix_A o_ix (qp_var (pv 0)) (qp_var (pv 3)) (fun _ _ => rfl)) (nomark _))))
 (qss_one (qs_ret (qe_p (qp_bl))))
 (qss_nil))))
 (qss_one (qs_ret (qe_p (qp_bl)))))), ?_⟩
  rintro as Ed Qd ⟨tp, es, ss, rfl, h3, hl, pm, pw, q⟩
  have ls : ss.length = es.length := pm.length_eq
  have t3 : Tri ss := fun e he => h3 e (pm.mem_iff.mp he)
  have lA : lenD [edT ss] = some (nat ss.length) := some_nat (by rw [List.length_map])
  have lE : lenD [edX tp es] = some (nat es.length) := by cases tp <;> exact some_nat (by rw [List.length_map])
  have nn : ∀ e ∈ ss, ninD (intT e) (edX tp es) = some (.bl false) := fun e he => by
    obtain ⟨b, hb, hc⟩ := nin_eds e es
    have : b = false := by
      cases b with
      | false => rfl
      | true => exact absurd (pm.mem_iff.mp he) (hc.mp rfl)
    subst this
    cases tp <;> exact hb
  refine ⟨false, por_of (a := false) rfl (fun _ => p2_of (pN1 rfl lA) (pN1 rfl lE) ?_) (fun z => by cases z), (fun z => by cases z), fun _ => ?_⟩
  · show notO (some (D.bl (decide ((ss.length : Int) = (es.length : Int))))) = _
    rw [ls, decide_eq_true rfl]; rfl
  refine ⟨fun i e => e = [.d (edT ss), .d (edX tp es), .any, .any], rfl, ?_, ?_⟩
  · rintro i x e ex rfl
    obtain ⟨d, ed, rfl⟩ := map_getD ex
    have md := List.mem_of_getElem? ed
    exact ⟨d, rfl, t3 d md, true, rfl, (fun z => by cases z), fun _ => ⟨false, p2_of rfl rfl (nn d md), (fun z => by cases z), fun _ => rfl⟩⟩
  rintro e rfl
  refine ⟨_, rfl, _, pN1 rfl lA, ⟨by decide, by decide, by omega, by omega, by omega⟩, fun i e => e = [.d (edT ss), .d (edX tp es), .any, .any], rfl, ?_, ?_⟩
  · rintro i x e ex rfl
    obtain ⟨ii, ei, rfl⟩ := map_getD ex
    have hi := (List.getElem?_eq_some_iff.mp ei).1
    rw [List.length_range] at hi
    rw [List.getElem?_range hi] at ei
    cases ei
    have e1 : (1 : Int) + (i : Nat) = ((i + 1 : Nat) : Int) := by omega
    obtain ⟨a, ea⟩ : ∃ a, ss[i]? = some a := ⟨_, List.getElem?_eq_getElem (by omega)⟩
    obtain ⟨b, eb⟩ : ∃ b, ss[i + 1]? = some b := ⟨_, List.getElem?_eq_getElem (by omega)⟩
    have lt := elt_lex (List.pairwise_iff_getElem.mp pw i (i + 1) (by omega) (by omega) (by omega))
    rw [show ss[i] = a from by have := (List.getElem?_eq_some_iff.mp ea).2; exact this, show ss[i + 1] = b from by have := (List.getElem?_eq_some_iff.mp eb).2; exact this] at lt
    rw [e1]
    refine ⟨false, p1_of (p2_of (p2_of rfl (p2_of (x := nat (i + 1)) (y := .int 1) rfl rfl (show some (D.int (((i + 1 : Nat) : Int) - 1)) = some (nat i) from by rw [show ((i + 1 : Nat) : Int) - 1 = (i : Int) by omega])) (atI_of (k := i) (by rw [List.getElem?_map, ea]; rfl))) (p2_of rfl rfl (atI_of (k := i + 1) (by rw [List.getElem?_map, eb]; rfl))) (ltA_ints a b)) (by rw [lt]; rfl), (fun z => by cases z), fun _ => rfl⟩
  · rintro e rfl
    exact ⟨_, rfl, q⟩
theorem ok_iterWD (T : Txt P K mg ζ) : Met P w K mg base 1 ζ.Web "__iter__" (spIterD K ζ.Web "edges") := by
  refine T.mt_W_iter.met T.cl_Web sc_W_iter (fun vs H Q E h => ?_) (fun f cdv A outer s H vs Q E hr h => ⟨_, pss_one (ps_ret (pe_callB call_iterT (by rfl) T.n_iter b_iter (pa_cons (pe_fld (pv 0) rfl) (pa_nil)))), ?_⟩)
  · obtain ⟨x, dx, te, fs, ys, rfl, _⟩ := h; rfl
  obtain ⟨x, dx, te, fs, ys, rfl, h1, lk, h2, kk⟩ := h
  exact ⟨_, rfl, x, ζ.Web, dx, _, _, rfl, h1, T.cl_Web, T.na_Web_edges, lk, te, ys, rfl, h2, kk⟩
theorem ok_iterGD (T : Txt P K mg ζ) : Met P w K mg base 1 ζ.Game "__iter__" (spIterD K ζ.Game "edges") := by
  refine T.mt_G_iter.met T.cl_Game sc_G_iter (fun vs H Q E h => ?_) (fun f cdv A outer s H vs Q E hr h => ⟨_, pss_one (ps_ret (pe_callB call_iterT (by rfl) T.n_iter b_iter (pa_cons (pe_fld (pv 0) rfl) (pa_nil)))), ?_⟩)
  · obtain ⟨x, dx, te, fs, ys, rfl, _⟩ := h; rfl
  obtain ⟨x, dx, te, fs, ys, rfl, h1, lk, h2, kk⟩ := h
  exact ⟨_, rfl, x, ζ.Game, dx, _, _, rfl, h1, T.cl_Game, T.na_Game_edges, lk, te, ys, rfl, h2, kk⟩
def fKeep (W G : Addr) : Fs := fun as _ Q => ∃ (m : D) (h n : Int) (es ss : List (List Int)), as = [.d m, .d (.int h), .d (.int n), .d (edL es)] ∧ (m = webD W h n ss ∨ ∃ os : List Bool, (os.length : Int) = n ∧ m = gameD G h os ss) ∧ Tri es ∧ es.length ≤ 63 ∧ ss.Perm es ∧ ss.Pairwise elt ∧ Q (.d (.bl true))
theorem q_keep (T : Txt P K mg ζ) : CalX P w K mg base 4 "_law_keeps" (spF K (fKeep ζ.Web ζ.Game)) := by
  have cx_number : CalX P w K mg base 1 "_law_number" (spF K fNum) := q_num T
  have cx_in_order : CalX P w K mg base 3 "_law_in_order" (spF K fInO) := q_inO T
  have c_W_iter : Met P w K mg base 1 ζ.Web "__iter__" (spIterD K ζ.Web "edges") := ok_iterWD T
  have c_G_iter : Met P w K mg base 1 ζ.Game "__iter__" (spIterD K ζ.Game "edges") := ok_iterGD T
  refine T.d_keeps.dl sc_keeps (by rintro as E Q ⟨m, h, n, es, ss, rfl, _⟩; rfl) (by decide) fun fa cdv A outer s H E hr => ⟨_, qss_cons (qs_if (QW.qt (qw_or (qt_p (qpt_not (qpt_truth (qp_callB (OpN.or1 (o_isiO2 (C := ζ.Web) (D' := ζ.Web) (b := true) T.cl_Web T.ai_Web T.objc T.mo_Web T.kit_Web_Web) (o_isiO2 (C := ζ.Game) (D' := ζ.Web) (b := true) T.cl_Game T.ai_Game T.objc T.mo_Game T.kit_Game_Web)) call_isi (by rfl) T.n_isinstance b_isinstance (qps_cons (qp_var (pv 0)) (qps_cons (qp_cls (pe_glob (v := .ref ζ.Web) (by rfl) T.mg_Web rfl)) (qps_nil))))))) (qw_or (qt_not (qt_truth (qe_cT cx_number hr (by first | decide | omega) (takes_of rfl rfl rfl rfl) (by rfl) (qa_cons (qe_p (qp_fld (qp_var (pv 0)) rfl)) (qa_nil))))) (qw_or1 (qt_not (qt_truth (qe_cT cx_number hr (by first | decide | omega) (takes_of rfl rfl rfl rfl) (by rfl) (qa_cons (qe_p (qp_fld (qp_var (pv 0)) rfl)) (qa_nil)))))))))
 (qss_one (qs_ret (qe_p (qp_bl))))
 (qss_nil))
 (qss_cons (qs_if (qt_p (QPW.qpt (qpw_or (qpt_cmp (op_neD hr.units) o_ne (qp_fld (qp_var (pv 0)) rfl) (qp_var (pv 1)) (nomark _)) (qpw_or1 (qpt_cmp (op_neD hr.units) o_ne (qp_fld (qp_var (pv 0)) rfl) (qp_var (pv 2)) (nomark _))))))
 (qss_one (qs_ret (qe_p (qp_bl))))
 (qss_nil))
 (qss_one (qs_ret (qe_and (qe_cT cx_in_order hr (by first | decide | omega) (takes_of rfl rfl rfl rfl) (by rfl) (qa_cons (qe_p (qp_fld (qp_var (pv 0)) rfl)) (qa_cons (qe_var (pv 3)) (qa_nil)))) (qe_one (qe_cT cx_in_order hr (by first | decide | omega) (takes_of rfl rfl rfl rfl) (by rfl) (qa_cons (qe_p (qp_callTy o_tuple call_tuple_of (by rfl) T.n_tuple b_tuple (qps_cons (qp_callTy (OpN.or (o_listI (C := ζ.Web) (fld := "edges")) (o_listI (C := ζ.Game) (fld := "edges"))) (CallR.or (cr_listIt c_W_iter T.na_Web___len__ T.na_Web___length_hint__ hr (by first | decide | omega)) (cr_listIt c_G_iter T.na_Game___len__ T.na_Game___length_hint__ hr (by first | decide | omega))) (by rfl) T.n_list b_list (qps_cons (qp_var (pv 0)) qps_nil)) (qps_nil)))) (qa_cons (qe_var (pv 3)) (qa_nil))))))))), ?_⟩
  rintro as Ed Qd ⟨m, h, n, es, ss, rfl, hm, h3, hl, pm, pw, q⟩
  have em : eqD (.int h) (.int h) = some (.bl true) := by show some (D.bl (decide (h = h))) = _; rw [decide_eq_true rfl]
  have en : eqD (.int n) (.int n) = some (.bl true) := by show some (D.bl (decide (n = n))) = _; rw [decide_eq_true rfl]
  have nem : neD (.int h) (.int h) = some (.bl false) := by show notO (eqD _ _) = _; rw [em]; rfl
  have nen : neD (.int n) (.int n) = some (.bl false) := by show notO (eqD _ _) = _; rw [en]; rfl
  rcases hm with rfl | ⟨os, on, rfl⟩
  · refine ⟨false, p1_of (p1_of (pN2 rfl rfl (show _ = some (D.bl true) from ?_)) rfl) rfl, (fun z => by cases z), fun _ => ?_⟩
    · show (match isiOD2 ζ.Web ζ.Web true [webD ζ.Web h n ss, .cls ζ.Web] with
        | some z => some z
        | none => _) = _
      rw [show isiOD2 ζ.Web ζ.Web true [webD ζ.Web h n ss, .cls ζ.Web] = some (.bl true) from if_pos ⟨rfl, rfl⟩]
    refine ⟨_, p1_of rfl rfl, h, rfl, true, rfl, (fun z => by cases z), fun _ => ⟨_, p1_of rfl rfl, n, rfl, true, rfl, (fun z => by cases z), fun _ => ?_⟩⟩
    refine ⟨false, por_of (a := false) (p2_of (p1_of rfl rfl) rfl nem) (fun _ => p2_of (p1_of rfl rfl) rfl nen) (fun z => by cases z), (fun z => by cases z), fun _ => ?_⟩
    refine ⟨_, p1_of rfl rfl, false, es, ss, rfl, h3, hl, pm, pw, true, rfl, fun _ => ?_, fun z => by cases z⟩
    refine ⟨edT ss, pN1 (pN1 rfl (show _ = some (edL ss) from ?_)) rfl, false, es, ss, rfl, h3, hl, pm, pw, q⟩
    show (match listID ζ.Web "edges" [webD ζ.Web h n ss] with
      | some z => some z
      | none => _) = _
    rw [show listID ζ.Web "edges" [webD ζ.Web h n ss] = some (edL ss) from if_pos rfl]
  · refine ⟨false, p1_of (p1_of (pN2 rfl rfl isi_or) rfl) rfl, (fun z => by cases z), fun _ => ?_⟩
    refine ⟨_, p1_of rfl rfl, h, rfl, true, rfl, (fun z => by cases z), fun _ => ⟨_, p1_of rfl rfl, (os.length : Int), rfl, true, rfl, (fun z => by cases z), fun _ => ?_⟩⟩
    subst on
    refine ⟨false, por_of (a := false) (p2_of (p1_of rfl rfl) rfl nem) (fun _ => p2_of (p1_of rfl rfl) rfl nen) (fun z => by cases z), (fun z => by cases z), fun _ => ?_⟩
    refine ⟨_, p1_of rfl rfl, false, es, ss, rfl, h3, hl, pm, pw, true, rfl, fun _ => ?_, fun z => by cases z⟩
    exact ⟨edT ss, pN1 (pN1 rfl list_or) rfl, false, es, ss, rfl, h3, hl, pm, pw, q⟩
end
end LR
set_option Elab.async false
set_option maxRecDepth 100000
set_option linter.all false
set_option maxHeartbeats 4000000
namespace LR
open PySem PySem.Spec PyProof.Rows L2
section
variable {P : Program} {w : World} {K : PySem.W.Frag} {mg : Str → Option Value} {base : Heap} {ζ : Cs}
theorem u_imdsI (ls : List Int) : imds (ls.map D.int) = true := by
  induction ls with
  | nil => rfl
  | cons x r ih => exact ih
theorem u_isiG {C : Addr} {h os ss} {p q : PF} {env : List Ev} (e1 : p env = some (gameD C h os ss)) (e2 : q env = some (.cls C)) : pN (isiOD C) [p, q] env = some (.bl true) :=
  pN2 e1 e2 (by show (if C = C ∧ C = C then some (D.bl true) else none) = _; rw [if_pos ⟨rfl, rfl⟩])
theorem neS {a b : Str} {c : Bool} (ha : PyData.strOk a = true) (hb : PyData.strOk b = true) (e : decide (a ≠ b) = c) : neD (.str a) (.str b) = some (.bl c) := by
  show notO (eqD (.str a) (.str b)) = _
  rw [eqS (c := decide (a = b)) ha hb rfl]
  subst e
  show some (D.bl (!decide (a = b))) = _
  by_cases z : a = b
  · rw [decide_eq_true z, decide_eq_false (fun y => y z)]; rfl
  · rw [decide_eq_false z, decide_eq_true z]; rfl
theorem u_imdsE (es : List (List Int)) : imds (es.map intT) = true := by
  induction es with
  | nil => rfl
  | cons x r ih =>
    show (imds (x.map D.int) && imds (r.map intT)) = true
    rw [u_imdsI, ih]; rfl
theorem u_imdW (C : Addr) (h n : Int) (ss : List (List Int)) : imd (webD C h n ss) = true := by
  show (true && (true && (imds (ss.map intT) && true))) = true
  rw [u_imdsE]; rfl
theorem u_imdG (C : Addr) (h : Int) (os : List Bool) (ss : List (List Int)) : imd (gameD C h os ss) = true := by
  show (true && (true && (imds (ss.map intT) && (true && true)))) = true
  rw [u_imdsE]; rfl
theorem ed_self (es : List (List Int)) : neD (edL es) (edL es) = some (.bl false) := by
  have ok : okn 30 (edL es) = true := by
    show (es.map intT).all (okn 29) = true
    rw [List.all_map, List.all_eq_true]; intro e _
    show (e.map D.int).all (okn 28) = true
    rw [List.all_map, List.all_eq_true]; intro x _; rfl
  have nb : nbn 3 (edL es) = true := by
    show (es.map intT).all (nbn 2) = true
    rw [List.all_map, List.all_eq_true]; intro e _
    show (e.map D.int).all (nbn 1) = true
    rw [List.all_map, List.all_eq_true]; intro x _; rfl
  have e : eqD (edL es) (edL es) = some (.bl true) := by
    show (if okn 30 (edL es) = true ∧ okn 30 (edL es) = true then some (D.bl (deq (edL es) (edL es))) else none) = _
    rw [if_pos ⟨ok, ok⟩, (deq_iff 3 _ _ nb nb).mpr rfl]
  show notO (eqD (edL es) (edL es)) = _
  rw [e]; rfl
theorem imds_bls (k : List Bool) : imds (k.map D.bl) = true := by
  induction k with
  | nil => rfl
  | cons b r ih => exact ih
theorem imo_an {m p : D} {k : List Bool} (hm : imd m = true) (hp : imd p = true) : imo (anO m k p) = true := by
  unfold anO
  rw [imo, imos, imos, imos, imos, imo, imo, imo, hm, hp, imds_bls]; rfl
theorem imd_gPl (g : GDue) : imd (gPl g) = true := by
  rcases gPl_cases g with e | ⟨i, e⟩ <;> (rw [e]; rfl)
theorem gDue_noWeb {h : Int} {z : Str} {es : List (List Int)} : gameDue h z es ≠ .web .fine := by
  unfold gameDue
  by_cases c : 1 ≤ z.length ∧ z.length ≤ 9
  · rw [if_neg (fun y => y c)]
    cases ownsOf z with
    | none => intro y; cases y
    | some os =>
      cases e : webDue h os.length es with
      | fine =>
        cases e2 : deadIn os.length es with
        | none => intro y; simp [e, e2] at y
        | some v => intro y; simp [e, e2] at y
      | _ => intro y; simp [e] at y
  · rw [if_pos c]; intro y; cases y
theorem nmG_ne {g : GDue} (a : g ≠ .web .fine) (b : ∀ os, g ≠ .fine os) : nmG g ≠ "" ∧ gKin g ≠ [] := by
  rcases g with _ | d | _ | os
  · exact ⟨by show ("BadOwners" : Str) ≠ ""; decide +kernel, fun z => by cases z⟩
  · cases d
    · exact ⟨by show ("BadHeight" : Str) ≠ ""; decide +kernel, fun z => by cases z⟩
    · exact ⟨by show ("BadSize" : Str) ≠ ""; decide +kernel, fun z => by cases z⟩
    · exact ⟨by show ("TooLarge" : Str) ≠ ""; decide +kernel, fun z => by cases z⟩
    · exact ⟨by show ("BadEdge" : Str) ≠ ""; decide +kernel, fun z => by cases z⟩
    · exact ⟨by show ("DuplicateEdge" : Str) ≠ ""; decide +kernel, fun z => by cases z⟩
    · exact absurd rfl a
  · exact ⟨by show ("DeadEnd" : Str) ≠ ""; decide +kernel, fun z => by cases z⟩
  · exact absurd rfl (b os)
abbrev lawLevel : Nat := 12
theorem ok_law (T : Txt P K mg ζ) {f : Addr} {fd : FuncData} (F : Fun K "law" "law" s_law f fd) : FnOk P w K mg base CX0 12 f fd ["script"] (spLaw K) := by
  have cx_pool : CalX P w K mg base 1 "_law_pool" (spF K fPool) := q_pool T
  have cx_draw : CalX P w K mg base 1 "_law_draw" (spF K fDraw) := q_draw T
  have cx_owners : CalX P w K mg base 2 "_law_owners" (spF K fOwners) := q_owners T
  have cx_any_count : CalX P w K mg base 2 "_law_any_count" (spF K fAnyC) := q_anyC T
  have cx_spoilt_letters : CalX P w K mg base 2 "_law_spoilt_letters" (spF K fSpoil) := q_spoil T
  have cx_all_edges : CalX P w K mg base 4 "_law_all_edges" (spF K fAllE) := q_allE T
  have cx_game : CalX P w K mg base 7 "_law_game" (spF K (fGm ζ.Game)) := q_gm T
  have cx_web : CalX P w K mg base 6 "_law_web" (spF K (fWm ζ.Web)) := q_wm T
  have cx_due_for_game : CalX P w K mg base 3 "_law_due_for_game" (spF K fDueG) := q_dueG T
  have cx_due_for_web : CalX P w K mg base 2 "_law_due_for_web" (spF K fDueW) := q_dueW T
  have cx_refused_as : CalX P w K mg base 2 "_law_refused_as" (spF K fRefd) := q_refd T
  have cx_keeps : CalX P w K mg base 4 "_law_keeps" (spF K (fKeep ζ.Web ζ.Game)) := q_keep T
  refine law_dl F sc_law (by decide) fun cdv A outer s H E hr => ⟨_, qss_cons (qs_setN (i := 1) false sc_law.nd rfl (Or.inl rfl) (qe_cT cx_pool hr (by first | decide | omega) takes0 (by rfl) (qa_cons (qe_var (pv 0)) (qa_cons (qe_p (qp_int)) (qa_nil)))))
 (qss_cons (qs_setN (i := 2) false sc_law.nd rfl (Or.inl rfl) (qe_op op_addA o_add (qe_p (qp_int)) (qe_cT cx_draw hr (by first | decide | omega) takes0 (by rfl) (qa_cons (qe_var (pv 1)) (qa_cons (qe_p (qp_int)) (qa_nil))))))
 (qss_cut (qs_if (qt_cmp (op_eqD hr.units) o_eq (qe_cT cx_draw hr (by first | decide | omega) takes0 (by rfl) (qa_cons (qe_var (pv 1)) (qa_cons (qe_p (qp_int)) (qa_nil)))) (qe_p (qp_int)) (nomark _))
 (qss_one (qs_setN (i := 2) false sc_law.nd rfl (Or.inl rfl) (qe_cT cx_any_count hr (by first | decide | omega) takes0 (by rfl) (qa_cons (qe_var (pv 1)) (qa_cons (qe_p (qp_int)) (qa_cons (qe_p (qp_int)) (qa_nil)))))))
 (qss_nil))
 (qss_cons (qs_setN (i := 3) false sc_law.nd rfl (Or.inl rfl) (qe_op op_addA o_add (qe_p (qp_int)) (qe_cT cx_draw hr (by first | decide | omega) takes0 (by rfl) (qa_cons (qe_var (pv 1)) (qa_cons (qe_p (qp_int)) (qa_nil))))))
 (qss_cut (qs_if (qt_cmp (op_eqD hr.units) o_eq (qe_cT cx_draw hr (by first | decide | omega) takes0 (by rfl) (qa_cons (qe_var (pv 1)) (qa_cons (qe_p (qp_int)) (qa_nil)))) (qe_p (qp_int)) (nomark _))
 (qss_one (qs_setN (i := 3) false sc_law.nd rfl (Or.inl rfl) (qe_callB o_max2 (call_max2 rfl) (by rfl) T.n_max b_max (qa_cons (qe_p (qp_int)) (qa_cons (qe_cT cx_any_count hr (by first | decide | omega) takes0 (by rfl) (qa_cons (qe_var (pv 1)) (qa_cons (qe_p (qp_int)) (qa_cons (qe_p (qp_int)) (qa_nil))))) (qa_nil))))))
 (qss_nil))
 (qss_cons (qs_setN (i := 4) false sc_law.nd rfl (Or.inl rfl) (qe_cT cx_owners hr (by first | decide | omega) takes0 (by rfl) (qa_cons (qe_var (pv 1)) (qa_cons (qe_var (pv 3)) (qa_nil)))))
 (qss_cut (qs_if (qt_cmp (op_eqD hr.units) o_eq (qe_cT cx_draw hr (by first | decide | omega) takes0 (by rfl) (qa_cons (qe_var (pv 1)) (qa_cons (qe_p (qp_int)) (qa_nil)))) (qe_p (qp_int)) (nomark _))
 (qss_one (qs_setN (i := 4) false sc_law.nd rfl (Or.inl rfl) (qe_cT cx_spoilt_letters hr (by first | decide | omega) takes0 (by rfl) (qa_cons (qe_var (pv 1)) (qa_cons (qe_var (pv 4)) (qa_nil))))))
 (qss_nil))
 (qss_cons (qs_setN (i := 5) false sc_law.nd rfl (Or.inl rfl) (qe_var (pv 3)))
 (qss_cut (qs_if (qt_cmp (op_eqD hr.units) o_eq (qe_cT cx_draw hr (by first | decide | omega) takes0 (by rfl) (qa_cons (qe_var (pv 1)) (qa_cons (qe_p (qp_int)) (qa_nil)))) (qe_p (qp_int)) (nomark _))
 (qss_one (qs_setN (i := 5) false sc_law.nd rfl (Or.inl rfl) (qe_cT cx_any_count hr (by first | decide | omega) takes0 (by rfl) (qa_cons (qe_var (pv 1)) (qa_cons (qe_p (qp_int)) (qa_cons (qe_p (qp_int)) (qa_nil)))))))
 (qss_nil))
 (qss_cons (qs_setN (i := 6) false sc_law.nd rfl (Or.inl rfl) (qe_cT cx_draw hr (by first | decide | omega) takes0 (by rfl) (qa_cons (qe_var (pv 1)) (qa_cons (qe_p (qp_int)) (qa_nil)))))
 (qss_cons (qs_setN (i := 7) false sc_law.nd rfl (Or.inl rfl) (qe_cT cx_all_edges hr (by first | decide | omega) takes0 (by rfl) (qa_cons (qe_cT cx_pool hr (by first | decide | omega) takes0 (by rfl) (qa_cons (qe_var (pv 0)) (qa_cons (qe_p (qp_int)) (qa_nil)))) (qa_cons (qe_p (qp_op op_mulA o_mul (qp_int) (qp_callB o_max2 (call_max2 rfl) (by rfl) T.n_max b_max (qps_cons (qp_int) (qps_cons (qp_callB o_min2 (call_min2 rfl) (by rfl) T.n_min b_min (qps_cons (qp_int) (qps_cons (qp_var (pv 2)) (qps_nil)))) (qps_nil)))))) (qa_cons (qe_p (qp_callB o_max2 (call_max2 rfl) (by rfl) T.n_max b_max (qps_cons (qp_int) (qps_cons (qp_var (pv 3)) (qps_nil))))) (qa_nil))))))
 (qss_cons (qs_setN (i := 8) true sc_law.nd rfl (Or.inl rfl) (qe_listF (by rfl) T.n_list b_list (qe_var (pv 7))))
 (qss_cut (qs_if (qt_p (qpt_cmp (op_eqD hr.units) o_eq (qp_var (pv 6)) (qp_int) (nomark _)))
 (qss_one (qs_setN (i := 8) true sc_law.nd rfl (Or.inl rfl) (qe_p (qp_callTy o_tuple call_tuple_of (by rfl) T.n_tuple b_tuple (qps_cons (qp_var (pv 7)) (qps_nil))))))
 (qss_nil))
 (qss_cut (qs_setN (i := 9) false sc_law.nd rfl (Or.inl rfl) (qe_loanFT (qe_cT cx_game hr (by first | decide | omega) takes0 (by rfl) (qa_cons (qe_var (pv 2)) (qa_cons (qe_var (pv 4)) (qa_cons (qe_var (pv 8)) (qa_nil)))))))
 (qss_cut (qs_setN (i := 10) false sc_law.nd rfl (Or.inl rfl) (qe_loanFT (qe_cT cx_web hr (by first | decide | omega) takes0 (by rfl) (qa_cons (qe_var (pv 2)) (qa_cons (qe_var (pv 5)) (qa_cons (qe_var (pv 8)) (qa_nil)))))))
 (qss_cut (qs_if (qt_loan (qpt_cmp (op_neD hr.units) o_ne (qp_callTy o_list call_list_of (by rfl) T.n_list b_list (qps_cons (qp_var (pv 8)) (qps_nil))) (qp_var (pv 7)) (nomark _)))
 (qss_one (qs_ret (qe_p (qp_bl))))
 (qss_nil))
 (qss_cut (qs_if (qt_p (qpt_cmp (op_eqD hr.units) o_eq (qp_var (pv 6)) (qp_int) (nomark _)))
 (qss_cons (qs_own0 m_clear (ps_expr (pe_bm0 PySem.F.plainAttrs_list PySem.F.slot_list_clear PySem.F.type_list_clear mt_clear (pv 8))))
 (qss_one (qs_own m_append (ps_expr (pe_bm PySem.F.plainAttrs_list PySem.F.slot_list_append PySem.F.type_list_append mt_append (pv 8) (qa_cons (qe_p (qp_tup (qps_cons (qp_int) (qps_cons (qp_int) (qps_cons (qp_int) (qps_nil)))))) (qa_nil)))))))
 (qss_nil))
 (qss_fz [8] (qss_cons (qs_setN (i := 11) false sc_law.nd rfl (Or.inl rfl) (qe_cT cx_due_for_game hr (by first | decide | omega) takes0 (by rfl) (qa_cons (qe_var (pv 2)) (qa_cons (qe_var (pv 4)) (qa_cons (qe_var (pv 7)) (qa_nil))))))
 (qss_cut (qs_if (qt_p (qpt_cmp (op_neD hr.units) o_ne (qp_ix ix_A o_ix (qp_var (pv 11)) (qp_int) (fun _ _ => rfl)) (qp_str) (nomark _)))
 (qss_one (qs_if (qt_not (qt_truth (qe_cT cx_refused_as hr (by first | decide | omega) takes0 (by rfl) (qa_cons (qe_var (pv 9)) (qa_cons (qe_var (pv 11)) (qa_nil))))))
 (qss_one (qs_ret (qe_p (qp_bl))))
 (qss_nil)))
 (qss_cons (qs_if (QW.qt (qw_or (qt_p (qpt_not (qpt_truth (qp_callB (o_isiO (C := ζ.Game) T.cl_Game T.ai_Game T.objc T.mo_Game T.kit_Game_Game) call_isi (by rfl) T.n_isinstance b_isinstance (qps_cons (qp_ix ix_A o_ix (qp_var (pv 9)) (qp_int) (fun _ _ => rfl)) (qps_cons (qp_cls (pe_glob (v := .ref ζ.Game) (by rfl) T.mg_Game rfl)) (qps_nil))))))) (qw_or1 (qt_not (qt_truth (qe_cT cx_keeps hr (by first | decide | omega) takes0 (by rfl) (qa_cons (qe_p (qp_ix ix_A o_ix (qp_var (pv 9)) (qp_int) (fun _ _ => rfl))) (qa_cons (qe_var (pv 2)) (qa_cons (qe_var (pv 3)) (qa_cons (qe_var (pv 7)) (qa_nil)))))))))))
 (qss_one (qs_ret (qe_p (qp_bl))))
 (qss_nil))
 (qss_one (qs_if (qt_p (QPW.qpt (qpw_or (qpt_not (qpt_truth (qp_callB (o_isi (T := "str") kitS) call_isi (by rfl) T.n_isinstance b_isinstance (qps_cons (qp_fld (qp_ix ix_A o_ix (qp_var (pv 9)) (qp_int) (fun _ _ => rfl)) rfl) (qps_cons (qp_ty (pe_bltn (v := .ty "str") (by rfl) T.n_str b_str rfl)) (qps_nil)))))) (qpw_or1 (qpt_cmp (op_neD hr.units) o_ne (qp_fld (qp_ix ix_A o_ix (qp_var (pv 9)) (qp_int) (fun _ _ => rfl)) rfl) (qp_var (pv 4)) (nomark _))))))
 (qss_one (qs_ret (qe_p (qp_bl))))
 (qss_nil)))))
 (qss_cons (qs_setN (i := 11) false sc_law.nd rfl (Or.inl rfl) (qe_cT cx_due_for_web hr (by first | decide | omega) takes0 (by rfl) (qa_cons (qe_var (pv 2)) (qa_cons (qe_var (pv 5)) (qa_cons (qe_var (pv 7)) (qa_nil))))))
 (qss_cut (qs_if (qt_p (qpt_cmp (op_neD hr.units) o_ne (qp_ix ix_A o_ix (qp_var (pv 11)) (qp_int) (fun _ _ => rfl)) (qp_str) (nomark _)))
 (qss_one (qs_ret (qe_cT cx_refused_as hr (by first | decide | omega) takes0 (by rfl) (qa_cons (qe_var (pv 10)) (qa_cons (qe_var (pv 11)) (qa_nil))))))
 (qss_nil))
 (qss_one (qs_ret (qe_cT cx_keeps hr (by first | decide | omega) takes0 (by rfl) (qa_cons (qe_p (qp_ix ix_A o_ix (qp_var (pv 10)) (qp_int) (fun _ _ => rfl))) (qa_cons (qe_var (pv 2)) (qa_cons (qe_var (pv 5)) (qa_cons (qe_var (pv 7)) (qa_nil))))))))))))))))))))))))))))), ?_⟩
  intro ns
  refine ⟨_, rfl, ns, 0, rfl, ?_⟩
  refine ⟨_, rfl, _, rfl, 3, rfl, by decide, by decide, fun h0 a0 a1 => ⟨_, rfl, ?_⟩⟩
  refine ⟨fun e => ∃ h : Int, (-100 ≤ h ∧ h ≤ 200) ∧ e = [.scr ns, .pool, .d (.int h), .any, .any, .any, .any, .any, .any, .any, .any, .any], ?_, ?_⟩
  · refine ⟨_, rfl, 8, rfl, by decide, by decide, fun v v0 v1 => ⟨_, rfl, _, rfl, _, rfl, fun z => ?_, fun z => ⟨1 + h0, by omega, rfl⟩⟩⟩
    exact ⟨_, rfl, _, rfl, 7, 140, rfl, ⟨by decide, by decide⟩, ⟨by decide, by decide⟩, fun v l u => ⟨v, by omega, rfl⟩⟩
  rintro e ⟨h, hh, rfl⟩
  refine ⟨_, rfl, _, rfl, 4, rfl, by decide, by decide, fun c0 a0 a1 => ⟨_, rfl, ?_⟩⟩
  refine ⟨fun e => ∃ c : Nat, c ≤ 30 ∧ e = [.scr ns, .pool, .d (.int h), .d (nat c), .any, .any, .any, .any, .any, .any, .any, .any], ?_, ?_⟩
  · refine ⟨_, rfl, 8, rfl, by decide, by decide, fun v v0 v1 => ⟨_, rfl, _, rfl, _, rfl, fun z => ?_, fun z => ⟨(1 + c0).toNat, by omega, ?_⟩⟩⟩
    · refine ⟨_, rfl, _, rfl, _, rfl, 12, 100, rfl, ⟨by decide, by decide⟩, ⟨by decide, by decide⟩, fun v l u => ⟨_, nat v.toNat, rfl, ?_, v.toNat, by omega, rfl⟩⟩
      show some (D.int _) = some (D.int _)
      congr 2
      split <;> omega
    · rw [show 1 + c0 = (((1 + c0).toNat : Nat) : Int) by omega]; rfl
  rintro e ⟨c, hc, rfl⟩
  refine ⟨c, rfl, by omega, fun os ho => ?_⟩
  refine ⟨fun e => ∃ cs : List Nat, cs.length = c ∧ (∀ x ∈ cs, x < 128) ∧ e = [.scr ns, .pool, .d (.int h), .d (nat c), .d (.str (txS cs)), .any, .any, .any, .any, .any, .any, .any], ?_, ?_⟩
  · have l1 : (os.map ltr).length = c := by rw [List.length_map, ho]
    have l2 : ∀ x ∈ os.map ltr, x < 128 := fun x hx => by
      obtain ⟨b, _, rfl⟩ := List.mem_map.mp hx
      cases b <;> (unfold ltr; decide)
    refine ⟨_, rfl, 4, rfl, by decide, by decide, fun v v0 v1 => ⟨_, rfl, _, rfl, _, rfl, fun z => ?_, fun z => ⟨os.map ltr, l1, l2, rfl⟩⟩⟩
    exact ⟨os.map ltr, rfl, by omega, l2, fun ds dl dc => ⟨ds, by omega, dc, rfl⟩⟩
  rintro e ⟨cs, cl, cc, rfl⟩
  refine ⟨fun e => ∃ z : Int, (-100 ≤ z ∧ z ≤ 200) ∧ e = [.scr ns, .pool, .d (.int h), .d (nat c), .d (.str (txS cs)), .d (.int z), .any, .any, .any, .any, .any, .any], ?_, ?_⟩
  · refine ⟨_, rfl, 4, rfl, by decide, by decide, fun v v0 v1 => ⟨_, rfl, _, rfl, _, rfl, fun z => ?_, fun z => ⟨(c : Int), by omega, rfl⟩⟩⟩
    exact ⟨_, rfl, _, rfl, 13, 140, rfl, ⟨by decide, by decide⟩, ⟨by decide, by decide⟩, fun v l u => ⟨v, by omega, rfl⟩⟩
  rintro e ⟨z, hz, rfl⟩
  refine ⟨_, rfl, 2, rfl, by decide, by decide, fun wy w0 w1 => ?_⟩
  obtain ⟨t, et, ht⟩ : ∃ t : Nat, max2D [.int 1, .int (if h < 3 then h else 3)] = some (nat t) ∧ 1 ≤ t ∧ t ≤ 3 := by
    refine ⟨(max 1 (min 3 h)).toNat, ?_, by omega, by omega⟩
    show some (D.int _) = some (D.int _)
    congr 2
    split <;> split <;> omega
  obtain ⟨n, en, hn⟩ : ∃ n : Nat, max2D [.int 1, nat c] = some (nat n) ∧ 1 ≤ n ∧ n ≤ 100 := by
    refine ⟨max 1 c, ?_, by omega, by omega⟩
    show some (D.int _) = some (D.int _)
    congr 2
    split <;> omega
  refine ⟨_, rfl, ns, 1, rfl, _, p2_of rfl (pN2 rfl (pN2 rfl rfl rfl) et) (show mulD (.int 2) (nat t) = some (nat (2 * t)) from ?_), _, pN2 rfl rfl en, 2 * t, n, rfl, by omega, hn, fun es el e3 => ?_⟩
  · show (if (smI 2 || smI (t : Int)) = true then some (D.int (2 * (t : Int))) else none) = _
    rw [if_pos (show (smI 2 || smI (t : Int)) = true from rfl)]
    rfl
  refine ⟨_, rfl, ?_⟩
  refine ⟨fun e => ∃ gv : Ev, ((wy = 0 ∧ gv = .own (.ls (es.map intT)) none) ∨ (wy = 1 ∧ gv = .d (edT es))) ∧ e = [.scr ns, .pool, .d (.int h), .d (nat c), .d (.str (txS cs)), .d (.int z), .d (.int wy), .d (edL es), gv, .any, .any, .any], ?_, ?_⟩
  · refine ⟨decide (wy = 1), p2_of rfl rfl rfl, fun y => ?_, fun y => ?_⟩
    · have y := of_decide_eq_true y
      exact ⟨_, pN1 rfl rfl, _, .inr ⟨y, rfl⟩, rfl⟩
    · have y := of_decide_eq_false y
      exact ⟨_, .inl ⟨by omega, rfl⟩, rfl⟩
  rintro e ⟨gv, hg, rfl⟩
  have tl : (txS cs).length ≤ 1000 := by show cs.toArray.size ≤ 1000; rw [List.size_toArray]; omega
  refine ⟨fun e => ∃ gm : D, ((∃ os ss, gameDue h (txS cs) es = .fine os ∧ ss.Perm es ∧ ss.Pairwise elt ∧ gm = .lst [gameD ζ.Game h os ss, knD [], .non]) ∨ ((∀ os, gameDue h (txS cs) es ≠ .fine os) ∧ gm = .lst [.non, knD (gKin (gameDue h (txS cs) es)), gPl (gameDue h (txS cs) es)])) ∧ e = [.scr ns, .pool, .d (.int h), .d (nat c), .d (.str (txS cs)), .d (.int z), .d (.int wy), .d (edL es), gv, .d gm, .any, .any], ?_, ?_⟩
  · have f1 : ∀ tp : Bool, ∀ os, gameDue h (txS cs) es = .fine os → ∀ ss, ss.Perm es → ss.Pairwise elt → imo (anO (gameD ζ.Game h os ss) [] .non) = true := fun tp os e ss sp pw => imo_an (u_imdG _ _ _ _) rfl
    have f2 := imo_an (m := .non) (k := gKin (gameDue h (txS cs) es)) rfl (imd_gPl (gameDue h (txS cs) es))
    rcases hg with ⟨y, rfl⟩ | ⟨y, rfl⟩
    · exact ⟨h, txS cs, false, es, rfl, by omega, tl, el, e3, fun os e ss sp pw => ⟨_, rfl, f1 true os e ss sp pw, _, .inl ⟨os, ss, e, sp, pw, rfl⟩, rfl⟩, fun e => ⟨_, rfl, f2, _, .inr ⟨e, rfl⟩, rfl⟩⟩
    · exact ⟨h, txS cs, true, es, rfl, by omega, tl, el, e3, fun os e ss sp pw => ⟨_, rfl, f1 true os e ss sp pw, _, .inl ⟨os, ss, e, sp, pw, rfl⟩, rfl⟩, fun e => ⟨_, rfl, f2, _, .inr ⟨e, rfl⟩, rfl⟩⟩
  rintro e ⟨gm, hgm, rfl⟩
  refine ⟨fun e => ∃ wm : D, ((∃ ss, webDue h z es = .fine ∧ ss.Perm es ∧ ss.Pairwise elt ∧ wm = .lst [webD ζ.Web h z ss, knD [], .non]) ∨ (webDue h z es ≠ .fine ∧ wm = .lst [.non, knD (wKin (webDue h z es)), wPl (webDue h z es)])) ∧ e = [.scr ns, .pool, .d (.int h), .d (nat c), .d (.str (txS cs)), .d (.int z), .d (.int wy), .d (edL es), gv, .d gm, .d wm, .any], ?_, ?_⟩
  · have f1 : ∀ ss : List (List Int), imo (anO (webD ζ.Web h z ss) [] .non) = true := fun ss => imo_an (u_imdW _ _ _ _) rfl
    have f2 := imo_an (m := .non) (k := wKin (webDue h z es)) rfl (imd_gPl (.web (webDue h z es)))
    rcases hg with ⟨y, rfl⟩ | ⟨y, rfl⟩
    · exact ⟨h, z, false, es, rfl, by omega, by omega, el, e3, fun e ss sp pw => ⟨_, rfl, f1 ss, _, .inl ⟨ss, e, sp, pw, rfl⟩, rfl⟩, fun e => ⟨_, rfl, f2, _, .inr ⟨e, rfl⟩, rfl⟩⟩
    · exact ⟨h, z, true, es, rfl, by omega, by omega, el, e3, fun e ss sp pw => ⟨_, rfl, f1 ss, _, .inl ⟨ss, e, sp, pw, rfl⟩, rfl⟩, fun e => ⟨_, rfl, f2, _, .inr ⟨e, rfl⟩, rfl⟩⟩
  rintro e ⟨wm, hwm, rfl⟩
  refine ⟨fun e => e = [.scr ns, .pool, .d (.int h), .d (nat c), .d (.str (txS cs)), .d (.int z), .d (.int wy), .d (edL es), gv, .d gm, .d wm, .any], ?_, ?_⟩
  · rcases hg with ⟨y, rfl⟩ | ⟨y, rfl⟩
    · exact ⟨false, p2_of (pN1 rfl rfl) rfl (ed_self es), (fun y => by cases y), fun _ => rfl⟩
    · exact ⟨false, p2_of (pN1 rfl rfl) rfl (ed_self es), (fun y => by cases y), fun _ => rfl⟩
  rintro e rfl
  refine ⟨fun e => ∃ gv : Ev, ((∃ l, gv = .own (.ls l) none) ∨ ∃ x, gv = .d x) ∧ e = [.scr ns, .pool, .d (.int h), .d (nat c), .d (.str (txS cs)), .d (.int z), .d (.int wy), .d (edL es), gv, .d gm, .d wm, .any], ?_, ?_⟩
  · rcases hg with ⟨y, rfl⟩ | ⟨y, rfl⟩
    · refine ⟨true, p2_of rfl rfl (show some (D.bl (decide (wy = 0))) = _ from by rw [decide_eq_true y]), (fun _ => ?_), fun y => by cases y⟩
      refine ⟨_, rfl, [], [], rfl, rfl, (by show 0 ≤ 100000; decide), ?_⟩
      exact ⟨_, rfl, .tup [.int 0, .int 0, .int 0], rfl, _, _, rfl, rfl, (by show 1 ≤ 100000; decide), _, .inl ⟨_, rfl⟩, rfl⟩
    · exact ⟨false, p2_of rfl rfl (show some (D.bl (decide (wy = 0))) = _ from by rw [decide_eq_false (by omega)]), (fun y => by cases y), fun _ => ⟨_, .inr ⟨_, rfl⟩, rfl⟩⟩
  rintro e ⟨gv2, hg2, rfl⟩
  rcases hg2 with ⟨l2, rfl⟩ | ⟨x2, rfl⟩
  all_goals
    refine ⟨h, cs, es, rfl, by omega, cc, el, e3, ?_⟩
    rw [gdD_eq]
    refine ⟨fun e => ∃ gv : D, e = [.scr ns, .pool, .d (.int h), .d (nat c), .d (.str (txS cs)), .d (.int z), .d (.int wy), .d (edL es), .d gv, .d gm, .d wm, .d (.lst [.str (nmG (gameDue h (txS cs) es)), gPl (gameDue h (txS cs) es)])], ?_, ?_⟩
    · rcases hgm with ⟨os, ss, ef, sp, pw, rfl⟩ | ⟨nf, rfl⟩
      · have F := gameDue_fine ef
        have on : (os.length : Int) = (c : Int) := by
          have : (txS cs).length = os.length := by rw [F.1]; exact strO_len os
          have e2 : (txS cs).length = cs.length := by show cs.toArray.size = _; rw [List.size_toArray]
          omega
        rw [ef]
        refine ⟨false, p2_of (p2_of rfl rfl (atI_of (k := 0) rfl)) rfl (neS oks_none oks_none (show decide (("" : Str) ≠ "") = false by decide)), (fun y => by cases y), fun _ => ?_⟩
        refine ⟨false, p1_of (p1_of (u_isiG (p2_of rfl rfl (atI_of (k := 0) rfl)) rfl) rfl) rfl, (fun y => by cases y), fun _ => ?_⟩
        refine ⟨_, p2_of rfl rfl (atI_of (k := 0) rfl), gameD ζ.Game h os ss, h, (c : Int), es, ss, rfl, .inr ⟨os, on, rfl⟩, e3, F.2.2.2.1, sp, pw, true, rfl, (fun y => by cases y), fun _ => ?_⟩
        refine ⟨false, por_of (a := false) (p1_of (p1_of (pN2 (p1_of (p2_of rfl rfl (atI_of (k := 0) rfl)) rfl) rfl rfl) rfl) rfl) (fun _ => p2_of (p1_of (p2_of rfl rfl (atI_of (k := 0) rfl)) rfl) rfl (show neD (.str (strO os)) (.str (txS cs)) = some (.bl false) from ?_)) (fun y => by cases y), (fun y => by cases y), fun _ => ⟨_, rfl⟩⟩
        rw [F.1]
        exact neS (strOk_owners os) (strOk_owners os) (by simp)
      · have ne := nmG_ne gDue_noWeb nf
        refine ⟨true, p2_of (p2_of rfl rfl (atI_of (k := 0) rfl)) rfl (neS (oks_nmG _) oks_none (decide_eq_true ne.1)), (fun _ => ?_), fun y => by cases y⟩
        exact ⟨gameDue h (txS cs) es, by rw [gdD_eq], ne.2, true, rfl, (fun y => by cases y), fun _ => ⟨_, rfl⟩⟩
    rintro e ⟨gv3, rfl⟩
    refine ⟨h, z, es, rfl, el, e3, ?_⟩
    rw [show wdD (webDue h z es) = .lst [.str (nmG (.web (webDue h z es))), gPl (.web (webDue h z es))] from gdD_eq (.web (webDue h z es))]
    rcases hwm with ⟨ss, ew, sp, pw, rfl⟩ | ⟨nw, rfl⟩
    · have F := webDue_fine.mp ew
      rw [ew]
      refine ⟨fun e => ∃ gd : D, e = [.scr ns, .pool, .d (.int h), .d (nat c), .d (.str (txS cs)), .d (.int z), .d (.int wy), .d (edL es), .d gv3, .d gm, .d (.lst [webD ζ.Web h z ss, knD [], .non]), .d gd], ?_, ?_⟩
      · exact ⟨false, p2_of (p2_of rfl rfl (atI_of (k := 0) rfl)) rfl (neS oks_none oks_none (show decide (("" : Str) ≠ "") = false by decide)), (fun y => by cases y), fun _ => ⟨_, rfl⟩⟩
      rintro e ⟨gd, rfl⟩
      exact ⟨_, p2_of rfl rfl (atI_of (k := 0) rfl), webD ζ.Web h z ss, h, z, es, ss, rfl, .inl rfl, e3, F.2.2.1, sp, pw, rfl⟩
    · have ne := nmG_ne (g := .web (webDue h z es)) (fun y => nw (by injection y)) (fun os y => by cases y)
      refine ⟨fun e => False, ?_, fun e f => f.elim⟩
      refine ⟨true, p2_of (p2_of rfl rfl (atI_of (k := 0) rfl)) rfl (neS (oks_nmG _) oks_none (decide_eq_true ne.1)), (fun _ => ?_), fun y => by cases y⟩
      exact ⟨.web (webDue h z es), by rw [gdD_eq]; rfl, ne.2, rfl⟩
end
end LR
set_option Elab.async false
set_option maxRecDepth 100000
set_option linter.all false
set_option maxHeartbeats 4000000
namespace LR
open PySem PySem.Spec PyProof.Rows L2
theorem all_mk {P : Program} {K : PySem.W.Frag} {h : Heap} {mg : Str → Option Value} (X : K.In h) (G : h.Ns mainGlobals mg)
    {od_check_height an_check_height : Option Addr} {sl_check_height : Array (Option Value)} {oc_check_height kV_check_height dc_check_height pm_check_height ct_check_height : Value} {f_check_height : Addr} {cd_check_height : Value} {od_check_count an_check_count : Option Addr} {sl_check_count : Array (Option Value)} {oc_check_count kV_check_count dc_check_count pm_check_count ct_check_count : Value} {f_check_count : Addr} {cd_check_count : Value} {od__check_edges an__check_edges : Option Addr} {sl__check_edges : Array (Option Value)} {oc__check_edges kV__check_edges dc__check_edges pm__check_edges ct__check_edges : Value} {f__check_edges : Addr} {cd__check_edges : Value} {od__check_owners an__check_owners : Option Addr} {sl__check_owners : Array (Option Value)} {oc__check_owners kV__check_owners dc__check_owners pm__check_owners ct__check_owners : Value} {f__check_owners : Addr} {cd__check_owners : Value} {od__check_dead_ends an__check_dead_ends : Option Addr} {sl__check_dead_ends : Array (Option Value)} {oc__check_dead_ends kV__check_dead_ends dc__check_dead_ends pm__check_dead_ends ct__check_dead_ends : Value} {f__check_dead_ends : Addr} {cd__check_dead_ends : Value} {od_pool an_pool : Option Addr} {sl_pool : Array (Option Value)} {oc_pool kV_pool dc_pool pm_pool ct_pool : Value} {f_pool : Addr} {cd_pool : Value} {od_draw an_draw : Option Addr} {sl_draw : Array (Option Value)} {oc_draw kV_draw dc_draw pm_draw ct_draw : Value} {f_draw : Addr} {cd_draw : Value} {od_owners an_owners : Option Addr} {sl_owners : Array (Option Value)} {oc_owners kV_owners dc_owners pm_owners ct_owners : Value} {f_owners : Addr} {cd_owners : Value} {od_number an_number : Option Addr} {sl_number : Array (Option Value)} {oc_number kV_number dc_number pm_number ct_number : Value} {f_number : Addr} {cd_number : Value} {od_is_edge an_is_edge : Option Addr} {sl_is_edge : Array (Option Value)} {oc_is_edge kV_is_edge dc_is_edge pm_is_edge ct_is_edge : Value} {f_is_edge : Addr} {cd_is_edge : Value} {od_spoilt_letters an_spoilt_letters : Option Addr} {sl_spoilt_letters : Array (Option Value)} {oc_spoilt_letters kV_spoilt_letters dc_spoilt_letters pm_spoilt_letters ct_spoilt_letters : Value} {f_spoilt_letters : Addr} {cd_spoilt_letters : Value} {od_any_count an_any_count : Option Addr} {sl_any_count : Array (Option Value)} {oc_any_count kV_any_count dc_any_count pm_any_count ct_any_count : Value} {f_any_count : Addr} {cd_any_count : Value} {od_beyond an_beyond : Option Addr} {sl_beyond : Array (Option Value)} {oc_beyond kV_beyond dc_beyond pm_beyond ct_beyond : Value} {f_beyond : Addr} {cd_beyond : Value} {od_one_edge an_one_edge : Option Addr} {sl_one_edge : Array (Option Value)} {oc_one_edge kV_one_edge dc_one_edge pm_one_edge ct_one_edge : Value} {f_one_edge : Addr} {cd_one_edge : Value} {od_many_edges an_many_edges : Option Addr} {sl_many_edges : Array (Option Value)} {oc_many_edges kV_many_edges dc_many_edges pm_many_edges ct_many_edges : Value} {f_many_edges : Addr} {cd_many_edges : Value} {od_all_edges an_all_edges : Option Addr} {sl_all_edges : Array (Option Value)} {oc_all_edges kV_all_edges dc_all_edges pm_all_edges ct_all_edges : Value} {f_all_edges : Addr} {cd_all_edges : Value} {od_due_for_edges an_due_for_edges : Option Addr} {sl_due_for_edges : Array (Option Value)} {oc_due_for_edges kV_due_for_edges dc_due_for_edges pm_due_for_edges ct_due_for_edges : Value} {f_due_for_edges : Addr} {cd_due_for_edges : Value} {od_due_for_web an_due_for_web : Option Addr} {sl_due_for_web : Array (Option Value)} {oc_due_for_web kV_due_for_web dc_due_for_web pm_due_for_web ct_due_for_web : Value} {f_due_for_web : Addr} {cd_due_for_web : Value} {od_due_for_game an_due_for_game : Option Addr} {sl_due_for_game : Array (Option Value)} {oc_due_for_game kV_due_for_game dc_due_for_game pm_due_for_game ct_due_for_game : Value} {f_due_for_game : Addr} {cd_due_for_game : Value} {od_game an_game : Option Addr} {sl_game : Array (Option Value)} {oc_game kV_game dc_game pm_game ct_game : Value} {f_game : Addr} {cd_game : Value} {od_web an_web : Option Addr} {sl_web : Array (Option Value)} {oc_web kV_web dc_web pm_web ct_web : Value} {f_web : Addr} {cd_web : Value} {od_refused_as an_refused_as : Option Addr} {sl_refused_as : Array (Option Value)} {oc_refused_as kV_refused_as dc_refused_as pm_refused_as ct_refused_as : Value} {f_refused_as : Addr} {cd_refused_as : Value} {od_in_order an_in_order : Option Addr} {sl_in_order : Array (Option Value)} {oc_in_order kV_in_order dc_in_order pm_in_order ct_in_order : Value} {f_in_order : Addr} {cd_in_order : Value} {od_keeps an_keeps : Option Addr} {sl_keeps : Array (Option Value)} {oc_keeps kV_keeps dc_keeps pm_keeps ct_keeps : Value} {f_keeps : Addr} {cd_keeps : Value} {od_law an_law : Option Addr} {sl_law : Array (Option Value)} {oc_law kV_law dc_law pm_law ct_law : Value} {f_law : Addr} {cd_law : Value} {C_Web : Addr} {od_W_init an_W_init : Option Addr} {sl_W_init : Array (Option Value)} {oc_W_init kV_W_init dc_W_init pm_W_init ct_W_init : Value} {f_W_init : Addr} {cd_W_init : Value} {od_W_iter an_W_iter : Option Addr} {sl_W_iter : Array (Option Value)} {oc_W_iter kV_W_iter dc_W_iter pm_W_iter ct_W_iter : Value} {f_W_iter : Addr} {cd_W_iter : Value} {u_Web_MOST_NODES : Value} {u_Web_MOST_EDGES : Value} {C_Game : Addr} {od_G_init an_G_init : Option Addr} {sl_G_init : Array (Option Value)} {oc_G_init kV_G_init dc_G_init pm_G_init ct_G_init : Value} {f_G_init : Addr} {cda_G_init cc_G_init : Addr} {ccl_G_init : Value} {cdd_G_init : Option Addr} {cvs_G_init : Array Value} {ccs_G_init : Array (Option Value)} {cfi_G_init : Str} {ctf_G_init : Tok} {ecl_G_init : Value} {eld_G_init : Option Addr} {esl_G_init : Array (Option Value)} {od_G_iter an_G_iter : Option Addr} {sl_G_iter : Array (Option Value)} {oc_G_iter kV_G_iter dc_G_iter pm_G_iter ct_G_iter : Value} {f_G_iter : Addr} {cd_G_iter : Value} {C_BadEdge : Addr} {nm_BadEdge qn_BadEdge : Str} {ns_BadEdge : Addr} {bs_BadEdge bm_BadEdge sb_BadEdge : List Value} {sn_BadEdge : List Str} {ab_BadEdge : Bool} {co_BadEdge : Option Bool} {dd_BadEdge : Option Addr} {k0_BadEdge k1_BadEdge k2_BadEdge k3_BadEdge k5_BadEdge : Option Value} {od_BadEdge_init an_BadEdge_init : Option Addr} {sl_BadEdge_init : Array (Option Value)} {oc_BadEdge_init kV_BadEdge_init dc_BadEdge_init pm_BadEdge_init ct_BadEdge_init : Value} {f_BadEdge_init : Addr} {cda_BadEdge_init cc_BadEdge_init : Addr} {ccl_BadEdge_init : Value} {cdd_BadEdge_init : Option Addr} {cvs_BadEdge_init : Array Value} {ccs_BadEdge_init : Array (Option Value)} {cfi_BadEdge_init : Str} {ctf_BadEdge_init : Tok} {ecl_BadEdge_init : Value} {eld_BadEdge_init : Option Addr} {esl_BadEdge_init : Array (Option Value)} {C_DuplicateEdge : Addr} {nm_DuplicateEdge qn_DuplicateEdge : Str} {ns_DuplicateEdge : Addr} {bs_DuplicateEdge bm_DuplicateEdge sb_DuplicateEdge : List Value} {sn_DuplicateEdge : List Str} {ab_DuplicateEdge : Bool} {co_DuplicateEdge : Option Bool} {dd_DuplicateEdge : Option Addr} {k0_DuplicateEdge k1_DuplicateEdge k2_DuplicateEdge k3_DuplicateEdge k5_DuplicateEdge : Option Value} {od_DuplicateEdge_init an_DuplicateEdge_init : Option Addr} {sl_DuplicateEdge_init : Array (Option Value)} {oc_DuplicateEdge_init kV_DuplicateEdge_init dc_DuplicateEdge_init pm_DuplicateEdge_init ct_DuplicateEdge_init : Value} {f_DuplicateEdge_init : Addr} {cda_DuplicateEdge_init cc_DuplicateEdge_init : Addr} {ccl_DuplicateEdge_init : Value} {cdd_DuplicateEdge_init : Option Addr} {cvs_DuplicateEdge_init : Array Value} {ccs_DuplicateEdge_init : Array (Option Value)} {cfi_DuplicateEdge_init : Str} {ctf_DuplicateEdge_init : Tok} {ecl_DuplicateEdge_init : Value} {eld_DuplicateEdge_init : Option Addr} {esl_DuplicateEdge_init : Array (Option Value)} {C_DeadEnd : Addr} {nm_DeadEnd qn_DeadEnd : Str} {ns_DeadEnd : Addr} {bs_DeadEnd bm_DeadEnd sb_DeadEnd : List Value} {sn_DeadEnd : List Str} {ab_DeadEnd : Bool} {co_DeadEnd : Option Bool} {dd_DeadEnd : Option Addr} {k0_DeadEnd k1_DeadEnd k2_DeadEnd k3_DeadEnd k5_DeadEnd : Option Value} {od_DeadEnd_init an_DeadEnd_init : Option Addr} {sl_DeadEnd_init : Array (Option Value)} {oc_DeadEnd_init kV_DeadEnd_init dc_DeadEnd_init pm_DeadEnd_init ct_DeadEnd_init : Value} {f_DeadEnd_init : Addr} {cda_DeadEnd_init cc_DeadEnd_init : Addr} {ccl_DeadEnd_init : Value} {cdd_DeadEnd_init : Option Addr} {cvs_DeadEnd_init : Array Value} {ccs_DeadEnd_init : Array (Option Value)} {cfi_DeadEnd_init : Str} {ctf_DeadEnd_init : Tok} {ecl_DeadEnd_init : Value} {eld_DeadEnd_init : Option Addr} {esl_DeadEnd_init : Array (Option Value)} {C_BadSize : Addr} {C_TooLarge : Addr} {C_BadHeight : Addr} {C_BadOwners : Addr} {C_LadderreachError : Addr} {C_GameError : Addr} {C_OutOfRange : Addr}
    (z_super : PySem.W.nsIn K mainGlobals "super" = some none)
    (zt_any : PySem.W.nsIn K cStatics "thirdparty.any" = some none)
    (z_top : (P.main.scope.names.lookup ("super" : Str)).isSome = false)
    (z_len : PySem.W.nsIn K mainGlobals "len" = some none)
    (z_abs : PySem.W.nsIn K mainGlobals "abs" = some none)
    (z_max : PySem.W.nsIn K mainGlobals "max" = some none)
    (z_min : PySem.W.nsIn K mainGlobals "min" = some none)
    (z_isinstance : PySem.W.nsIn K mainGlobals "isinstance" = some none)
    (z_int : PySem.W.nsIn K mainGlobals "int" = some none)
    (z_bool : PySem.W.nsIn K mainGlobals "bool" = some none)
    (z_str : PySem.W.nsIn K mainGlobals "str" = some none)
    (z_list : PySem.W.nsIn K mainGlobals "list" = some none)
    (z_tuple : PySem.W.nsIn K mainGlobals "tuple" = some none)
    (z_range : PySem.W.nsIn K mainGlobals "range" = some none)
    (z_enumerate : PySem.W.nsIn K mainGlobals "enumerate" = some none)
    (z_iter : PySem.W.nsIn K mainGlobals "iter" = some none)
    (z_set : PySem.W.nsIn K mainGlobals "set" = some none)
    (z_sorted : PySem.W.nsIn K mainGlobals "sorted" = some none)
    (z_any : PySem.W.nsIn K mainGlobals "any" = some none)
    (z_all : PySem.W.nsIn K mainGlobals "all" = some none)
    (z_ValueError : PySem.W.nsIn K mainGlobals "ValueError" = some none)
    (o_gt : PySem.W.specialIn K (.builtin "object.__class__") "__get__" = some (some (.builtin "getset_descriptor.__get__")))
    (o_tk : PySem.W.takesIn K (.builtin "object.__class__") = some true)
    (a_check_height : PySem.W.nsIn K mainGlobals "check_height" = some (some (.ref f_check_height)))
    (l_check_height : K.lookup f_check_height = some ⟨oc_check_height, od_check_height, .func (PySem.W.fnOf "check_height" "check_height" (defArgs s_check_height) (defBody s_check_height) (defScope s_check_height) .none kV_check_height dc_check_height pm_check_height an_check_height cd_check_height ct_check_height), sl_check_height⟩)
    (c_check_height : PySem.W.codeIn K cd_check_height "check_height" = true)
    (k_check_height : PySem.W.keepIn K (.ref f_check_height) = true)
    (a_check_count : PySem.W.nsIn K mainGlobals "check_count" = some (some (.ref f_check_count)))
    (l_check_count : K.lookup f_check_count = some ⟨oc_check_count, od_check_count, .func (PySem.W.fnOf "check_count" "check_count" (defArgs s_check_count) (defBody s_check_count) (defScope s_check_count) .none kV_check_count dc_check_count pm_check_count an_check_count cd_check_count ct_check_count), sl_check_count⟩)
    (c_check_count : PySem.W.codeIn K cd_check_count "check_count" = true)
    (k_check_count : PySem.W.keepIn K (.ref f_check_count) = true)
    (a__check_edges : PySem.W.nsIn K mainGlobals "_check_edges" = some (some (.ref f__check_edges)))
    (l__check_edges : K.lookup f__check_edges = some ⟨oc__check_edges, od__check_edges, .func (PySem.W.fnOf "_check_edges" "_check_edges" (defArgs s__check_edges) (defBody s__check_edges) (defScope s__check_edges) .none kV__check_edges dc__check_edges pm__check_edges an__check_edges cd__check_edges ct__check_edges), sl__check_edges⟩)
    (c__check_edges : PySem.W.codeIn K cd__check_edges "_check_edges" = true)
    (k__check_edges : PySem.W.keepIn K (.ref f__check_edges) = true)
    (a__check_owners : PySem.W.nsIn K mainGlobals "_check_owners" = some (some (.ref f__check_owners)))
    (l__check_owners : K.lookup f__check_owners = some ⟨oc__check_owners, od__check_owners, .func (PySem.W.fnOf "_check_owners" "_check_owners" (defArgs s__check_owners) (defBody s__check_owners) (defScope s__check_owners) .none kV__check_owners dc__check_owners pm__check_owners an__check_owners cd__check_owners ct__check_owners), sl__check_owners⟩)
    (c__check_owners : PySem.W.codeIn K cd__check_owners "_check_owners" = true)
    (k__check_owners : PySem.W.keepIn K (.ref f__check_owners) = true)
    (a__check_dead_ends : PySem.W.nsIn K mainGlobals "_check_dead_ends" = some (some (.ref f__check_dead_ends)))
    (l__check_dead_ends : K.lookup f__check_dead_ends = some ⟨oc__check_dead_ends, od__check_dead_ends, .func (PySem.W.fnOf "_check_dead_ends" "_check_dead_ends" (defArgs s__check_dead_ends) (defBody s__check_dead_ends) (defScope s__check_dead_ends) .none kV__check_dead_ends dc__check_dead_ends pm__check_dead_ends an__check_dead_ends cd__check_dead_ends ct__check_dead_ends), sl__check_dead_ends⟩)
    (c__check_dead_ends : PySem.W.codeIn K cd__check_dead_ends "_check_dead_ends" = true)
    (k__check_dead_ends : PySem.W.keepIn K (.ref f__check_dead_ends) = true)
    (a_pool : PySem.W.nsIn K mainGlobals "_law_pool" = some (some (.ref f_pool)))
    (l_pool : K.lookup f_pool = some ⟨oc_pool, od_pool, .func (PySem.W.fnOf "_law_pool" "_law_pool" (defArgs s_pool) (defBody s_pool) (defScope s_pool) .none kV_pool dc_pool pm_pool an_pool cd_pool ct_pool), sl_pool⟩)
    (c_pool : PySem.W.codeIn K cd_pool "_law_pool" = true)
    (k_pool : PySem.W.keepIn K (.ref f_pool) = true)
    (a_draw : PySem.W.nsIn K mainGlobals "_law_draw" = some (some (.ref f_draw)))
    (l_draw : K.lookup f_draw = some ⟨oc_draw, od_draw, .func (PySem.W.fnOf "_law_draw" "_law_draw" (defArgs s_draw) (defBody s_draw) (defScope s_draw) .none kV_draw dc_draw pm_draw an_draw cd_draw ct_draw), sl_draw⟩)
    (c_draw : PySem.W.codeIn K cd_draw "_law_draw" = true)
    (k_draw : PySem.W.keepIn K (.ref f_draw) = true)
    (a_owners : PySem.W.nsIn K mainGlobals "_law_owners" = some (some (.ref f_owners)))
    (l_owners : K.lookup f_owners = some ⟨oc_owners, od_owners, .func (PySem.W.fnOf "_law_owners" "_law_owners" (defArgs s_owners) (defBody s_owners) (defScope s_owners) .none kV_owners dc_owners pm_owners an_owners cd_owners ct_owners), sl_owners⟩)
    (c_owners : PySem.W.codeIn K cd_owners "_law_owners" = true)
    (k_owners : PySem.W.keepIn K (.ref f_owners) = true)
    (a_number : PySem.W.nsIn K mainGlobals "_law_number" = some (some (.ref f_number)))
    (l_number : K.lookup f_number = some ⟨oc_number, od_number, .func (PySem.W.fnOf "_law_number" "_law_number" (defArgs s_number) (defBody s_number) (defScope s_number) .none kV_number dc_number pm_number an_number cd_number ct_number), sl_number⟩)
    (c_number : PySem.W.codeIn K cd_number "_law_number" = true)
    (k_number : PySem.W.keepIn K (.ref f_number) = true)
    (a_is_edge : PySem.W.nsIn K mainGlobals "_law_is_edge" = some (some (.ref f_is_edge)))
    (l_is_edge : K.lookup f_is_edge = some ⟨oc_is_edge, od_is_edge, .func (PySem.W.fnOf "_law_is_edge" "_law_is_edge" (defArgs s_is_edge) (defBody s_is_edge) (defScope s_is_edge) .none kV_is_edge dc_is_edge pm_is_edge an_is_edge cd_is_edge ct_is_edge), sl_is_edge⟩)
    (c_is_edge : PySem.W.codeIn K cd_is_edge "_law_is_edge" = true)
    (k_is_edge : PySem.W.keepIn K (.ref f_is_edge) = true)
    (a_spoilt_letters : PySem.W.nsIn K mainGlobals "_law_spoilt_letters" = some (some (.ref f_spoilt_letters)))
    (l_spoilt_letters : K.lookup f_spoilt_letters = some ⟨oc_spoilt_letters, od_spoilt_letters, .func (PySem.W.fnOf "_law_spoilt_letters" "_law_spoilt_letters" (defArgs s_spoilt_letters) (defBody s_spoilt_letters) (defScope s_spoilt_letters) .none kV_spoilt_letters dc_spoilt_letters pm_spoilt_letters an_spoilt_letters cd_spoilt_letters ct_spoilt_letters), sl_spoilt_letters⟩)
    (c_spoilt_letters : PySem.W.codeIn K cd_spoilt_letters "_law_spoilt_letters" = true)
    (k_spoilt_letters : PySem.W.keepIn K (.ref f_spoilt_letters) = true)
    (a_any_count : PySem.W.nsIn K mainGlobals "_law_any_count" = some (some (.ref f_any_count)))
    (l_any_count : K.lookup f_any_count = some ⟨oc_any_count, od_any_count, .func (PySem.W.fnOf "_law_any_count" "_law_any_count" (defArgs s_any_count) (defBody s_any_count) (defScope s_any_count) .none kV_any_count dc_any_count pm_any_count an_any_count cd_any_count ct_any_count), sl_any_count⟩)
    (c_any_count : PySem.W.codeIn K cd_any_count "_law_any_count" = true)
    (k_any_count : PySem.W.keepIn K (.ref f_any_count) = true)
    (a_beyond : PySem.W.nsIn K mainGlobals "_law_beyond" = some (some (.ref f_beyond)))
    (l_beyond : K.lookup f_beyond = some ⟨oc_beyond, od_beyond, .func (PySem.W.fnOf "_law_beyond" "_law_beyond" (defArgs s_beyond) (defBody s_beyond) (defScope s_beyond) .none kV_beyond dc_beyond pm_beyond an_beyond cd_beyond ct_beyond), sl_beyond⟩)
    (c_beyond : PySem.W.codeIn K cd_beyond "_law_beyond" = true)
    (k_beyond : PySem.W.keepIn K (.ref f_beyond) = true)
    (a_one_edge : PySem.W.nsIn K mainGlobals "_law_one_edge" = some (some (.ref f_one_edge)))
    (l_one_edge : K.lookup f_one_edge = some ⟨oc_one_edge, od_one_edge, .func (PySem.W.fnOf "_law_one_edge" "_law_one_edge" (defArgs s_one_edge) (defBody s_one_edge) (defScope s_one_edge) .none kV_one_edge dc_one_edge pm_one_edge an_one_edge cd_one_edge ct_one_edge), sl_one_edge⟩)
    (c_one_edge : PySem.W.codeIn K cd_one_edge "_law_one_edge" = true)
    (k_one_edge : PySem.W.keepIn K (.ref f_one_edge) = true)
    (a_many_edges : PySem.W.nsIn K mainGlobals "_law_many_edges" = some (some (.ref f_many_edges)))
    (l_many_edges : K.lookup f_many_edges = some ⟨oc_many_edges, od_many_edges, .func (PySem.W.fnOf "_law_many_edges" "_law_many_edges" (defArgs s_many_edges) (defBody s_many_edges) (defScope s_many_edges) .none kV_many_edges dc_many_edges pm_many_edges an_many_edges cd_many_edges ct_many_edges), sl_many_edges⟩)
    (c_many_edges : PySem.W.codeIn K cd_many_edges "_law_many_edges" = true)
    (k_many_edges : PySem.W.keepIn K (.ref f_many_edges) = true)
    (a_all_edges : PySem.W.nsIn K mainGlobals "_law_all_edges" = some (some (.ref f_all_edges)))
    (l_all_edges : K.lookup f_all_edges = some ⟨oc_all_edges, od_all_edges, .func (PySem.W.fnOf "_law_all_edges" "_law_all_edges" (defArgs s_all_edges) (defBody s_all_edges) (defScope s_all_edges) .none kV_all_edges dc_all_edges pm_all_edges an_all_edges cd_all_edges ct_all_edges), sl_all_edges⟩)
    (c_all_edges : PySem.W.codeIn K cd_all_edges "_law_all_edges" = true)
    (k_all_edges : PySem.W.keepIn K (.ref f_all_edges) = true)
    (a_due_for_edges : PySem.W.nsIn K mainGlobals "_law_due_for_edges" = some (some (.ref f_due_for_edges)))
    (l_due_for_edges : K.lookup f_due_for_edges = some ⟨oc_due_for_edges, od_due_for_edges, .func (PySem.W.fnOf "_law_due_for_edges" "_law_due_for_edges" (defArgs s_due_for_edges) (defBody s_due_for_edges) (defScope s_due_for_edges) .none kV_due_for_edges dc_due_for_edges pm_due_for_edges an_due_for_edges cd_due_for_edges ct_due_for_edges), sl_due_for_edges⟩)
    (c_due_for_edges : PySem.W.codeIn K cd_due_for_edges "_law_due_for_edges" = true)
    (k_due_for_edges : PySem.W.keepIn K (.ref f_due_for_edges) = true)
    (a_due_for_web : PySem.W.nsIn K mainGlobals "_law_due_for_web" = some (some (.ref f_due_for_web)))
    (l_due_for_web : K.lookup f_due_for_web = some ⟨oc_due_for_web, od_due_for_web, .func (PySem.W.fnOf "_law_due_for_web" "_law_due_for_web" (defArgs s_due_for_web) (defBody s_due_for_web) (defScope s_due_for_web) .none kV_due_for_web dc_due_for_web pm_due_for_web an_due_for_web cd_due_for_web ct_due_for_web), sl_due_for_web⟩)
    (c_due_for_web : PySem.W.codeIn K cd_due_for_web "_law_due_for_web" = true)
    (k_due_for_web : PySem.W.keepIn K (.ref f_due_for_web) = true)
    (a_due_for_game : PySem.W.nsIn K mainGlobals "_law_due_for_game" = some (some (.ref f_due_for_game)))
    (l_due_for_game : K.lookup f_due_for_game = some ⟨oc_due_for_game, od_due_for_game, .func (PySem.W.fnOf "_law_due_for_game" "_law_due_for_game" (defArgs s_due_for_game) (defBody s_due_for_game) (defScope s_due_for_game) .none kV_due_for_game dc_due_for_game pm_due_for_game an_due_for_game cd_due_for_game ct_due_for_game), sl_due_for_game⟩)
    (c_due_for_game : PySem.W.codeIn K cd_due_for_game "_law_due_for_game" = true)
    (k_due_for_game : PySem.W.keepIn K (.ref f_due_for_game) = true)
    (a_game : PySem.W.nsIn K mainGlobals "_law_game" = some (some (.ref f_game)))
    (l_game : K.lookup f_game = some ⟨oc_game, od_game, .func (PySem.W.fnOf "_law_game" "_law_game" (defArgs s_game) (defBody s_game) (defScope s_game) .none kV_game dc_game pm_game an_game cd_game ct_game), sl_game⟩)
    (c_game : PySem.W.codeIn K cd_game "_law_game" = true)
    (k_game : PySem.W.keepIn K (.ref f_game) = true)
    (a_web : PySem.W.nsIn K mainGlobals "_law_web" = some (some (.ref f_web)))
    (l_web : K.lookup f_web = some ⟨oc_web, od_web, .func (PySem.W.fnOf "_law_web" "_law_web" (defArgs s_web) (defBody s_web) (defScope s_web) .none kV_web dc_web pm_web an_web cd_web ct_web), sl_web⟩)
    (c_web : PySem.W.codeIn K cd_web "_law_web" = true)
    (k_web : PySem.W.keepIn K (.ref f_web) = true)
    (a_refused_as : PySem.W.nsIn K mainGlobals "_law_refused_as" = some (some (.ref f_refused_as)))
    (l_refused_as : K.lookup f_refused_as = some ⟨oc_refused_as, od_refused_as, .func (PySem.W.fnOf "_law_refused_as" "_law_refused_as" (defArgs s_refused_as) (defBody s_refused_as) (defScope s_refused_as) .none kV_refused_as dc_refused_as pm_refused_as an_refused_as cd_refused_as ct_refused_as), sl_refused_as⟩)
    (c_refused_as : PySem.W.codeIn K cd_refused_as "_law_refused_as" = true)
    (k_refused_as : PySem.W.keepIn K (.ref f_refused_as) = true)
    (a_in_order : PySem.W.nsIn K mainGlobals "_law_in_order" = some (some (.ref f_in_order)))
    (l_in_order : K.lookup f_in_order = some ⟨oc_in_order, od_in_order, .func (PySem.W.fnOf "_law_in_order" "_law_in_order" (defArgs s_in_order) (defBody s_in_order) (defScope s_in_order) .none kV_in_order dc_in_order pm_in_order an_in_order cd_in_order ct_in_order), sl_in_order⟩)
    (c_in_order : PySem.W.codeIn K cd_in_order "_law_in_order" = true)
    (k_in_order : PySem.W.keepIn K (.ref f_in_order) = true)
    (a_keeps : PySem.W.nsIn K mainGlobals "_law_keeps" = some (some (.ref f_keeps)))
    (l_keeps : K.lookup f_keeps = some ⟨oc_keeps, od_keeps, .func (PySem.W.fnOf "_law_keeps" "_law_keeps" (defArgs s_keeps) (defBody s_keeps) (defScope s_keeps) .none kV_keeps dc_keeps pm_keeps an_keeps cd_keeps ct_keeps), sl_keeps⟩)
    (c_keeps : PySem.W.codeIn K cd_keeps "_law_keeps" = true)
    (k_keeps : PySem.W.keepIn K (.ref f_keeps) = true)
    (a_law : PySem.W.nsIn K mainGlobals "law" = some (some (.ref f_law)))
    (l_law : K.lookup f_law = some ⟨oc_law, od_law, .func (PySem.W.fnOf "law" "law" (defArgs s_law) (defBody s_law) (defScope s_law) .none kV_law dc_law pm_law an_law cd_law ct_law), sl_law⟩)
    (c_law : PySem.W.codeIn K cd_law "law" = true)
    (k_law : PySem.W.keepIn K (.ref f_law) = true)
    (aC_Web : PySem.W.nsIn K mainGlobals "Web" = some (some (.ref C_Web)))
    (pg_Web : PySem.W.plainGet K C_Web Str.empty = true)
    (hd_Web : PySem.W.hasDictIn K C_Web = true)
    (po_Web : PySem.W.plainOver K C_Web = true)
    (sa_Web : PySem.W.findIn K (.ref C_Web) "__setattr__" = some (some (.builtin "object.__setattr__")))
    (na_Web_height : PySem.W.findIn K (.ref C_Web) "height" = some none)
    (na_Web_size : PySem.W.findIn K (.ref C_Web) "size" = some none)
    (na_Web_edges : PySem.W.findIn K (.ref C_Web) "edges" = some none)
    (na_Web___len__ : PySem.W.findIn K (.ref C_Web) "__len__" = some none)
    (na_Web___length_hint__ : PySem.W.findIn K (.ref C_Web) "__length_hint__" = some none)
    (mk_Web : PySem.W.makesIn K C_Web = true)
    (kc_Web : PySem.W.keepIn K (.ref C_Web) = true)
    (a_W_init : PySem.W.findIn K (.ref C_Web) "__init__" = some (some (.ref f_W_init)))
    (i_W_init : PySem.W.isFn K (.ref f_W_init) = true)
    (l_W_init : K.lookup f_W_init = some ⟨oc_W_init, od_W_init, .func (PySem.W.fnOf "__init__" "Web.__init__" (defArgs s_W_init) (defBody s_W_init) (defScope s_W_init) .none kV_W_init dc_W_init pm_W_init an_W_init cd_W_init ct_W_init), sl_W_init⟩)
    (c_W_init : PySem.W.codeIn K cd_W_init "Web.__init__" = true)
    (k_W_init : PySem.W.keepIn K (.ref f_W_init) = true)
    (a_W_iter : PySem.W.findIn K (.ref C_Web) "__iter__" = some (some (.ref f_W_iter)))
    (i_W_iter : PySem.W.isFn K (.ref f_W_iter) = true)
    (l_W_iter : K.lookup f_W_iter = some ⟨oc_W_iter, od_W_iter, .func (PySem.W.fnOf "__iter__" "Web.__iter__" (defArgs s_W_iter) (defBody s_W_iter) (defScope s_W_iter) .none kV_W_iter dc_W_iter pm_W_iter an_W_iter cd_W_iter ct_W_iter), sl_W_iter⟩)
    (c_W_iter : PySem.W.codeIn K cd_W_iter "Web.__iter__" = true)
    (k_W_iter : PySem.W.keepIn K (.ref f_W_iter) = true)
    (cr_Web_MOST_NODES : PySem.W.readsIn K C_Web (.type "type") = true)
    (cg_Web_MOST_NODES : PySem.W.specialIn K (.ref C_Web) "__getattribute__" = some (some (.builtin "type.__getattribute__")))
    (cf_Web_MOST_NODES : PySem.W.findCls K (.ref C_Web) (.type "type") "MOST_NODES" = some (.val u_Web_MOST_NODES))
    (cx_Web_MOST_NODES : RelV (.int 9) u_Web_MOST_NODES)
    (cr_Web_MOST_EDGES : PySem.W.readsIn K C_Web (.type "type") = true)
    (cg_Web_MOST_EDGES : PySem.W.specialIn K (.ref C_Web) "__getattribute__" = some (some (.builtin "type.__getattribute__")))
    (cf_Web_MOST_EDGES : PySem.W.findCls K (.ref C_Web) (.type "type") "MOST_EDGES" = some (.val u_Web_MOST_EDGES))
    (cx_Web_MOST_EDGES : RelV (.int 63) u_Web_MOST_EDGES)
    (aC_Game : PySem.W.nsIn K mainGlobals "Game" = some (some (.ref C_Game)))
    (pg_Game : PySem.W.plainGet K C_Game Str.empty = true)
    (hd_Game : PySem.W.hasDictIn K C_Game = true)
    (po_Game : PySem.W.plainOver K C_Game = true)
    (sa_Game : PySem.W.findIn K (.ref C_Game) "__setattr__" = some (some (.builtin "object.__setattr__")))
    (na_Game_height : PySem.W.findIn K (.ref C_Game) "height" = some none)
    (na_Game_size : PySem.W.findIn K (.ref C_Game) "size" = some none)
    (na_Game_edges : PySem.W.findIn K (.ref C_Game) "edges" = some none)
    (na_Game_owners : PySem.W.findIn K (.ref C_Game) "owners" = some none)
    (na_Game___len__ : PySem.W.findIn K (.ref C_Game) "__len__" = some none)
    (na_Game___length_hint__ : PySem.W.findIn K (.ref C_Game) "__length_hint__" = some none)
    (mk_Game : PySem.W.makesIn K C_Game = true)
    (kc_Game : PySem.W.keepIn K (.ref C_Game) = true)
    (a_G_init : PySem.W.findIn K (.ref C_Game) "__init__" = some (some (.ref f_G_init)))
    (i_G_init : PySem.W.isFn K (.ref f_G_init) = true)
    (l_G_init : K.lookup f_G_init = some ⟨oc_G_init, od_G_init, .func (PySem.W.ksFn "__init__" "Game.__init__" (defArgs s_G_init) (defBody s_G_init) (defScope s_G_init) .none kV_G_init dc_G_init pm_G_init an_G_init (.ref cda_G_init) ct_G_init cc_G_init), sl_G_init⟩)
    (c_G_init : PySem.W.codeIn K (.ref cda_G_init) "Game.__init__" = true)
    (k_G_init : PySem.W.keepIn K (.ref f_G_init) = true)
    (h_G_init : K.lookup cda_G_init = some ⟨ccl_G_init, cdd_G_init, .fields cvs_G_init, ccs_G_init⟩)
    (v_G_init : cvs_G_init[2]? = some (.str cfi_G_init ctf_G_init))
    (p_G_init : ((P.main.file : Str) == cfi_G_init) = true)
    (e_G_init : K.lookup cc_G_init = some ⟨ecl_G_init, eld_G_init, .cell (some (.ref C_Game)), esl_G_init⟩)
    (icl_Game : PySem.W.isClsIn K C_Game = true)
    (a_G_iter : PySem.W.findIn K (.ref C_Game) "__iter__" = some (some (.ref f_G_iter)))
    (i_G_iter : PySem.W.isFn K (.ref f_G_iter) = true)
    (l_G_iter : K.lookup f_G_iter = some ⟨oc_G_iter, od_G_iter, .func (PySem.W.fnOf "__iter__" "Game.__iter__" (defArgs s_G_iter) (defBody s_G_iter) (defScope s_G_iter) .none kV_G_iter dc_G_iter pm_G_iter an_G_iter cd_G_iter ct_G_iter), sl_G_iter⟩)
    (c_G_iter : PySem.W.codeIn K cd_G_iter "Game.__iter__" = true)
    (k_G_iter : PySem.W.keepIn K (.ref f_G_iter) = true)
    (sm_Game_init : PySem.W.ks_superIn K C_Game C_Game "__init__" = some (some (.ref f_W_init)))
    (st_Game_init : PySem.W.typeIn K (.ref f_W_init) = some (.type "function"))
    (sn_Game_init : PySem.W.fnIn K f_W_init = true)
    (smr_Game : PySem.W.mroIn K C_Game (.ref C_Game) = some true)
    (aN_BadEdge : PySem.W.nsIn K mainGlobals "BadEdge" = some (some (.ref C_BadEdge)))
    (x_BadEdge : K.lookup C_BadEdge = some (excClassObj nm_BadEdge qn_BadEdge C_BadEdge ns_BadEdge bs_BadEdge bm_BadEdge true sn_BadEdge sb_BadEdge ab_BadEdge co_BadEdge dd_BadEdge k0_BadEdge k1_BadEdge k2_BadEdge k3_BadEdge k5_BadEdge "ValueError.__new__"))
    (r_BadEdge : PySem.HandSPX.refsVE bm_BadEdge = true)
    (sa_BadEdge : PySem.W.findIn K (.ref C_BadEdge) "__setattr__" = some (some (.builtin "object.__setattr__")))
    (xb_BadEdge : PySem.W.subIn K (.ref C_BadEdge) (.type "BaseException") = some true)
    (tc_BadEdge : PySem.W.typeIn K (.ref C_BadEdge) = some (.type "type"))
    (kc_BadEdge : PySem.W.keepIn K (.ref C_BadEdge) = true)
    (ga_BadEdge : PySem.W.findIn K (.ref C_BadEdge) "__getattribute__" = some (some (.builtin "BaseException.__getattribute__")))
    (gg_BadEdge : PySem.W.findIn K (.ref C_BadEdge) "__getattr__" = some none)
    (ac_BadEdge : PySem.W.findIn K (.ref C_BadEdge) "__class__" = some (some (.builtin "object.__class__")))
    (mo_BadEdge : PySem.W.mroIn K C_BadEdge (.type "object") = some true)
    (hd_BadEdge : PySem.W.hasDictIn K C_BadEdge = true)
    (ic_BadEdge : PySem.W.isClsIn K C_BadEdge = true)
    (no_BadEdge : PySem.W.findIn K (.ref C_BadEdge) "index" = some none)
    (sv_BadEdge : PySem.W.subIn K (.ref C_BadEdge) (.type "ValueError") = some true)
    (mr_BadEdge : PySem.W.mroIn K C_BadEdge (.ref C_BadEdge) = some true)
    (sm_BadEdge : PySem.W.ks_superIn K C_BadEdge C_BadEdge "__init__" = some (some (.builtin "ValueError.__init__")))
    (a_BadEdge_init : PySem.W.findIn K (.ref C_BadEdge) "__init__" = some (some (.ref f_BadEdge_init)))
    (t_BadEdge_init : PySem.W.typeIn K (.ref f_BadEdge_init) = some (.type "function"))
    (l_BadEdge_init : K.lookup f_BadEdge_init = some ⟨oc_BadEdge_init, od_BadEdge_init, .func (PySem.W.ksFn "__init__" "BadEdge.__init__" (defArgs s_BadEdge_init) (defBody s_BadEdge_init) (defScope s_BadEdge_init) .none kV_BadEdge_init dc_BadEdge_init pm_BadEdge_init an_BadEdge_init (.ref cda_BadEdge_init) ct_BadEdge_init cc_BadEdge_init), sl_BadEdge_init⟩)
    (c_BadEdge_init : PySem.W.codeIn K (.ref cda_BadEdge_init) "BadEdge.__init__" = true)
    (h_BadEdge_init : K.lookup cda_BadEdge_init = some ⟨ccl_BadEdge_init, cdd_BadEdge_init, .fields cvs_BadEdge_init, ccs_BadEdge_init⟩)
    (v_BadEdge_init : cvs_BadEdge_init[2]? = some (.str cfi_BadEdge_init ctf_BadEdge_init))
    (p_BadEdge_init : ((P.main.file : Str) == cfi_BadEdge_init) = true)
    (e_BadEdge_init : K.lookup cc_BadEdge_init = some ⟨ecl_BadEdge_init, eld_BadEdge_init, .cell (some (.ref C_BadEdge)), esl_BadEdge_init⟩)
    (aN_DuplicateEdge : PySem.W.nsIn K mainGlobals "DuplicateEdge" = some (some (.ref C_DuplicateEdge)))
    (x_DuplicateEdge : K.lookup C_DuplicateEdge = some (excClassObj nm_DuplicateEdge qn_DuplicateEdge C_DuplicateEdge ns_DuplicateEdge bs_DuplicateEdge bm_DuplicateEdge true sn_DuplicateEdge sb_DuplicateEdge ab_DuplicateEdge co_DuplicateEdge dd_DuplicateEdge k0_DuplicateEdge k1_DuplicateEdge k2_DuplicateEdge k3_DuplicateEdge k5_DuplicateEdge "ValueError.__new__"))
    (r_DuplicateEdge : PySem.HandSPX.refsVE bm_DuplicateEdge = true)
    (sa_DuplicateEdge : PySem.W.findIn K (.ref C_DuplicateEdge) "__setattr__" = some (some (.builtin "object.__setattr__")))
    (xb_DuplicateEdge : PySem.W.subIn K (.ref C_DuplicateEdge) (.type "BaseException") = some true)
    (tc_DuplicateEdge : PySem.W.typeIn K (.ref C_DuplicateEdge) = some (.type "type"))
    (kc_DuplicateEdge : PySem.W.keepIn K (.ref C_DuplicateEdge) = true)
    (ga_DuplicateEdge : PySem.W.findIn K (.ref C_DuplicateEdge) "__getattribute__" = some (some (.builtin "BaseException.__getattribute__")))
    (gg_DuplicateEdge : PySem.W.findIn K (.ref C_DuplicateEdge) "__getattr__" = some none)
    (ac_DuplicateEdge : PySem.W.findIn K (.ref C_DuplicateEdge) "__class__" = some (some (.builtin "object.__class__")))
    (mo_DuplicateEdge : PySem.W.mroIn K C_DuplicateEdge (.type "object") = some true)
    (hd_DuplicateEdge : PySem.W.hasDictIn K C_DuplicateEdge = true)
    (ic_DuplicateEdge : PySem.W.isClsIn K C_DuplicateEdge = true)
    (no_DuplicateEdge : PySem.W.findIn K (.ref C_DuplicateEdge) "index" = some none)
    (sv_DuplicateEdge : PySem.W.subIn K (.ref C_DuplicateEdge) (.type "ValueError") = some true)
    (mr_DuplicateEdge : PySem.W.mroIn K C_DuplicateEdge (.ref C_DuplicateEdge) = some true)
    (sm_DuplicateEdge : PySem.W.ks_superIn K C_DuplicateEdge C_DuplicateEdge "__init__" = some (some (.builtin "ValueError.__init__")))
    (a_DuplicateEdge_init : PySem.W.findIn K (.ref C_DuplicateEdge) "__init__" = some (some (.ref f_DuplicateEdge_init)))
    (t_DuplicateEdge_init : PySem.W.typeIn K (.ref f_DuplicateEdge_init) = some (.type "function"))
    (l_DuplicateEdge_init : K.lookup f_DuplicateEdge_init = some ⟨oc_DuplicateEdge_init, od_DuplicateEdge_init, .func (PySem.W.ksFn "__init__" "DuplicateEdge.__init__" (defArgs s_DuplicateEdge_init) (defBody s_DuplicateEdge_init) (defScope s_DuplicateEdge_init) .none kV_DuplicateEdge_init dc_DuplicateEdge_init pm_DuplicateEdge_init an_DuplicateEdge_init (.ref cda_DuplicateEdge_init) ct_DuplicateEdge_init cc_DuplicateEdge_init), sl_DuplicateEdge_init⟩)
    (c_DuplicateEdge_init : PySem.W.codeIn K (.ref cda_DuplicateEdge_init) "DuplicateEdge.__init__" = true)
    (h_DuplicateEdge_init : K.lookup cda_DuplicateEdge_init = some ⟨ccl_DuplicateEdge_init, cdd_DuplicateEdge_init, .fields cvs_DuplicateEdge_init, ccs_DuplicateEdge_init⟩)
    (v_DuplicateEdge_init : cvs_DuplicateEdge_init[2]? = some (.str cfi_DuplicateEdge_init ctf_DuplicateEdge_init))
    (p_DuplicateEdge_init : ((P.main.file : Str) == cfi_DuplicateEdge_init) = true)
    (e_DuplicateEdge_init : K.lookup cc_DuplicateEdge_init = some ⟨ecl_DuplicateEdge_init, eld_DuplicateEdge_init, .cell (some (.ref C_DuplicateEdge)), esl_DuplicateEdge_init⟩)
    (aN_DeadEnd : PySem.W.nsIn K mainGlobals "DeadEnd" = some (some (.ref C_DeadEnd)))
    (x_DeadEnd : K.lookup C_DeadEnd = some (excClassObj nm_DeadEnd qn_DeadEnd C_DeadEnd ns_DeadEnd bs_DeadEnd bm_DeadEnd true sn_DeadEnd sb_DeadEnd ab_DeadEnd co_DeadEnd dd_DeadEnd k0_DeadEnd k1_DeadEnd k2_DeadEnd k3_DeadEnd k5_DeadEnd "ValueError.__new__"))
    (r_DeadEnd : PySem.HandSPX.refsVE bm_DeadEnd = true)
    (sa_DeadEnd : PySem.W.findIn K (.ref C_DeadEnd) "__setattr__" = some (some (.builtin "object.__setattr__")))
    (xb_DeadEnd : PySem.W.subIn K (.ref C_DeadEnd) (.type "BaseException") = some true)
    (tc_DeadEnd : PySem.W.typeIn K (.ref C_DeadEnd) = some (.type "type"))
    (kc_DeadEnd : PySem.W.keepIn K (.ref C_DeadEnd) = true)
    (ga_DeadEnd : PySem.W.findIn K (.ref C_DeadEnd) "__getattribute__" = some (some (.builtin "BaseException.__getattribute__")))
    (gg_DeadEnd : PySem.W.findIn K (.ref C_DeadEnd) "__getattr__" = some none)
    (ac_DeadEnd : PySem.W.findIn K (.ref C_DeadEnd) "__class__" = some (some (.builtin "object.__class__")))
    (mo_DeadEnd : PySem.W.mroIn K C_DeadEnd (.type "object") = some true)
    (hd_DeadEnd : PySem.W.hasDictIn K C_DeadEnd = true)
    (ic_DeadEnd : PySem.W.isClsIn K C_DeadEnd = true)
    (no_DeadEnd : PySem.W.findIn K (.ref C_DeadEnd) "node" = some none)
    (sv_DeadEnd : PySem.W.subIn K (.ref C_DeadEnd) (.type "ValueError") = some true)
    (mr_DeadEnd : PySem.W.mroIn K C_DeadEnd (.ref C_DeadEnd) = some true)
    (sm_DeadEnd : PySem.W.ks_superIn K C_DeadEnd C_DeadEnd "__init__" = some (some (.builtin "ValueError.__init__")))
    (a_DeadEnd_init : PySem.W.findIn K (.ref C_DeadEnd) "__init__" = some (some (.ref f_DeadEnd_init)))
    (t_DeadEnd_init : PySem.W.typeIn K (.ref f_DeadEnd_init) = some (.type "function"))
    (l_DeadEnd_init : K.lookup f_DeadEnd_init = some ⟨oc_DeadEnd_init, od_DeadEnd_init, .func (PySem.W.ksFn "__init__" "DeadEnd.__init__" (defArgs s_DeadEnd_init) (defBody s_DeadEnd_init) (defScope s_DeadEnd_init) .none kV_DeadEnd_init dc_DeadEnd_init pm_DeadEnd_init an_DeadEnd_init (.ref cda_DeadEnd_init) ct_DeadEnd_init cc_DeadEnd_init), sl_DeadEnd_init⟩)
    (c_DeadEnd_init : PySem.W.codeIn K (.ref cda_DeadEnd_init) "DeadEnd.__init__" = true)
    (h_DeadEnd_init : K.lookup cda_DeadEnd_init = some ⟨ccl_DeadEnd_init, cdd_DeadEnd_init, .fields cvs_DeadEnd_init, ccs_DeadEnd_init⟩)
    (v_DeadEnd_init : cvs_DeadEnd_init[2]? = some (.str cfi_DeadEnd_init ctf_DeadEnd_init))
    (p_DeadEnd_init : ((P.main.file : Str) == cfi_DeadEnd_init) = true)
    (e_DeadEnd_init : K.lookup cc_DeadEnd_init = some ⟨ecl_DeadEnd_init, eld_DeadEnd_init, .cell (some (.ref C_DeadEnd)), esl_DeadEnd_init⟩)
    (aN_BadSize : PySem.W.nsIn K mainGlobals "BadSize" = some (some (.ref C_BadSize)))
    (xP_BadSize : PySem.W.excIn K C_BadSize [.type "ValueError", .type "Exception", .type "BaseException", .type "object"] "ValueError.__new__" = true)
    (kc_BadSize : PySem.W.keepIn K (.ref C_BadSize) = true)
    (xb_BadSize : PySem.W.subIn K (.ref C_BadSize) (.type "BaseException") = some true)
    (tc_BadSize : PySem.W.typeIn K (.ref C_BadSize) = some (.type "type"))
    (ic_BadSize : PySem.W.isClsIn K C_BadSize = true)
    (ga_BadSize : PySem.W.findIn K (.ref C_BadSize) "__getattribute__" = some (some (.builtin "BaseException.__getattribute__")))
    (gg_BadSize : PySem.W.findIn K (.ref C_BadSize) "__getattr__" = some none)
    (ac_BadSize : PySem.W.findIn K (.ref C_BadSize) "__class__" = some (some (.builtin "object.__class__")))
    (mo_BadSize : PySem.W.mroIn K C_BadSize (.type "object") = some true)
    (hd_BadSize : PySem.W.hasDictIn K C_BadSize = true)
    (aN_TooLarge : PySem.W.nsIn K mainGlobals "TooLarge" = some (some (.ref C_TooLarge)))
    (xP_TooLarge : PySem.W.excIn K C_TooLarge [.type "ValueError", .type "Exception", .type "BaseException", .type "object"] "ValueError.__new__" = true)
    (kc_TooLarge : PySem.W.keepIn K (.ref C_TooLarge) = true)
    (xb_TooLarge : PySem.W.subIn K (.ref C_TooLarge) (.type "BaseException") = some true)
    (tc_TooLarge : PySem.W.typeIn K (.ref C_TooLarge) = some (.type "type"))
    (ic_TooLarge : PySem.W.isClsIn K C_TooLarge = true)
    (ga_TooLarge : PySem.W.findIn K (.ref C_TooLarge) "__getattribute__" = some (some (.builtin "BaseException.__getattribute__")))
    (gg_TooLarge : PySem.W.findIn K (.ref C_TooLarge) "__getattr__" = some none)
    (ac_TooLarge : PySem.W.findIn K (.ref C_TooLarge) "__class__" = some (some (.builtin "object.__class__")))
    (mo_TooLarge : PySem.W.mroIn K C_TooLarge (.type "object") = some true)
    (hd_TooLarge : PySem.W.hasDictIn K C_TooLarge = true)
    (aN_BadHeight : PySem.W.nsIn K mainGlobals "BadHeight" = some (some (.ref C_BadHeight)))
    (xP_BadHeight : PySem.W.excIn K C_BadHeight [.type "ValueError", .type "Exception", .type "BaseException", .type "object"] "ValueError.__new__" = true)
    (kc_BadHeight : PySem.W.keepIn K (.ref C_BadHeight) = true)
    (xb_BadHeight : PySem.W.subIn K (.ref C_BadHeight) (.type "BaseException") = some true)
    (tc_BadHeight : PySem.W.typeIn K (.ref C_BadHeight) = some (.type "type"))
    (ic_BadHeight : PySem.W.isClsIn K C_BadHeight = true)
    (ga_BadHeight : PySem.W.findIn K (.ref C_BadHeight) "__getattribute__" = some (some (.builtin "BaseException.__getattribute__")))
    (gg_BadHeight : PySem.W.findIn K (.ref C_BadHeight) "__getattr__" = some none)
    (ac_BadHeight : PySem.W.findIn K (.ref C_BadHeight) "__class__" = some (some (.builtin "object.__class__")))
    (mo_BadHeight : PySem.W.mroIn K C_BadHeight (.type "object") = some true)
    (hd_BadHeight : PySem.W.hasDictIn K C_BadHeight = true)
    (aN_BadOwners : PySem.W.nsIn K mainGlobals "BadOwners" = some (some (.ref C_BadOwners)))
    (xP_BadOwners : PySem.W.excIn K C_BadOwners [.type "ValueError", .type "Exception", .type "BaseException", .type "object"] "ValueError.__new__" = true)
    (kc_BadOwners : PySem.W.keepIn K (.ref C_BadOwners) = true)
    (xb_BadOwners : PySem.W.subIn K (.ref C_BadOwners) (.type "BaseException") = some true)
    (tc_BadOwners : PySem.W.typeIn K (.ref C_BadOwners) = some (.type "type"))
    (ic_BadOwners : PySem.W.isClsIn K C_BadOwners = true)
    (ga_BadOwners : PySem.W.findIn K (.ref C_BadOwners) "__getattribute__" = some (some (.builtin "BaseException.__getattribute__")))
    (gg_BadOwners : PySem.W.findIn K (.ref C_BadOwners) "__getattr__" = some none)
    (ac_BadOwners : PySem.W.findIn K (.ref C_BadOwners) "__class__" = some (some (.builtin "object.__class__")))
    (mo_BadOwners : PySem.W.mroIn K C_BadOwners (.type "object") = some true)
    (hd_BadOwners : PySem.W.hasDictIn K C_BadOwners = true)
    (ai_Web : PySem.W.findIn K (.ref C_Web) "__class__" = some (some (.builtin "object.__class__")))
    (mo_Web : PySem.W.mroIn K C_Web (.type "object") = some true)
    (ai_Game : PySem.W.findIn K (.ref C_Game) "__class__" = some (some (.builtin "object.__class__")))
    (mo_Game : PySem.W.mroIn K C_Game (.type "object") = some true)
    (kit_Web_Web : PySem.W.kitOne K (.ref C_Web) (.ref C_Web) = some true)
    (kit_Game_Web : PySem.W.kitOne K (.ref C_Game) (.ref C_Web) = some true)
    (kit_Game_Game : PySem.W.kitOne K (.ref C_Game) (.ref C_Game) = some true)
    (aN_LadderreachError : PySem.W.nsIn K mainGlobals "LadderreachError" = some (some (.ref C_LadderreachError)))
    (aN_GameError : PySem.W.nsIn K mainGlobals "GameError" = some (some (.ref C_GameError)))
    (aN_OutOfRange : PySem.W.nsIn K mainGlobals "OutOfRange" = some (some (.ref C_OutOfRange)))
    (kit_BadHeight_BadHeight : PySem.W.kitOne K (.ref C_BadHeight) (.ref C_BadHeight) = some true)
    (kit_BadHeight_BadSize : PySem.W.kitOne K (.ref C_BadHeight) (.ref C_BadSize) = some false)
    (kit_BadHeight_TooLarge : PySem.W.kitOne K (.ref C_BadHeight) (.ref C_TooLarge) = some false)
    (kit_BadHeight_BadOwners : PySem.W.kitOne K (.ref C_BadHeight) (.ref C_BadOwners) = some false)
    (kit_BadHeight_BadEdge : PySem.W.kitOne K (.ref C_BadHeight) (.ref C_BadEdge) = some false)
    (kit_BadHeight_DuplicateEdge : PySem.W.kitOne K (.ref C_BadHeight) (.ref C_DuplicateEdge) = some false)
    (kit_BadHeight_DeadEnd : PySem.W.kitOne K (.ref C_BadHeight) (.ref C_DeadEnd) = some false)
    (kit_BadHeight_GameError : PySem.W.kitOne K (.ref C_BadHeight) (.ref C_GameError) = some false)
    (kit_BadHeight_OutOfRange : PySem.W.kitOne K (.ref C_BadHeight) (.ref C_OutOfRange) = some false)
    (kit_BadHeight_ValueError : PySem.W.kitOne K (.ref C_BadHeight) (.type "ValueError") = some true)
    (exm_BadHeight_LadderreachError : PySem.W.exmOne K (.ref C_BadHeight) (.ref C_LadderreachError) = some true)
    (kit_BadSize_BadHeight : PySem.W.kitOne K (.ref C_BadSize) (.ref C_BadHeight) = some false)
    (kit_BadSize_BadSize : PySem.W.kitOne K (.ref C_BadSize) (.ref C_BadSize) = some true)
    (kit_BadSize_TooLarge : PySem.W.kitOne K (.ref C_BadSize) (.ref C_TooLarge) = some false)
    (kit_BadSize_BadOwners : PySem.W.kitOne K (.ref C_BadSize) (.ref C_BadOwners) = some false)
    (kit_BadSize_BadEdge : PySem.W.kitOne K (.ref C_BadSize) (.ref C_BadEdge) = some false)
    (kit_BadSize_DuplicateEdge : PySem.W.kitOne K (.ref C_BadSize) (.ref C_DuplicateEdge) = some false)
    (kit_BadSize_DeadEnd : PySem.W.kitOne K (.ref C_BadSize) (.ref C_DeadEnd) = some false)
    (kit_BadSize_GameError : PySem.W.kitOne K (.ref C_BadSize) (.ref C_GameError) = some false)
    (kit_BadSize_OutOfRange : PySem.W.kitOne K (.ref C_BadSize) (.ref C_OutOfRange) = some false)
    (kit_BadSize_ValueError : PySem.W.kitOne K (.ref C_BadSize) (.type "ValueError") = some true)
    (exm_BadSize_LadderreachError : PySem.W.exmOne K (.ref C_BadSize) (.ref C_LadderreachError) = some true)
    (kit_TooLarge_BadHeight : PySem.W.kitOne K (.ref C_TooLarge) (.ref C_BadHeight) = some false)
    (kit_TooLarge_BadSize : PySem.W.kitOne K (.ref C_TooLarge) (.ref C_BadSize) = some false)
    (kit_TooLarge_TooLarge : PySem.W.kitOne K (.ref C_TooLarge) (.ref C_TooLarge) = some true)
    (kit_TooLarge_BadOwners : PySem.W.kitOne K (.ref C_TooLarge) (.ref C_BadOwners) = some false)
    (kit_TooLarge_BadEdge : PySem.W.kitOne K (.ref C_TooLarge) (.ref C_BadEdge) = some false)
    (kit_TooLarge_DuplicateEdge : PySem.W.kitOne K (.ref C_TooLarge) (.ref C_DuplicateEdge) = some false)
    (kit_TooLarge_DeadEnd : PySem.W.kitOne K (.ref C_TooLarge) (.ref C_DeadEnd) = some false)
    (kit_TooLarge_GameError : PySem.W.kitOne K (.ref C_TooLarge) (.ref C_GameError) = some false)
    (kit_TooLarge_OutOfRange : PySem.W.kitOne K (.ref C_TooLarge) (.ref C_OutOfRange) = some false)
    (kit_TooLarge_ValueError : PySem.W.kitOne K (.ref C_TooLarge) (.type "ValueError") = some true)
    (exm_TooLarge_LadderreachError : PySem.W.exmOne K (.ref C_TooLarge) (.ref C_LadderreachError) = some true)
    (kit_BadOwners_BadHeight : PySem.W.kitOne K (.ref C_BadOwners) (.ref C_BadHeight) = some false)
    (kit_BadOwners_BadSize : PySem.W.kitOne K (.ref C_BadOwners) (.ref C_BadSize) = some false)
    (kit_BadOwners_TooLarge : PySem.W.kitOne K (.ref C_BadOwners) (.ref C_TooLarge) = some false)
    (kit_BadOwners_BadOwners : PySem.W.kitOne K (.ref C_BadOwners) (.ref C_BadOwners) = some true)
    (kit_BadOwners_BadEdge : PySem.W.kitOne K (.ref C_BadOwners) (.ref C_BadEdge) = some false)
    (kit_BadOwners_DuplicateEdge : PySem.W.kitOne K (.ref C_BadOwners) (.ref C_DuplicateEdge) = some false)
    (kit_BadOwners_DeadEnd : PySem.W.kitOne K (.ref C_BadOwners) (.ref C_DeadEnd) = some false)
    (kit_BadOwners_GameError : PySem.W.kitOne K (.ref C_BadOwners) (.ref C_GameError) = some true)
    (kit_BadOwners_OutOfRange : PySem.W.kitOne K (.ref C_BadOwners) (.ref C_OutOfRange) = some false)
    (kit_BadOwners_ValueError : PySem.W.kitOne K (.ref C_BadOwners) (.type "ValueError") = some true)
    (exm_BadOwners_LadderreachError : PySem.W.exmOne K (.ref C_BadOwners) (.ref C_LadderreachError) = some true)
    (kit_BadEdge_BadHeight : PySem.W.kitOne K (.ref C_BadEdge) (.ref C_BadHeight) = some false)
    (kit_BadEdge_BadSize : PySem.W.kitOne K (.ref C_BadEdge) (.ref C_BadSize) = some false)
    (kit_BadEdge_TooLarge : PySem.W.kitOne K (.ref C_BadEdge) (.ref C_TooLarge) = some false)
    (kit_BadEdge_BadOwners : PySem.W.kitOne K (.ref C_BadEdge) (.ref C_BadOwners) = some false)
    (kit_BadEdge_BadEdge : PySem.W.kitOne K (.ref C_BadEdge) (.ref C_BadEdge) = some true)
    (kit_BadEdge_DuplicateEdge : PySem.W.kitOne K (.ref C_BadEdge) (.ref C_DuplicateEdge) = some false)
    (kit_BadEdge_DeadEnd : PySem.W.kitOne K (.ref C_BadEdge) (.ref C_DeadEnd) = some false)
    (kit_BadEdge_GameError : PySem.W.kitOne K (.ref C_BadEdge) (.ref C_GameError) = some true)
    (kit_BadEdge_OutOfRange : PySem.W.kitOne K (.ref C_BadEdge) (.ref C_OutOfRange) = some false)
    (kit_BadEdge_ValueError : PySem.W.kitOne K (.ref C_BadEdge) (.type "ValueError") = some true)
    (exm_BadEdge_LadderreachError : PySem.W.exmOne K (.ref C_BadEdge) (.ref C_LadderreachError) = some true)
    (kit_DuplicateEdge_BadHeight : PySem.W.kitOne K (.ref C_DuplicateEdge) (.ref C_BadHeight) = some false)
    (kit_DuplicateEdge_BadSize : PySem.W.kitOne K (.ref C_DuplicateEdge) (.ref C_BadSize) = some false)
    (kit_DuplicateEdge_TooLarge : PySem.W.kitOne K (.ref C_DuplicateEdge) (.ref C_TooLarge) = some false)
    (kit_DuplicateEdge_BadOwners : PySem.W.kitOne K (.ref C_DuplicateEdge) (.ref C_BadOwners) = some false)
    (kit_DuplicateEdge_BadEdge : PySem.W.kitOne K (.ref C_DuplicateEdge) (.ref C_BadEdge) = some false)
    (kit_DuplicateEdge_DuplicateEdge : PySem.W.kitOne K (.ref C_DuplicateEdge) (.ref C_DuplicateEdge) = some true)
    (kit_DuplicateEdge_DeadEnd : PySem.W.kitOne K (.ref C_DuplicateEdge) (.ref C_DeadEnd) = some false)
    (kit_DuplicateEdge_GameError : PySem.W.kitOne K (.ref C_DuplicateEdge) (.ref C_GameError) = some true)
    (kit_DuplicateEdge_OutOfRange : PySem.W.kitOne K (.ref C_DuplicateEdge) (.ref C_OutOfRange) = some false)
    (kit_DuplicateEdge_ValueError : PySem.W.kitOne K (.ref C_DuplicateEdge) (.type "ValueError") = some true)
    (exm_DuplicateEdge_LadderreachError : PySem.W.exmOne K (.ref C_DuplicateEdge) (.ref C_LadderreachError) = some true)
    (kit_DeadEnd_BadHeight : PySem.W.kitOne K (.ref C_DeadEnd) (.ref C_BadHeight) = some false)
    (kit_DeadEnd_BadSize : PySem.W.kitOne K (.ref C_DeadEnd) (.ref C_BadSize) = some false)
    (kit_DeadEnd_TooLarge : PySem.W.kitOne K (.ref C_DeadEnd) (.ref C_TooLarge) = some false)
    (kit_DeadEnd_BadOwners : PySem.W.kitOne K (.ref C_DeadEnd) (.ref C_BadOwners) = some false)
    (kit_DeadEnd_BadEdge : PySem.W.kitOne K (.ref C_DeadEnd) (.ref C_BadEdge) = some false)
    (kit_DeadEnd_DuplicateEdge : PySem.W.kitOne K (.ref C_DeadEnd) (.ref C_DuplicateEdge) = some false)
    (kit_DeadEnd_DeadEnd : PySem.W.kitOne K (.ref C_DeadEnd) (.ref C_DeadEnd) = some true)
    (kit_DeadEnd_GameError : PySem.W.kitOne K (.ref C_DeadEnd) (.ref C_GameError) = some true)
    (kit_DeadEnd_OutOfRange : PySem.W.kitOne K (.ref C_DeadEnd) (.ref C_OutOfRange) = some false)
    (kit_DeadEnd_ValueError : PySem.W.kitOne K (.ref C_DeadEnd) (.type "ValueError") = some true)
    (exm_DeadEnd_LadderreachError : PySem.W.exmOne K (.ref C_DeadEnd) (.ref C_LadderreachError) = some true) :
    Txt P K mg ⟨C_Web, C_Game, C_BadEdge, C_DuplicateEdge, C_DeadEnd, C_BadSize, C_TooLarge, C_BadHeight, C_BadOwners, C_LadderreachError, C_GameError, C_OutOfRange⟩ := {
    n_len := PySem.W.mg_none_of X G z_len,
    n_abs := PySem.W.mg_none_of X G z_abs,
    n_max := PySem.W.mg_none_of X G z_max,
    n_min := PySem.W.mg_none_of X G z_min,
    n_isinstance := PySem.W.mg_none_of X G z_isinstance,
    n_int := PySem.W.mg_none_of X G z_int,
    n_bool := PySem.W.mg_none_of X G z_bool,
    n_str := PySem.W.mg_none_of X G z_str,
    n_list := PySem.W.mg_none_of X G z_list,
    n_tuple := PySem.W.mg_none_of X G z_tuple,
    n_range := PySem.W.mg_none_of X G z_range,
    n_enumerate := PySem.W.mg_none_of X G z_enumerate,
    n_iter := PySem.W.mg_none_of X G z_iter,
    n_set := PySem.W.mg_none_of X G z_set,
    n_sorted := PySem.W.mg_none_of X G z_sorted,
    n_any := PySem.W.mg_none_of X G z_any,
    n_all := PySem.W.mg_none_of X G z_all,
    n_ValueError := PySem.W.mg_none_of X G z_ValueError,
    objc := ⟨o_gt, o_tk⟩,
    d_check_height := ⟨_, _, fun_mk (st := s_check_height) l_check_height c_check_height k_check_height, PySem.W.mg_of X G a_check_height, (fun_mk (st := s_check_height) l_check_height c_check_height k_check_height).binds (ps := ["height"]) (fun _ _ _ _ _ _ us hl => match us, hl with | [_], _ => rfl)⟩,
    d_check_count := ⟨_, _, fun_mk (st := s_check_count) l_check_count c_check_count k_check_count, PySem.W.mg_of X G a_check_count, (fun_mk (st := s_check_count) l_check_count c_check_count k_check_count).binds (ps := ["count", "most"]) (fun _ _ _ _ _ _ us hl => match us, hl with | [_, _], _ => rfl)⟩,
    d__check_edges := ⟨_, _, fun_mk (st := s__check_edges) l__check_edges c__check_edges k__check_edges, PySem.W.mg_of X G a__check_edges, (fun_mk (st := s__check_edges) l__check_edges c__check_edges k__check_edges).binds (ps := ["height", "size", "edges"]) (fun _ _ _ _ _ _ us hl => match us, hl with | [_, _, _], _ => rfl)⟩,
    d__check_owners := ⟨_, _, fun_mk (st := s__check_owners) l__check_owners c__check_owners k__check_owners, PySem.W.mg_of X G a__check_owners, (fun_mk (st := s__check_owners) l__check_owners c__check_owners k__check_owners).binds (ps := ["owners"]) (fun _ _ _ _ _ _ us hl => match us, hl with | [_], _ => rfl)⟩,
    d__check_dead_ends := ⟨_, _, fun_mk (st := s__check_dead_ends) l__check_dead_ends c__check_dead_ends k__check_dead_ends, PySem.W.mg_of X G a__check_dead_ends, (fun_mk (st := s__check_dead_ends) l__check_dead_ends c__check_dead_ends k__check_dead_ends).binds (ps := ["size", "edges"]) (fun _ _ _ _ _ _ us hl => match us, hl with | [_, _], _ => rfl)⟩,
    d_pool := ⟨_, _, fun_mk (st := s_pool) l_pool c_pool k_pool, PySem.W.mg_of X G a_pool, (fun_mk (st := s_pool) l_pool c_pool k_pool).binds (ps := ["script", "k"]) (fun _ _ _ _ _ _ us hl => match us, hl with | [_, _], _ => rfl)⟩,
    d_draw := ⟨_, _, fun_mk (st := s_draw) l_draw c_draw k_draw, PySem.W.mg_of X G a_draw, (fun_mk (st := s_draw) l_draw c_draw k_draw).binds (ps := ["pool", "many"]) (fun _ _ _ _ _ _ us hl => match us, hl with | [_, _], _ => rfl)⟩,
    d_owners := ⟨_, _, fun_mk (st := s_owners) l_owners c_owners k_owners, PySem.W.mg_of X G a_owners, (fun_mk (st := s_owners) l_owners c_owners k_owners).binds (ps := ["pool", "size"]) (fun _ _ _ _ _ _ us hl => match us, hl with | [_, _], _ => rfl)⟩,
    d_number := ⟨_, _, fun_mk (st := s_number) l_number c_number k_number, PySem.W.mg_of X G a_number, (fun_mk (st := s_number) l_number c_number k_number).binds (ps := ["value"]) (fun _ _ _ _ _ _ us hl => match us, hl with | [_], _ => rfl)⟩,
    d_is_edge := ⟨_, _, fun_mk (st := s_is_edge) l_is_edge c_is_edge k_is_edge, PySem.W.mg_of X G a_is_edge, (fun_mk (st := s_is_edge) l_is_edge c_is_edge k_is_edge).binds (ps := ["edge"]) (fun _ _ _ _ _ _ us hl => match us, hl with | [_], _ => rfl)⟩,
    d_spoilt_letters := ⟨_, _, fun_mk (st := s_spoilt_letters) l_spoilt_letters c_spoilt_letters k_spoilt_letters, PySem.W.mg_of X G a_spoilt_letters, (fun_mk (st := s_spoilt_letters) l_spoilt_letters c_spoilt_letters k_spoilt_letters).binds (ps := ["pool", "letters"]) (fun _ _ _ _ _ _ us hl => match us, hl with | [_, _], _ => rfl)⟩,
    d_any_count := ⟨_, _, fun_mk (st := s_any_count) l_any_count c_any_count k_any_count, PySem.W.mg_of X G a_any_count, (fun_mk (st := s_any_count) l_any_count c_any_count k_any_count).binds (ps := ["pool", "near", "far"]) (fun _ _ _ _ _ _ us hl => match us, hl with | [_, _, _], _ => rfl)⟩,
    d_beyond := ⟨_, _, fun_mk (st := s_beyond) l_beyond c_beyond k_beyond, PySem.W.mg_of X G a_beyond, (fun_mk (st := s_beyond) l_beyond c_beyond k_beyond).binds (ps := ["pool", "many"]) (fun _ _ _ _ _ _ us hl => match us, hl with | [_, _], _ => rfl)⟩,
    d_one_edge := ⟨_, _, fun_mk (st := s_one_edge) l_one_edge c_one_edge k_one_edge, PySem.W.mg_of X G a_one_edge, (fun_mk (st := s_one_edge) l_one_edge c_one_edge k_one_edge).binds (ps := ["pool", "top", "size", "edges"]) (fun _ _ _ _ _ _ us hl => match us, hl with | [_, _, _, _], _ => rfl)⟩,
    d_many_edges := ⟨_, _, fun_mk (st := s_many_edges) l_many_edges c_many_edges k_many_edges, PySem.W.mg_of X G a_many_edges, (fun_mk (st := s_many_edges) l_many_edges c_many_edges k_many_edges).binds (ps := ["pool", "top", "size", "edges"]) (fun _ _ _ _ _ _ us hl => match us, hl with | [_, _, _, _], _ => rfl)⟩,
    d_all_edges := ⟨_, _, fun_mk (st := s_all_edges) l_all_edges c_all_edges k_all_edges, PySem.W.mg_of X G a_all_edges, (fun_mk (st := s_all_edges) l_all_edges c_all_edges k_all_edges).binds (ps := ["pool", "top", "size"]) (fun _ _ _ _ _ _ us hl => match us, hl with | [_, _, _], _ => rfl)⟩,
    d_due_for_edges := ⟨_, _, fun_mk (st := s_due_for_edges) l_due_for_edges c_due_for_edges k_due_for_edges, PySem.W.mg_of X G a_due_for_edges, (fun_mk (st := s_due_for_edges) l_due_for_edges c_due_for_edges k_due_for_edges).binds (ps := ["height", "size", "edges"]) (fun _ _ _ _ _ _ us hl => match us, hl with | [_, _, _], _ => rfl)⟩,
    d_due_for_web := ⟨_, _, fun_mk (st := s_due_for_web) l_due_for_web c_due_for_web k_due_for_web, PySem.W.mg_of X G a_due_for_web, (fun_mk (st := s_due_for_web) l_due_for_web c_due_for_web k_due_for_web).binds (ps := ["height", "size", "edges"]) (fun _ _ _ _ _ _ us hl => match us, hl with | [_, _, _], _ => rfl)⟩,
    d_due_for_game := ⟨_, _, fun_mk (st := s_due_for_game) l_due_for_game c_due_for_game k_due_for_game, PySem.W.mg_of X G a_due_for_game, (fun_mk (st := s_due_for_game) l_due_for_game c_due_for_game k_due_for_game).binds (ps := ["height", "letters", "edges"]) (fun _ _ _ _ _ _ us hl => match us, hl with | [_, _, _], _ => rfl)⟩,
    d_game := ⟨_, _, fun_mk (st := s_game) l_game c_game k_game, PySem.W.mg_of X G a_game, (fun_mk (st := s_game) l_game c_game k_game).binds (ps := ["height", "letters", "edges"]) (fun _ _ _ _ _ _ us hl => match us, hl with | [_, _, _], _ => rfl)⟩,
    d_web := ⟨_, _, fun_mk (st := s_web) l_web c_web k_web, PySem.W.mg_of X G a_web, (fun_mk (st := s_web) l_web c_web k_web).binds (ps := ["height", "size", "edges"]) (fun _ _ _ _ _ _ us hl => match us, hl with | [_, _, _], _ => rfl)⟩,
    d_refused_as := ⟨_, _, fun_mk (st := s_refused_as) l_refused_as c_refused_as k_refused_as, PySem.W.mg_of X G a_refused_as, (fun_mk (st := s_refused_as) l_refused_as c_refused_as k_refused_as).binds (ps := ["answer", "due"]) (fun _ _ _ _ _ _ us hl => match us, hl with | [_, _], _ => rfl)⟩,
    d_in_order := ⟨_, _, fun_mk (st := s_in_order) l_in_order c_in_order k_in_order, PySem.W.mg_of X G a_in_order, (fun_mk (st := s_in_order) l_in_order c_in_order k_in_order).binds (ps := ["answer", "edges"]) (fun _ _ _ _ _ _ us hl => match us, hl with | [_, _], _ => rfl)⟩,
    d_keeps := ⟨_, _, fun_mk (st := s_keeps) l_keeps c_keeps k_keeps, PySem.W.mg_of X G a_keeps, (fun_mk (st := s_keeps) l_keeps c_keeps k_keeps).binds (ps := ["made", "height", "size", "edges"]) (fun _ _ _ _ _ _ us hl => match us, hl with | [_, _, _, _], _ => rfl)⟩,
    d_law := ⟨_, _, fun_mk (st := s_law) l_law c_law k_law, PySem.W.mg_of X G a_law, (fun_mk (st := s_law) l_law c_law k_law).binds (ps := ["script"]) (fun _ _ _ _ _ _ us hl => match us, hl with | [_], _ => rfl)⟩,
    cl_Web := ⟨pg_Web, hd_Web, po_Web, sa_Web⟩,
    mg_Web := PySem.W.mg_of X G aC_Web,
    na_Web_height := na_Web_height,
    na_Web_size := na_Web_size,
    na_Web_edges := na_Web_edges,
    na_Web___len__ := na_Web___len__,
    na_Web___length_hint__ := na_Web___length_hint__,
    mk_Web := ⟨_, _, fun_mk (st := s_W_init) l_W_init c_W_init k_W_init, ⟨mk_Web, a_W_init, i_W_init, kc_Web⟩, PySem.W.mg_of X G aC_Web, (fun_mk (st := s_W_init) l_W_init c_W_init k_W_init).binds (ps := ["self", "height", "size", "edges"]) (fun _ _ _ _ _ _ us hl => match us, hl with | [_, _, _, _], _ => rfl)⟩,
    mt_W_iter := ⟨_, _, fun_mk (st := s_W_iter) l_W_iter c_W_iter k_W_iter, ⟨a_W_iter, i_W_iter, k_W_iter⟩, (fun_mk (st := s_W_iter) l_W_iter c_W_iter k_W_iter).binds (ps := ["self"]) (fun _ _ _ _ _ _ us hl => match us, hl with | [_], _ => rfl)⟩,
    cv_Web_MOST_NODES := ⟨_, _, ⟨cr_Web_MOST_NODES, cg_Web_MOST_NODES⟩, ⟨cf_Web_MOST_NODES, cx_Web_MOST_NODES⟩⟩,
    cv_Web_MOST_EDGES := ⟨_, _, ⟨cr_Web_MOST_EDGES, cg_Web_MOST_EDGES⟩, ⟨cf_Web_MOST_EDGES, cx_Web_MOST_EDGES⟩⟩,
    cl_Game := ⟨pg_Game, hd_Game, po_Game, sa_Game⟩,
    mg_Game := PySem.W.mg_of X G aC_Game,
    na_Game_height := na_Game_height,
    na_Game_size := na_Game_size,
    na_Game_edges := na_Game_edges,
    na_Game_owners := na_Game_owners,
    na_Game___len__ := na_Game___len__,
    na_Game___length_hint__ := na_Game___length_hint__,
    mk_Game := ⟨⟨_, _, _, _, ⟨⟨_, _, _, l_G_init⟩, ⟨_, rfl, rfl⟩, ⟨_, _, _, _, _, _, h_G_init, v_G_init, p_G_init⟩, ⟨_, _, _, e_G_init⟩, Option.isSome_iff_exists.mp icl_Game, PySem.W.mg_none_of X G z_super, z_top, zt_any⟩, ⟨mk_Game, a_G_init, i_G_init, kc_Game⟩, PySem.W.mg_of X G aC_Game, .all (fun us hl => match us, hl with | [_, _, _, _], _ => rfl), _, _, _, _, _, _, _, _, rfl, l_G_init, c_G_init⟩⟩,
    mt_G_iter := ⟨_, _, fun_mk (st := s_G_iter) l_G_iter c_G_iter k_G_iter, ⟨a_G_iter, i_G_iter, k_G_iter⟩, (fun_mk (st := s_G_iter) l_G_iter c_G_iter k_G_iter).binds (ps := ["self"]) (fun _ _ _ _ _ _ us hl => match us, hl with | [_], _ => rfl)⟩,
    su_Game_init := ⟨⟨_, _, sm_Game_init, st_Game_init, sn_Game_init, fun_mk (st := s_W_init) l_W_init c_W_init k_W_init, (fun_mk (st := s_W_init) l_W_init c_W_init k_W_init).binds (ps := ["self", "height", "size", "edges"]) (fun _ _ _ _ _ _ us hl => match us, hl with | [_, _, _, _], _ => rfl)⟩, smr_Game, by decide⟩,
    mg_BadEdge := PySem.W.mg_of X G aN_BadEdge,
    e_BadEdge := { gC := PySem.W.mg_of X G aN_BadEdge, T := ⟨⟨_, _, _, _, _, _, _, _, _, _, _, _, _, _, _, x_BadEdge, r_BadEdge⟩, sa_BadEdge, xb_BadEdge, tc_BadEdge, kc_BadEdge⟩, E := ⟨ic_BadEdge, ga_BadEdge, gg_BadEdge, xb_BadEdge, ac_BadEdge, mo_BadEdge, hd_BadEdge⟩, X := ⟨ga_BadEdge, gg_BadEdge, xb_BadEdge, hd_BadEdge⟩, no := no_BadEdge, sm := sm_BadEdge, mr := mr_BadEdge, sv := sv_BadEdge, ini := ⟨_, _, _, _, a_BadEdge_init, t_BadEdge_init, ⟨⟨_, _, _, l_BadEdge_init⟩, ⟨_, rfl, rfl⟩, ⟨_, _, _, _, _, _, h_BadEdge_init, v_BadEdge_init, p_BadEdge_init⟩, ⟨_, _, _, e_BadEdge_init⟩, Option.isSome_iff_exists.mp ic_BadEdge, PySem.W.mg_none_of X G z_super, z_top, zt_any⟩, .all (fun us hl => match us, hl with | [_, _], _ => rfl), _, _, _, _, _, _, _, _, rfl, l_BadEdge_init, c_BadEdge_init⟩ },
    mg_DuplicateEdge := PySem.W.mg_of X G aN_DuplicateEdge,
    e_DuplicateEdge := { gC := PySem.W.mg_of X G aN_DuplicateEdge, T := ⟨⟨_, _, _, _, _, _, _, _, _, _, _, _, _, _, _, x_DuplicateEdge, r_DuplicateEdge⟩, sa_DuplicateEdge, xb_DuplicateEdge, tc_DuplicateEdge, kc_DuplicateEdge⟩, E := ⟨ic_DuplicateEdge, ga_DuplicateEdge, gg_DuplicateEdge, xb_DuplicateEdge, ac_DuplicateEdge, mo_DuplicateEdge, hd_DuplicateEdge⟩, X := ⟨ga_DuplicateEdge, gg_DuplicateEdge, xb_DuplicateEdge, hd_DuplicateEdge⟩, no := no_DuplicateEdge, sm := sm_DuplicateEdge, mr := mr_DuplicateEdge, sv := sv_DuplicateEdge, ini := ⟨_, _, _, _, a_DuplicateEdge_init, t_DuplicateEdge_init, ⟨⟨_, _, _, l_DuplicateEdge_init⟩, ⟨_, rfl, rfl⟩, ⟨_, _, _, _, _, _, h_DuplicateEdge_init, v_DuplicateEdge_init, p_DuplicateEdge_init⟩, ⟨_, _, _, e_DuplicateEdge_init⟩, Option.isSome_iff_exists.mp ic_DuplicateEdge, PySem.W.mg_none_of X G z_super, z_top, zt_any⟩, .all (fun us hl => match us, hl with | [_, _], _ => rfl), _, _, _, _, _, _, _, _, rfl, l_DuplicateEdge_init, c_DuplicateEdge_init⟩ },
    mg_DeadEnd := PySem.W.mg_of X G aN_DeadEnd,
    e_DeadEnd := { gC := PySem.W.mg_of X G aN_DeadEnd, T := ⟨⟨_, _, _, _, _, _, _, _, _, _, _, _, _, _, _, x_DeadEnd, r_DeadEnd⟩, sa_DeadEnd, xb_DeadEnd, tc_DeadEnd, kc_DeadEnd⟩, E := ⟨ic_DeadEnd, ga_DeadEnd, gg_DeadEnd, xb_DeadEnd, ac_DeadEnd, mo_DeadEnd, hd_DeadEnd⟩, X := ⟨ga_DeadEnd, gg_DeadEnd, xb_DeadEnd, hd_DeadEnd⟩, no := no_DeadEnd, sm := sm_DeadEnd, mr := mr_DeadEnd, sv := sv_DeadEnd, ini := ⟨_, _, _, _, a_DeadEnd_init, t_DeadEnd_init, ⟨⟨_, _, _, l_DeadEnd_init⟩, ⟨_, rfl, rfl⟩, ⟨_, _, _, _, _, _, h_DeadEnd_init, v_DeadEnd_init, p_DeadEnd_init⟩, ⟨_, _, _, e_DeadEnd_init⟩, Option.isSome_iff_exists.mp ic_DeadEnd, PySem.W.mg_none_of X G z_super, z_top, zt_any⟩, .all (fun us hl => match us, hl with | [_, _], _ => rfl), _, _, _, _, _, _, _, _, rfl, l_DeadEnd_init, c_DeadEnd_init⟩ },
    mg_BadSize := PySem.W.mg_of X G aN_BadSize,
    r_BadSize := ⟨xP_BadSize, PySem.W.mg_of X G aN_BadSize, kc_BadSize, xb_BadSize, tc_BadSize, ⟨ic_BadSize, ga_BadSize, gg_BadSize, xb_BadSize, ac_BadSize, mo_BadSize, hd_BadSize⟩⟩,
    mg_TooLarge := PySem.W.mg_of X G aN_TooLarge,
    r_TooLarge := ⟨xP_TooLarge, PySem.W.mg_of X G aN_TooLarge, kc_TooLarge, xb_TooLarge, tc_TooLarge, ⟨ic_TooLarge, ga_TooLarge, gg_TooLarge, xb_TooLarge, ac_TooLarge, mo_TooLarge, hd_TooLarge⟩⟩,
    mg_BadHeight := PySem.W.mg_of X G aN_BadHeight,
    r_BadHeight := ⟨xP_BadHeight, PySem.W.mg_of X G aN_BadHeight, kc_BadHeight, xb_BadHeight, tc_BadHeight, ⟨ic_BadHeight, ga_BadHeight, gg_BadHeight, xb_BadHeight, ac_BadHeight, mo_BadHeight, hd_BadHeight⟩⟩,
    mg_BadOwners := PySem.W.mg_of X G aN_BadOwners,
    r_BadOwners := ⟨xP_BadOwners, PySem.W.mg_of X G aN_BadOwners, kc_BadOwners, xb_BadOwners, tc_BadOwners, ⟨ic_BadOwners, ga_BadOwners, gg_BadOwners, xb_BadOwners, ac_BadOwners, mo_BadOwners, hd_BadOwners⟩⟩,
    ai_Web := ai_Web,
    mo_Web := mo_Web,
    ai_Game := ai_Game,
    mo_Game := mo_Game,
    kit_Web_Web := kit_Web_Web,
    kit_Game_Web := kit_Game_Web,
    kit_Game_Game := kit_Game_Game,
    mg_LadderreachError := PySem.W.mg_of X G aN_LadderreachError,
    mg_GameError := PySem.W.mg_of X G aN_GameError,
    mg_OutOfRange := PySem.W.mg_of X G aN_OutOfRange,
    kit_BadHeight_BadHeight := kit_BadHeight_BadHeight,
    kit_BadHeight_BadSize := kit_BadHeight_BadSize,
    kit_BadHeight_TooLarge := kit_BadHeight_TooLarge,
    kit_BadHeight_BadOwners := kit_BadHeight_BadOwners,
    kit_BadHeight_BadEdge := kit_BadHeight_BadEdge,
    kit_BadHeight_DuplicateEdge := kit_BadHeight_DuplicateEdge,
    kit_BadHeight_DeadEnd := kit_BadHeight_DeadEnd,
    kit_BadHeight_GameError := kit_BadHeight_GameError,
    kit_BadHeight_OutOfRange := kit_BadHeight_OutOfRange,
    kit_BadHeight_ValueError := kit_BadHeight_ValueError,
    exm_BadHeight_LadderreachError := exm_BadHeight_LadderreachError,
    kit_BadSize_BadHeight := kit_BadSize_BadHeight,
    kit_BadSize_BadSize := kit_BadSize_BadSize,
    kit_BadSize_TooLarge := kit_BadSize_TooLarge,
    kit_BadSize_BadOwners := kit_BadSize_BadOwners,
    kit_BadSize_BadEdge := kit_BadSize_BadEdge,
    kit_BadSize_DuplicateEdge := kit_BadSize_DuplicateEdge,
    kit_BadSize_DeadEnd := kit_BadSize_DeadEnd,
    kit_BadSize_GameError := kit_BadSize_GameError,
    kit_BadSize_OutOfRange := kit_BadSize_OutOfRange,
    kit_BadSize_ValueError := kit_BadSize_ValueError,
    exm_BadSize_LadderreachError := exm_BadSize_LadderreachError,
    kit_TooLarge_BadHeight := kit_TooLarge_BadHeight,
    kit_TooLarge_BadSize := kit_TooLarge_BadSize,
    kit_TooLarge_TooLarge := kit_TooLarge_TooLarge,
    kit_TooLarge_BadOwners := kit_TooLarge_BadOwners,
    kit_TooLarge_BadEdge := kit_TooLarge_BadEdge,
    kit_TooLarge_DuplicateEdge := kit_TooLarge_DuplicateEdge,
    kit_TooLarge_DeadEnd := kit_TooLarge_DeadEnd,
    kit_TooLarge_GameError := kit_TooLarge_GameError,
    kit_TooLarge_OutOfRange := kit_TooLarge_OutOfRange,
    kit_TooLarge_ValueError := kit_TooLarge_ValueError,
    exm_TooLarge_LadderreachError := exm_TooLarge_LadderreachError,
    kit_BadOwners_BadHeight := kit_BadOwners_BadHeight,
    kit_BadOwners_BadSize := kit_BadOwners_BadSize,
    kit_BadOwners_TooLarge := kit_BadOwners_TooLarge,
    kit_BadOwners_BadOwners := kit_BadOwners_BadOwners,
    kit_BadOwners_BadEdge := kit_BadOwners_BadEdge,
    kit_BadOwners_DuplicateEdge := kit_BadOwners_DuplicateEdge,
    kit_BadOwners_DeadEnd := kit_BadOwners_DeadEnd,
    kit_BadOwners_GameError := kit_BadOwners_GameError,
    kit_BadOwners_OutOfRange := kit_BadOwners_OutOfRange,
    kit_BadOwners_ValueError := kit_BadOwners_ValueError,
    exm_BadOwners_LadderreachError := exm_BadOwners_LadderreachError,
    kit_BadEdge_BadHeight := kit_BadEdge_BadHeight,
    kit_BadEdge_BadSize := kit_BadEdge_BadSize,
    kit_BadEdge_TooLarge := kit_BadEdge_TooLarge,
    kit_BadEdge_BadOwners := kit_BadEdge_BadOwners,
    kit_BadEdge_BadEdge := kit_BadEdge_BadEdge,
    kit_BadEdge_DuplicateEdge := kit_BadEdge_DuplicateEdge,
    kit_BadEdge_DeadEnd := kit_BadEdge_DeadEnd,
    kit_BadEdge_GameError := kit_BadEdge_GameError,
    kit_BadEdge_OutOfRange := kit_BadEdge_OutOfRange,
    kit_BadEdge_ValueError := kit_BadEdge_ValueError,
    exm_BadEdge_LadderreachError := exm_BadEdge_LadderreachError,
    kit_DuplicateEdge_BadHeight := kit_DuplicateEdge_BadHeight,
    kit_DuplicateEdge_BadSize := kit_DuplicateEdge_BadSize,
    kit_DuplicateEdge_TooLarge := kit_DuplicateEdge_TooLarge,
    kit_DuplicateEdge_BadOwners := kit_DuplicateEdge_BadOwners,
    kit_DuplicateEdge_BadEdge := kit_DuplicateEdge_BadEdge,
    kit_DuplicateEdge_DuplicateEdge := kit_DuplicateEdge_DuplicateEdge,
    kit_DuplicateEdge_DeadEnd := kit_DuplicateEdge_DeadEnd,
    kit_DuplicateEdge_GameError := kit_DuplicateEdge_GameError,
    kit_DuplicateEdge_OutOfRange := kit_DuplicateEdge_OutOfRange,
    kit_DuplicateEdge_ValueError := kit_DuplicateEdge_ValueError,
    exm_DuplicateEdge_LadderreachError := exm_DuplicateEdge_LadderreachError,
    kit_DeadEnd_BadHeight := kit_DeadEnd_BadHeight,
    kit_DeadEnd_BadSize := kit_DeadEnd_BadSize,
    kit_DeadEnd_TooLarge := kit_DeadEnd_TooLarge,
    kit_DeadEnd_BadOwners := kit_DeadEnd_BadOwners,
    kit_DeadEnd_BadEdge := kit_DeadEnd_BadEdge,
    kit_DeadEnd_DuplicateEdge := kit_DeadEnd_DuplicateEdge,
    kit_DeadEnd_DeadEnd := kit_DeadEnd_DeadEnd,
    kit_DeadEnd_GameError := kit_DeadEnd_GameError,
    kit_DeadEnd_OutOfRange := kit_DeadEnd_OutOfRange,
    kit_DeadEnd_ValueError := kit_DeadEnd_ValueError,
    exm_DeadEnd_LadderreachError := exm_DeadEnd_LadderreachError }
theorem walk {l : PySem.W.OpenLaw} {q : Program} {loose : List Str} {XP : (Str → Option Value) → Heap → Prop} {YP : World → Heap → Prop} {d : DefRec} {K : Params → PySem.W.Frag} (hn : l.most = some 63) (hdf : d.params.defaults = []) (hd : d.name = "law")
    (hY : ∀ (w : World) (h : Heap), YP w h → (K w.params).In h)
    (F : ∀ (w : World) (mg : Str → Option Value) (h : Heap), (K w.params).In h → h.Ns mainGlobals mg → ∃ c, Txt l.prog (K w.params) mg c) :
    PySem.W.WalkO q loose XP YP l.row.toRowW d [] (fun f vs => PySem.call f vs) :=
  L2.walk_of (n := 63) (k := lawLevel) (x := "script") (CX := fun _ => CX0) (sp := fun w => spLaw (K w.params)) hn (by decide) hdf ⟨rfl, by decide, by decide⟩ hY
    (fun w mg fa h KX G hmg => by
      obtain ⟨ζ, T⟩ := F w mg h KX G
      obtain ⟨f, fd, Ff, hm, b⟩ := T.d_law.ex
      rw [hd, hm] at hmg
      cases hmg
      refine ⟨fd, fun s v => ?_, fun base _ _ => ok_law T Ff⟩
      obtain ⟨oc, od, kV, doc, pm, an, cdv, ct, osl, rfl, lk, hcd⟩ := Ff.ex
      exact .of_eq rfl)
    (fun _ _ a ns hl _ hS => ⟨a, ns, rfl, hS, fun _ => rfl⟩) fun _ _ _ _ _ z => z
def loose0 : List PySem.Str := [("_wall" : PySem.Str), ("LadderreachError" : PySem.Str), ("BadHeight" : PySem.Str), ("BadSize" : PySem.Str), ("TooLarge" : PySem.Str), ("GameError" : PySem.Str), ("BadOwners" : PySem.Str), ("BadEdge" : PySem.Str), ("DuplicateEdge" : PySem.Str), ("DeadEnd" : PySem.Str), ("OutOfRange" : PySem.Str), ("NoSuchNode" : PySem.Str), ("check_height" : PySem.Str), ("check_count" : PySem.Str), ("check_node" : PySem.Str), ("Web" : PySem.Str), ("_check_edges" : PySem.Str), ("Game" : PySem.Str), ("_check_owners" : PySem.Str), ("_check_dead_ends" : PySem.Str)]
def loose1 : List PySem.Str := [("_law_pool" : PySem.Str), ("_law_draw" : PySem.Str), ("_law_owners" : PySem.Str), ("_law_number" : PySem.Str), ("_law_is_edge" : PySem.Str), ("_law_spoilt_letters" : PySem.Str), ("_law_any_count" : PySem.Str), ("_law_beyond" : PySem.Str), ("_law_one_edge" : PySem.Str), ("_law_many_edges" : PySem.Str), ("_law_all_edges" : PySem.Str), ("_law_due_for_edges" : PySem.Str), ("_law_due_for_web" : PySem.Str), ("_law_due_for_game" : PySem.Str), ("_law_game" : PySem.Str), ("_law_web" : PySem.Str), ("_law_refused_as" : PySem.Str), ("_law_in_order" : PySem.Str), ("_law_keeps" : PySem.Str)]
def looseNames : List PySem.Str := loose0 ++ loose1
end LR
section
open PySem PySem.W PySem.Calls PyProof.Rows HandSHeadRun
set_option maxRecDepth 100000
set_option maxHeartbeats 0
local macro_rules
  | `(tactic| o_head ($_ $K $as $e)) => `(tactic| (have z := ‹(Params → Frag) → List Addr → OpenRow.Holds _›; exact z $K $as))
theorem LR.box (Z : (Params → Frag) → List Addr → OpenRow.Holds (OpenLaw.row PySem.Challenge.rw_ladderreach_k01_web_and_game_refusals)) : OpenRow.Holds (OpenLaw.row PySem.Challenge.rw_ladderreach_k01_web_and_game_refusals) := by
  w_on; k_head
noncomputable abbrev LR.KK : Params → Frag := LR.box.heap_1
noncomputable def LR.asK : List Addr := (LR.KK { strHash := fun _ => 0, shareClass := fun a => a, mergeTok := fun t => t, idOf := fun _ => 0, idOfShared := fun _ _ => 0, followText := fun _ => false, idOfImm := fun _ => 0 }).map (·.1)
theorem LR.eK : ∀ P, LR.asK = (LR.KK P).map (·.1) := fun _ => by kernel_rfl
abbrev LR.rr : OpenRow := OpenLaw.row PySem.Challenge.rw_ladderreach_k01_web_and_game_refusals
abbrev LR.qq : Program := view LR.rr.prog [44]
theorem LR.run0 : ∀ w, HandSHeadRun.RunEq LR.rr LR.qq (kHook LR.KK LR.asK LR.eK) (fun s => List.map (HandSHeadRun.getT s) LR.asK) 20000 LR.looseNames w := by
  intro w os; kernel_rfl
theorem LR.hx_w : LR.rr.toRowW.promised := by w_on; w_witness2
theorem LR.hx_b : LR.rr.prog.bare := ⟨rfl, rfl, rfl, rfl, rfl, by decide +kernel⟩
theorem LR.hx_e : opening LR.rr.prog = plainProg LR.rr.prog.main.scope.names := by kernel_rfl
theorem LR.hx_f : ∀ s, fenceModules? LR.rr.prog s = some s := fun s => by kernel_rfl
theorem LR.hx_def : defOf LR.qq LR.rr.name = some (HandSHeadRun.topDef LR.rr.prog 44, []) := by kernel_rfl
theorem LR.hx_p : LR.rr.prog.theDef LR.rr.name = some ((HandSHeadRun.topDef LR.rr.prog 44).params, (HandSHeadRun.topDef LR.rr.prog 44).body, (HandSHeadRun.topDef LR.rr.prog 44).scope) := by kernel_rfl
theorem LR.hx_k : kwWritten? (HandSHeadRun.topDef LR.rr.prog 44).params.kwonlyargs (HandSHeadRun.topDef LR.rr.prog 44).params.kw_defaults = some [] := by kernel_rfl
theorem LR.hx_wr : (!LR.rr.writes || LR.rr.records.isEmpty) = true := by rfl
theorem LR.hx_ok : (chainsOk LR.qq && opensWell LR.rr.prog && (frees LR.rr.toRowW && LR.rr.within.isEmpty)) = true := by decide +kernel
theorem LR.factsK : ∀ (w : World) (mg : Str → Option Value) (h : Heap), (LR.box.heap_1 w.params).In h → h.Ns mainGlobals mg → ∃ c, LR.Txt PySem.Challenge.rw_ladderreach_k01_web_and_game_refusals.prog (LR.box.heap_1 w.params) mg c := by
    intro w mg h KX G
    refine' ⟨_, LR.all_mk (P := PySem.Challenge.rw_ladderreach_k01_web_and_game_refusals.prog) KX G ?z_super ?zt_any ?z_top ?z_len ?z_abs ?z_max ?z_min ?z_isinstance ?z_int ?z_bool ?z_str ?z_list ?z_tuple ?z_range ?z_enumerate ?z_iter ?z_set ?z_sorted ?z_any ?z_all ?z_ValueError ?o_gt ?o_tk ?a_check_height ?l_check_height ?c_check_height ?k_check_height ?a_check_count ?l_check_count ?c_check_count ?k_check_count ?a__check_edges ?l__check_edges ?c__check_edges ?k__check_edges ?a__check_owners ?l__check_owners ?c__check_owners ?k__check_owners ?a__check_dead_ends ?l__check_dead_ends ?c__check_dead_ends ?k__check_dead_ends ?a_pool ?l_pool ?c_pool ?k_pool ?a_draw ?l_draw ?c_draw ?k_draw ?a_owners ?l_owners ?c_owners ?k_owners ?a_number ?l_number ?c_number ?k_number ?a_is_edge ?l_is_edge ?c_is_edge ?k_is_edge ?a_spoilt_letters ?l_spoilt_letters ?c_spoilt_letters ?k_spoilt_letters ?a_any_count ?l_any_count ?c_any_count ?k_any_count ?a_beyond ?l_beyond ?c_beyond ?k_beyond ?a_one_edge ?l_one_edge ?c_one_edge ?k_one_edge ?a_many_edges ?l_many_edges ?c_many_edges ?k_many_edges ?a_all_edges ?l_all_edges ?c_all_edges ?k_all_edges ?a_due_for_edges ?l_due_for_edges ?c_due_for_edges ?k_due_for_edges ?a_due_for_web ?l_due_for_web ?c_due_for_web ?k_due_for_web ?a_due_for_game ?l_due_for_game ?c_due_for_game ?k_due_for_game ?a_game ?l_game ?c_game ?k_game ?a_web ?l_web ?c_web ?k_web ?a_refused_as ?l_refused_as ?c_refused_as ?k_refused_as ?a_in_order ?l_in_order ?c_in_order ?k_in_order ?a_keeps ?l_keeps ?c_keeps ?k_keeps ?a_law ?l_law ?c_law ?k_law ?aC_Web ?pg_Web ?hd_Web ?po_Web ?sa_Web ?na_Web_height ?na_Web_size ?na_Web_edges ?na_Web___len__ ?na_Web___length_hint__ ?mk_Web ?kc_Web ?a_W_init ?i_W_init ?l_W_init ?c_W_init ?k_W_init ?a_W_iter ?i_W_iter ?l_W_iter ?c_W_iter ?k_W_iter ?cr_Web_MOST_NODES ?cg_Web_MOST_NODES ?cf_Web_MOST_NODES ?cx_Web_MOST_NODES ?cr_Web_MOST_EDGES ?cg_Web_MOST_EDGES ?cf_Web_MOST_EDGES ?cx_Web_MOST_EDGES ?aC_Game ?pg_Game ?hd_Game ?po_Game ?sa_Game ?na_Game_height ?na_Game_size ?na_Game_edges ?na_Game_owners ?na_Game___len__ ?na_Game___length_hint__ ?mk_Game ?kc_Game ?a_G_init ?i_G_init ?l_G_init ?c_G_init ?k_G_init ?h_G_init ?v_G_init ?p_G_init ?e_G_init ?icl_Game ?a_G_iter ?i_G_iter ?l_G_iter ?c_G_iter ?k_G_iter ?sm_Game_init ?st_Game_init ?sn_Game_init ?smr_Game ?aN_BadEdge ?x_BadEdge ?r_BadEdge ?sa_BadEdge ?xb_BadEdge ?tc_BadEdge ?kc_BadEdge ?ga_BadEdge ?gg_BadEdge ?ac_BadEdge ?mo_BadEdge ?hd_BadEdge ?ic_BadEdge ?no_BadEdge ?sv_BadEdge ?mr_BadEdge ?sm_BadEdge ?a_BadEdge_init ?t_BadEdge_init ?l_BadEdge_init ?c_BadEdge_init ?h_BadEdge_init ?v_BadEdge_init ?p_BadEdge_init ?e_BadEdge_init ?aN_DuplicateEdge ?x_DuplicateEdge ?r_DuplicateEdge ?sa_DuplicateEdge ?xb_DuplicateEdge ?tc_DuplicateEdge ?kc_DuplicateEdge ?ga_DuplicateEdge ?gg_DuplicateEdge ?ac_DuplicateEdge ?mo_DuplicateEdge ?hd_DuplicateEdge ?ic_DuplicateEdge ?no_DuplicateEdge ?sv_DuplicateEdge ?mr_DuplicateEdge ?sm_DuplicateEdge ?a_DuplicateEdge_init ?t_DuplicateEdge_init ?l_DuplicateEdge_init ?c_DuplicateEdge_init ?h_DuplicateEdge_init ?v_DuplicateEdge_init ?p_DuplicateEdge_init ?e_DuplicateEdge_init ?aN_DeadEnd ?x_DeadEnd ?r_DeadEnd ?sa_DeadEnd ?xb_DeadEnd ?tc_DeadEnd ?kc_DeadEnd ?ga_DeadEnd ?gg_DeadEnd ?ac_DeadEnd ?mo_DeadEnd ?hd_DeadEnd ?ic_DeadEnd ?no_DeadEnd ?sv_DeadEnd ?mr_DeadEnd ?sm_DeadEnd ?a_DeadEnd_init ?t_DeadEnd_init ?l_DeadEnd_init ?c_DeadEnd_init ?h_DeadEnd_init ?v_DeadEnd_init ?p_DeadEnd_init ?e_DeadEnd_init ?aN_BadSize ?xP_BadSize ?kc_BadSize ?xb_BadSize ?tc_BadSize ?ic_BadSize ?ga_BadSize ?gg_BadSize ?ac_BadSize ?mo_BadSize ?hd_BadSize ?aN_TooLarge ?xP_TooLarge ?kc_TooLarge ?xb_TooLarge ?tc_TooLarge ?ic_TooLarge ?ga_TooLarge ?gg_TooLarge ?ac_TooLarge ?mo_TooLarge ?hd_TooLarge ?aN_BadHeight ?xP_BadHeight ?kc_BadHeight ?xb_BadHeight ?tc_BadHeight ?ic_BadHeight ?ga_BadHeight ?gg_BadHeight ?ac_BadHeight ?mo_BadHeight ?hd_BadHeight ?aN_BadOwners ?xP_BadOwners ?kc_BadOwners ?xb_BadOwners ?tc_BadOwners ?ic_BadOwners ?ga_BadOwners ?gg_BadOwners ?ac_BadOwners ?mo_BadOwners ?hd_BadOwners ?ai_Web ?mo_Web ?ai_Game ?mo_Game ?kit_Web_Web ?kit_Game_Web ?kit_Game_Game ?aN_LadderreachError ?aN_GameError ?aN_OutOfRange ?kit_BadHeight_BadHeight ?kit_BadHeight_BadSize ?kit_BadHeight_TooLarge ?kit_BadHeight_BadOwners ?kit_BadHeight_BadEdge ?kit_BadHeight_DuplicateEdge ?kit_BadHeight_DeadEnd ?kit_BadHeight_GameError ?kit_BadHeight_OutOfRange ?kit_BadHeight_ValueError ?exm_BadHeight_LadderreachError ?kit_BadSize_BadHeight ?kit_BadSize_BadSize ?kit_BadSize_TooLarge ?kit_BadSize_BadOwners ?kit_BadSize_BadEdge ?kit_BadSize_DuplicateEdge ?kit_BadSize_DeadEnd ?kit_BadSize_GameError ?kit_BadSize_OutOfRange ?kit_BadSize_ValueError ?exm_BadSize_LadderreachError ?kit_TooLarge_BadHeight ?kit_TooLarge_BadSize ?kit_TooLarge_TooLarge ?kit_TooLarge_BadOwners ?kit_TooLarge_BadEdge ?kit_TooLarge_DuplicateEdge ?kit_TooLarge_DeadEnd ?kit_TooLarge_GameError ?kit_TooLarge_OutOfRange ?kit_TooLarge_ValueError ?exm_TooLarge_LadderreachError ?kit_BadOwners_BadHeight ?kit_BadOwners_BadSize ?kit_BadOwners_TooLarge ?kit_BadOwners_BadOwners ?kit_BadOwners_BadEdge ?kit_BadOwners_DuplicateEdge ?kit_BadOwners_DeadEnd ?kit_BadOwners_GameError ?kit_BadOwners_OutOfRange ?kit_BadOwners_ValueError ?exm_BadOwners_LadderreachError ?kit_BadEdge_BadHeight ?kit_BadEdge_BadSize ?kit_BadEdge_TooLarge ?kit_BadEdge_BadOwners ?kit_BadEdge_BadEdge ?kit_BadEdge_DuplicateEdge ?kit_BadEdge_DeadEnd ?kit_BadEdge_GameError ?kit_BadEdge_OutOfRange ?kit_BadEdge_ValueError ?exm_BadEdge_LadderreachError ?kit_DuplicateEdge_BadHeight ?kit_DuplicateEdge_BadSize ?kit_DuplicateEdge_TooLarge ?kit_DuplicateEdge_BadOwners ?kit_DuplicateEdge_BadEdge ?kit_DuplicateEdge_DuplicateEdge ?kit_DuplicateEdge_DeadEnd ?kit_DuplicateEdge_GameError ?kit_DuplicateEdge_OutOfRange ?kit_DuplicateEdge_ValueError ?exm_DuplicateEdge_LadderreachError ?kit_DeadEnd_BadHeight ?kit_DeadEnd_BadSize ?kit_DeadEnd_TooLarge ?kit_DeadEnd_BadOwners ?kit_DeadEnd_BadEdge ?kit_DeadEnd_DuplicateEdge ?kit_DeadEnd_DeadEnd ?kit_DeadEnd_GameError ?kit_DeadEnd_OutOfRange ?kit_DeadEnd_ValueError ?exm_DeadEnd_LadderreachError⟩
    (case z_super => k_is)
    (case zt_any => k_is)
    (case z_top => first | rfl | decide +kernel)
    (case z_len => k_is)
    (case z_abs => k_is)
    (case z_max => k_is)
    (case z_min => k_is)
    (case z_isinstance => k_is)
    (case z_int => k_is)
    (case z_bool => k_is)
    (case z_str => k_is)
    (case z_list => k_is)
    (case z_tuple => k_is)
    (case z_range => k_is)
    (case z_enumerate => k_is)
    (case z_iter => k_is)
    (case z_set => k_is)
    (case z_sorted => k_is)
    (case z_any => k_is)
    (case z_all => k_is)
    (case z_ValueError => k_is)
    (case o_gt => k_is)
    (case o_tk => k_is)
    (case a_check_height => k_is)
    (case l_check_height => k_is)
    (case c_check_height => k_is)
    (case k_check_height => k_is)
    (case a_check_count => k_is)
    (case l_check_count => k_is)
    (case c_check_count => k_is)
    (case k_check_count => k_is)
    (case a__check_edges => k_is)
    (case l__check_edges => k_is)
    (case c__check_edges => k_is)
    (case k__check_edges => k_is)
    (case a__check_owners => k_is)
    (case l__check_owners => k_is)
    (case c__check_owners => k_is)
    (case k__check_owners => k_is)
    (case a__check_dead_ends => k_is)
    (case l__check_dead_ends => k_is)
    (case c__check_dead_ends => k_is)
    (case k__check_dead_ends => k_is)
    (case a_pool => k_is)
    (case l_pool => k_is)
    (case c_pool => k_is)
    (case k_pool => k_is)
    (case a_draw => k_is)
    (case l_draw => k_is)
    (case c_draw => k_is)
    (case k_draw => k_is)
    (case a_owners => k_is)
    (case l_owners => k_is)
    (case c_owners => k_is)
    (case k_owners => k_is)
    (case a_number => k_is)
    (case l_number => k_is)
    (case c_number => k_is)
    (case k_number => k_is)
    (case a_is_edge => k_is)
    (case l_is_edge => k_is)
    (case c_is_edge => k_is)
    (case k_is_edge => k_is)
    (case a_spoilt_letters => k_is)
    (case l_spoilt_letters => k_is)
    (case c_spoilt_letters => k_is)
    (case k_spoilt_letters => k_is)
    (case a_any_count => k_is)
    (case l_any_count => k_is)
    (case c_any_count => k_is)
    (case k_any_count => k_is)
    (case a_beyond => k_is)
    (case l_beyond => k_is)
    (case c_beyond => k_is)
    (case k_beyond => k_is)
    (case a_one_edge => k_is)
    (case l_one_edge => k_is)
    (case c_one_edge => k_is)
    (case k_one_edge => k_is)
    (case a_many_edges => k_is)
    (case l_many_edges => k_is)
    (case c_many_edges => k_is)
    (case k_many_edges => k_is)
    (case a_all_edges => k_is)
    (case l_all_edges => k_is)
    (case c_all_edges => k_is)
    (case k_all_edges => k_is)
    (case a_due_for_edges => k_is)
    (case l_due_for_edges => k_is)
    (case c_due_for_edges => k_is)
    (case k_due_for_edges => k_is)
    (case a_due_for_web => k_is)
    (case l_due_for_web => k_is)
    (case c_due_for_web => k_is)
    (case k_due_for_web => k_is)
    (case a_due_for_game => k_is)
    (case l_due_for_game => k_is)
    (case c_due_for_game => k_is)
    (case k_due_for_game => k_is)
    (case a_game => k_is)
    (case l_game => k_is)
    (case c_game => k_is)
    (case k_game => k_is)
    (case a_web => k_is)
    (case l_web => k_is)
    (case c_web => k_is)
    (case k_web => k_is)
    (case a_refused_as => k_is)
    (case l_refused_as => k_is)
    (case c_refused_as => k_is)
    (case k_refused_as => k_is)
    (case a_in_order => k_is)
    (case l_in_order => k_is)
    (case c_in_order => k_is)
    (case k_in_order => k_is)
    (case a_keeps => k_is)
    (case l_keeps => k_is)
    (case c_keeps => k_is)
    (case k_keeps => k_is)
    (case a_law => k_is)
    (case l_law => k_is)
    (case c_law => k_is)
    (case k_law => k_is)
    (case aC_Web => k_is)
    (case pg_Web => k_is)
    (case hd_Web => k_is)
    (case po_Web => k_is)
    (case sa_Web => k_is)
    (case na_Web_height => k_is)
    (case na_Web_size => k_is)
    (case na_Web_edges => k_is)
    (case na_Web___len__ => k_is)
    (case na_Web___length_hint__ => k_is)
    (case mk_Web => k_is)
    (case kc_Web => k_is)
    (case a_W_init => k_is)
    (case i_W_init => k_is)
    (case l_W_init => k_is)
    (case c_W_init => k_is)
    (case k_W_init => k_is)
    (case a_W_iter => k_is)
    (case i_W_iter => k_is)
    (case l_W_iter => k_is)
    (case c_W_iter => k_is)
    (case k_W_iter => k_is)
    (case cr_Web_MOST_NODES => k_is)
    (case cg_Web_MOST_NODES => k_is)
    (case cf_Web_MOST_NODES => k_is)
    (case cx_Web_MOST_NODES => exact ⟨_, rfl⟩)
    (case cr_Web_MOST_EDGES => k_is)
    (case cg_Web_MOST_EDGES => k_is)
    (case cf_Web_MOST_EDGES => k_is)
    (case cx_Web_MOST_EDGES => exact ⟨_, rfl⟩)
    (case aC_Game => k_is)
    (case pg_Game => k_is)
    (case hd_Game => k_is)
    (case po_Game => k_is)
    (case sa_Game => k_is)
    (case na_Game_height => k_is)
    (case na_Game_size => k_is)
    (case na_Game_edges => k_is)
    (case na_Game_owners => k_is)
    (case na_Game___len__ => k_is)
    (case na_Game___length_hint__ => k_is)
    (case mk_Game => k_is)
    (case kc_Game => k_is)
    (case a_G_init => k_is)
    (case i_G_init => k_is)
    (case l_G_init => k_is)
    (case c_G_init => k_is)
    (case k_G_init => k_is)
    (case h_G_init => k_is)
    (case v_G_init => rfl)
    (case p_G_init => first | rfl | decide +kernel)
    (case e_G_init => k_is)
    (case icl_Game => k_is)
    (case a_G_iter => k_is)
    (case i_G_iter => k_is)
    (case l_G_iter => k_is)
    (case c_G_iter => k_is)
    (case k_G_iter => k_is)
    (case sm_Game_init => first | ks_is | kernel_rfl)
    (case st_Game_init => k_is)
    (case sn_Game_init => k_is)
    (case smr_Game => first | k_is | kernel_rfl)
    (case aN_BadEdge => k_is)
    (case x_BadEdge => k_is)
    (case r_BadEdge => first | rfl | decide +kernel)
    (case sa_BadEdge => k_is)
    (case xb_BadEdge => k_is)
    (case tc_BadEdge => k_is)
    (case kc_BadEdge => k_is)
    (case ga_BadEdge => k_is)
    (case gg_BadEdge => k_is)
    (case ac_BadEdge => k_is)
    (case mo_BadEdge => k_is)
    (case hd_BadEdge => k_is)
    (case ic_BadEdge => k_is)
    (case no_BadEdge => k_is)
    (case sv_BadEdge => k_is)
    (case mr_BadEdge => first | k_is | kernel_rfl)
    (case sm_BadEdge => first | ks_is | kernel_rfl)
    (case a_BadEdge_init => k_is)
    (case t_BadEdge_init => k_is)
    (case l_BadEdge_init => k_is)
    (case c_BadEdge_init => k_is)
    (case h_BadEdge_init => k_is)
    (case v_BadEdge_init => rfl)
    (case p_BadEdge_init => first | rfl | decide +kernel)
    (case e_BadEdge_init => k_is)
    (case aN_DuplicateEdge => k_is)
    (case x_DuplicateEdge => k_is)
    (case r_DuplicateEdge => first | rfl | decide +kernel)
    (case sa_DuplicateEdge => k_is)
    (case xb_DuplicateEdge => k_is)
    (case tc_DuplicateEdge => k_is)
    (case kc_DuplicateEdge => k_is)
    (case ga_DuplicateEdge => k_is)
    (case gg_DuplicateEdge => k_is)
    (case ac_DuplicateEdge => k_is)
    (case mo_DuplicateEdge => k_is)
    (case hd_DuplicateEdge => k_is)
    (case ic_DuplicateEdge => k_is)
    (case no_DuplicateEdge => k_is)
    (case sv_DuplicateEdge => k_is)
    (case mr_DuplicateEdge => first | k_is | kernel_rfl)
    (case sm_DuplicateEdge => first | ks_is | kernel_rfl)
    (case a_DuplicateEdge_init => k_is)
    (case t_DuplicateEdge_init => k_is)
    (case l_DuplicateEdge_init => k_is)
    (case c_DuplicateEdge_init => k_is)
    (case h_DuplicateEdge_init => k_is)
    (case v_DuplicateEdge_init => rfl)
    (case p_DuplicateEdge_init => first | rfl | decide +kernel)
    (case e_DuplicateEdge_init => k_is)
    (case aN_DeadEnd => k_is)
    (case x_DeadEnd => k_is)
    (case r_DeadEnd => first | rfl | decide +kernel)
    (case sa_DeadEnd => k_is)
    (case xb_DeadEnd => k_is)
    (case tc_DeadEnd => k_is)
    (case kc_DeadEnd => k_is)
    (case ga_DeadEnd => k_is)
    (case gg_DeadEnd => k_is)
    (case ac_DeadEnd => k_is)
    (case mo_DeadEnd => k_is)
    (case hd_DeadEnd => k_is)
    (case ic_DeadEnd => k_is)
    (case no_DeadEnd => k_is)
    (case sv_DeadEnd => k_is)
    (case mr_DeadEnd => first | k_is | kernel_rfl)
    (case sm_DeadEnd => first | ks_is | kernel_rfl)
    (case a_DeadEnd_init => k_is)
    (case t_DeadEnd_init => k_is)
    (case l_DeadEnd_init => k_is)
    (case c_DeadEnd_init => k_is)
    (case h_DeadEnd_init => k_is)
    (case v_DeadEnd_init => rfl)
    (case p_DeadEnd_init => first | rfl | decide +kernel)
    (case e_DeadEnd_init => k_is)
    (case aN_BadSize => k_is)
    (case xP_BadSize => k_exc)
    (case kc_BadSize => k_is)
    (case xb_BadSize => k_is)
    (case tc_BadSize => k_is)
    (case ic_BadSize => k_is)
    (case ga_BadSize => k_is)
    (case gg_BadSize => k_is)
    (case ac_BadSize => k_is)
    (case mo_BadSize => k_is)
    (case hd_BadSize => k_is)
    (case aN_TooLarge => k_is)
    (case xP_TooLarge => k_exc)
    (case kc_TooLarge => k_is)
    (case xb_TooLarge => k_is)
    (case tc_TooLarge => k_is)
    (case ic_TooLarge => k_is)
    (case ga_TooLarge => k_is)
    (case gg_TooLarge => k_is)
    (case ac_TooLarge => k_is)
    (case mo_TooLarge => k_is)
    (case hd_TooLarge => k_is)
    (case aN_BadHeight => k_is)
    (case xP_BadHeight => k_exc)
    (case kc_BadHeight => k_is)
    (case xb_BadHeight => k_is)
    (case tc_BadHeight => k_is)
    (case ic_BadHeight => k_is)
    (case ga_BadHeight => k_is)
    (case gg_BadHeight => k_is)
    (case ac_BadHeight => k_is)
    (case mo_BadHeight => k_is)
    (case hd_BadHeight => k_is)
    (case aN_BadOwners => k_is)
    (case xP_BadOwners => k_exc)
    (case kc_BadOwners => k_is)
    (case xb_BadOwners => k_is)
    (case tc_BadOwners => k_is)
    (case ic_BadOwners => k_is)
    (case ga_BadOwners => k_is)
    (case gg_BadOwners => k_is)
    (case ac_BadOwners => k_is)
    (case mo_BadOwners => k_is)
    (case hd_BadOwners => k_is)
    (case ai_Web => k_is)
    (case mo_Web => k_is)
    (case ai_Game => k_is)
    (case mo_Game => k_is)
    (case kit_Web_Web => first | k_is | kernel_rfl)
    (case kit_Game_Web => first | k_is | kernel_rfl)
    (case kit_Game_Game => first | k_is | kernel_rfl)
    (case aN_LadderreachError => k_is)
    (case aN_GameError => k_is)
    (case aN_OutOfRange => k_is)
    (case kit_BadHeight_BadHeight => first | k_is | kernel_rfl)
    (case kit_BadHeight_BadSize => first | k_is | kernel_rfl)
    (case kit_BadHeight_TooLarge => first | k_is | kernel_rfl)
    (case kit_BadHeight_BadOwners => first | k_is | kernel_rfl)
    (case kit_BadHeight_BadEdge => first | k_is | kernel_rfl)
    (case kit_BadHeight_DuplicateEdge => first | k_is | kernel_rfl)
    (case kit_BadHeight_DeadEnd => first | k_is | kernel_rfl)
    (case kit_BadHeight_GameError => first | k_is | kernel_rfl)
    (case kit_BadHeight_OutOfRange => first | k_is | kernel_rfl)
    (case kit_BadHeight_ValueError => first | k_is | kernel_rfl)
    (case exm_BadHeight_LadderreachError => first | k_is | kernel_rfl)
    (case kit_BadSize_BadHeight => first | k_is | kernel_rfl)
    (case kit_BadSize_BadSize => first | k_is | kernel_rfl)
    (case kit_BadSize_TooLarge => first | k_is | kernel_rfl)
    (case kit_BadSize_BadOwners => first | k_is | kernel_rfl)
    (case kit_BadSize_BadEdge => first | k_is | kernel_rfl)
    (case kit_BadSize_DuplicateEdge => first | k_is | kernel_rfl)
    (case kit_BadSize_DeadEnd => first | k_is | kernel_rfl)
    (case kit_BadSize_GameError => first | k_is | kernel_rfl)
    (case kit_BadSize_OutOfRange => first | k_is | kernel_rfl)
    (case kit_BadSize_ValueError => first | k_is | kernel_rfl)
    (case exm_BadSize_LadderreachError => first | k_is | kernel_rfl)
    (case kit_TooLarge_BadHeight => first | k_is | kernel_rfl)
    (case kit_TooLarge_BadSize => first | k_is | kernel_rfl)
    (case kit_TooLarge_TooLarge => first | k_is | kernel_rfl)
    (case kit_TooLarge_BadOwners => first | k_is | kernel_rfl)
    (case kit_TooLarge_BadEdge => first | k_is | kernel_rfl)
    (case kit_TooLarge_DuplicateEdge => first | k_is | kernel_rfl)
    (case kit_TooLarge_DeadEnd => first | k_is | kernel_rfl)
    (case kit_TooLarge_GameError => first | k_is | kernel_rfl)
    (case kit_TooLarge_OutOfRange => first | k_is | kernel_rfl)
    (case kit_TooLarge_ValueError => first | k_is | kernel_rfl)
    (case exm_TooLarge_LadderreachError => first | k_is | kernel_rfl)
    (case kit_BadOwners_BadHeight => first | k_is | kernel_rfl)
    (case kit_BadOwners_BadSize => first | k_is | kernel_rfl)
    (case kit_BadOwners_TooLarge => first | k_is | kernel_rfl)
    (case kit_BadOwners_BadOwners => first | k_is | kernel_rfl)
    (case kit_BadOwners_BadEdge => first | k_is | kernel_rfl)
    (case kit_BadOwners_DuplicateEdge => first | k_is | kernel_rfl)
    (case kit_BadOwners_DeadEnd => first | k_is | kernel_rfl)
    (case kit_BadOwners_GameError => first | k_is | kernel_rfl)
    (case kit_BadOwners_OutOfRange => first | k_is | kernel_rfl)
    (case kit_BadOwners_ValueError => first | k_is | kernel_rfl)
    (case exm_BadOwners_LadderreachError => first | k_is | kernel_rfl)
    (case kit_BadEdge_BadHeight => first | k_is | kernel_rfl)
    (case kit_BadEdge_BadSize => first | k_is | kernel_rfl)
    (case kit_BadEdge_TooLarge => first | k_is | kernel_rfl)
    (case kit_BadEdge_BadOwners => first | k_is | kernel_rfl)
    (case kit_BadEdge_BadEdge => first | k_is | kernel_rfl)
    (case kit_BadEdge_DuplicateEdge => first | k_is | kernel_rfl)
    (case kit_BadEdge_DeadEnd => first | k_is | kernel_rfl)
    (case kit_BadEdge_GameError => first | k_is | kernel_rfl)
    (case kit_BadEdge_OutOfRange => first | k_is | kernel_rfl)
    (case kit_BadEdge_ValueError => first | k_is | kernel_rfl)
    (case exm_BadEdge_LadderreachError => first | k_is | kernel_rfl)
    (case kit_DuplicateEdge_BadHeight => first | k_is | kernel_rfl)
    (case kit_DuplicateEdge_BadSize => first | k_is | kernel_rfl)
    (case kit_DuplicateEdge_TooLarge => first | k_is | kernel_rfl)
    (case kit_DuplicateEdge_BadOwners => first | k_is | kernel_rfl)
    (case kit_DuplicateEdge_BadEdge => first | k_is | kernel_rfl)
    (case kit_DuplicateEdge_DuplicateEdge => first | k_is | kernel_rfl)
    (case kit_DuplicateEdge_DeadEnd => first | k_is | kernel_rfl)
    (case kit_DuplicateEdge_GameError => first | k_is | kernel_rfl)
    (case kit_DuplicateEdge_OutOfRange => first | k_is | kernel_rfl)
    (case kit_DuplicateEdge_ValueError => first | k_is | kernel_rfl)
    (case exm_DuplicateEdge_LadderreachError => first | k_is | kernel_rfl)
    (case kit_DeadEnd_BadHeight => first | k_is | kernel_rfl)
    (case kit_DeadEnd_BadSize => first | k_is | kernel_rfl)
    (case kit_DeadEnd_TooLarge => first | k_is | kernel_rfl)
    (case kit_DeadEnd_BadOwners => first | k_is | kernel_rfl)
    (case kit_DeadEnd_BadEdge => first | k_is | kernel_rfl)
    (case kit_DeadEnd_DuplicateEdge => first | k_is | kernel_rfl)
    (case kit_DeadEnd_DeadEnd => first | k_is | kernel_rfl)
    (case kit_DeadEnd_GameError => first | k_is | kernel_rfl)
    (case kit_DeadEnd_OutOfRange => first | k_is | kernel_rfl)
    (case kit_DeadEnd_ValueError => first | k_is | kernel_rfl)
    (case exm_DeadEnd_LadderreachError => first | k_is | kernel_rfl)
theorem PySem.Challenge.cw_ladderreach_k01_web_and_game_refusals_holds : PySem.Challenge.rw_ladderreach_k01_web_and_game_refusals.Holds := by
  w_on; o_law
  exact HandSHeadRun.head_any (r := LR.rr) (q := LR.qq) (H := kHook LR.KK LR.asK LR.eK) (ob := fun s => List.map (HandSHeadRun.getT s) LR.asK) (M := 20000) (loose := LR.looseNames) (d := HandSHeadRun.topDef LR.rr.prog 44) (kwd := []) (fun s => LR.ob_tree s) LR.hx_e LR.hx_f LR.run0 LR.hx_def LR.hx_p LR.hx_k LR.hx_wr (by first | assumption | decide +kernel) LR.hx_ok LR.hx_b LR.hx_w (LR.walk (l := PySem.Challenge.rw_ladderreach_k01_web_and_game_refusals) (by kernel_rfl) (by kernel_rfl) (by kernel_rfl) (fun w h Y => PySem.W.kIn_of Y) LR.factsK)
end
