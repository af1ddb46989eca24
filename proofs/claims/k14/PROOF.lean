import PyProof.Rows.All
import Wide.All
import OpenK.AllK
import Wide.FinOn
import HandS.ForMost
import HandS.IsInst
import HandS.Conv
import HandS.ClsMeth
import HandS.TupAny
import HandS.Walk
import HandS.RevRange
import KE.KExcSuper
import HandS.ForExc
import HandS.ExcInit
import HandS.ExcIs
import HandS.ExcField
import HandS.TryMany
import HandS.FStr
import HandS.ExcSuper
import KE.KExcIs
import KE.GoesEnum
import KE.GoesMore
import KE.DataMinMax
import HandS.SortKw
import HandS.OwnIter
import HandS.IterVal
import HandS.TryOnly
import HandS.SlotsOwn
import HandS.RaiseMore
import HandS.Style
import HandS.TupSets
import HandS.Deep
import HandS.Iter
import PySem.Challenge.RW_ladderreach_k14_play_of_one_plan
set_option Elab.async false
set_option maxRecDepth 100000
set_option linter.all false
set_option maxHeartbeats 4000000
namespace LR
open PySem PySem.Spec PyProof.Rows L2
/-! ## defs, methods, classes that keep a promise -/
structure Cal (P : Program) (w : World) (K : PySem.W.Frag) (mg : Str → Option Value) (base : Heap) (k : Nat) (x : Str) (sp : Sp) : Prop where
  ex : ∃ (f : Addr) (fd : FuncData) (ps : List Str), FnOk P w K mg base CX0 k f fd ps sp ∧ mg x = some (.ref f) ∧ PySem.W.keepIn K (.ref f) = true ∧ Binds K fd ps []
structure Met (P : Program) (w : World) (K : PySem.W.Frag) (mg : Str → Option Value) (base : Heap) (k : Nat) (C : Addr) (m : Str) (sp : Sp) : Prop where
  ex : ∃ (f : Addr) (fd : FuncData) (ps : List Str), Cls K C ∧ Meth K C m f ∧ FnOk P w K mg base CX0 k f fd ps sp ∧ Binds K fd ps []
structure Mak (P : Program) (w : World) (K : PySem.W.Frag) (mg : Str → Option Value) (base : Heap) (k : Nat) (x : Str) (C : Addr) (sp : Sp) : Prop where
  ex : ∃ (f : Addr) (fd : FuncData) (ps : List Str), Mk K C f ∧ FnOk P w K mg base CX0 k f fd ps sp ∧ mg x = some (.ref C) ∧ Binds K fd ps []
section
variable {X : Cx} {k j : Nat} {C : Addr} {x m : Str} {sp : Sp} {p pos apos : Pos} {e o : Expr} {es : List Expr} {ta : TE} {t : TA}
theorem pe_c (c : Cal X.prog X.w X.K X.mg X.base k x sp) (hr : Room j X.A) (hk : k ≤ j) (hg : Gl X x) (ha : PA X (e :: es) t)
    (hdb : (x == ("__debug__" : Str)) = false := by decide) (he : starEach (e :: es) X.env = (false, eval e X.env) :: starEach es X.env := by rfl) (hpl : (backTo pos (starEach es X.env)).any (·.1) = false := by rfl) :
    PE X (.Call (.Name x p) (e :: es) [] pos) (tCall sp [] E0 t) := by
  obtain ⟨f, fd, ps, F, hm, kp, b⟩ := c.ex
  exact pe_call F (hr.mono hk) hg hm kp b .nil pass0 ha hdb he hpl
theorem pe_mk (c : Mak X.prog X.w X.K X.mg X.base k x C sp) (hr : Room j X.A) (hk : k + 1 ≤ j) (hg : Gl X x) (ha : PA X (e :: es) t)
    (hdb : (x == ("__debug__" : Str)) = false := by decide) (he : starEach (e :: es) X.env = (false, eval e X.env) :: starEach es X.env := by rfl) (hpl : (backTo pos (starEach es X.env)).any (·.1) = false := by rfl) :
    PE X (.Call (.Name x p) (e :: es) [] pos) (tMake C sp [] E0 t) := by
  obtain ⟨f, fd, ps, M, F, hm, b⟩ := c.ex
  exact pe_make M F (hr.mono hk) hg hm b .nil pass0 ha hdb he hpl
theorem pe_mt {pl : Sem Bool} (c : Met X.prog X.w X.K X.mg X.base k C m sp) (hr : Room j X.A) (hk : k ≤ j) (he : PE X o ta) (ha : PA X (e :: es) t)
    (hst : starEach (e :: es) X.env = (false, eval e X.env) :: starEach es X.env := by rfl) (hpl : (backTo pos (starEach es X.env)).any (·.1) = false := by rfl)
    (ht : eval (.Call (.Attribute o m apos) (e :: es) [] pos) X.env = (do
      let ov ← eval o X.env
      standAt apos.atName
      let (f, first) ← holding [ov] (getMethod ov m pl)
      callWith pos f first (backTo pos (starEach (e :: es) X.env)) (backToKw pos (keywordEach [] X.env))) := by rfl) :
    PE X (.Call (.Attribute o m apos) (e :: es) [] pos) (tMeth C m sp [] E0 ta t) := by
  obtain ⟨f, fd, ps, hc, hm, F, b⟩ := c.ex
  exact pe_meth (pl := pl) he hc hm F (hr.mono hk) b .nil pass0 ha hst hpl ht
theorem pe_mt0 {pl : Sem Bool} (c : Met X.prog X.w X.K X.mg X.base k C m sp) (hr : Room j X.A) (hk : k ≤ j) (he : PE X o ta)
    (ht : eval (.Call (.Attribute o m apos) [] [] pos) X.env = (do
      let ov ← eval o X.env
      standAt apos.atName
      let (f, first) ← holding [ov] (getMethod ov m pl)
      callWith pos f first (backTo pos (starEach [] X.env)) (backToKw pos (keywordEach [] X.env))) := by rfl) :
    PE X (.Call (.Attribute o m apos) [] [] pos) (tMeth C m sp [] E0 ta tNil) := by
  obtain ⟨f, fd, ps, hc, hm, F, b⟩ := c.ex
  exact pe_meth0 (pl := pl) he hc hm F (hr.mono hk) b .nil pass0 ht
end
structure DefIn (K : PySem.W.Frag) (mg : Str → Option Value) (x : Str) (st : Stmt) (ps : List Str) : Prop where
  ex : ∃ (f : Addr) (fd : FuncData), Fun K x x st f fd ∧ mg x = some (.ref f) ∧ Binds K fd ps []
structure MetIn (K : PySem.W.Frag) (C : Addr) (m qual : Str) (st : Stmt) (ps : List Str) : Prop where
  ex : ∃ (f : Addr) (fd : FuncData), Fun K m qual st f fd ∧ Meth K C m f ∧ Binds K fd ps []
structure MakIn (K : PySem.W.Frag) (mg : Str → Option Value) (x : Str) (C : Addr) (qual : Str) (st : Stmt) (ps : List Str) : Prop where
  ex : ∃ (f : Addr) (fd : FuncData), Fun K "__init__" qual st f fd ∧ Mk K C f ∧ mg x = some (.ref C) ∧ Binds K fd ps []
section
variable {P : Program} {w : World} {K : PySem.W.Frag} {mg : Str → Option Value} {base : Heap}
theorem DefIn.cal {x : Str} {st : Stmt} {N ps : List Str} {k : Nat} {sp : Sp} (D : DefIn K mg x st ps) (S : FnScope N ps (defScope st)) (len : ∀ vs H Q E, sp vs H Q E → vs.length = ps.length)
    (hbody : ∀ (f : Addr) (cdv : Value) (A : Around) (outer : List Env) (s : Shared) (H : Hp) (vs : List V) (Q : VK) (E : XK), Room k (A.deeper (envOfC x (defScope st) s.heap.objs.size f cdv)) → sp vs H Q E →
      ∃ t, PSs (cxOf CX0 P w K mg base N x (defScope st) f cdv A outer s H E).nox (defBody st) t ∧ t { nx := fun _ H' => Q .non H', rt := Q } (start N vs) H) : Cal P w K mg base (k + 1) x sp := by
  obtain ⟨f, fd, F, hm, b⟩ := D.ex
  exact ⟨f, fd, ps, F.ok S len (hbody f), hm, F.kp, b⟩
theorem MetIn.met {C : Addr} {m qual : Str} {st : Stmt} {N ps : List Str} {k : Nat} {sp : Sp} (c : Cls K C) (D : MetIn K C m qual st ps) (S : FnScope N ps (defScope st)) (len : ∀ vs H Q E, sp vs H Q E → vs.length = ps.length)
    (hbody : ∀ (f : Addr) (cdv : Value) (A : Around) (outer : List Env) (s : Shared) (H : Hp) (vs : List V) (Q : VK) (E : XK), Room k (A.deeper (envOfC qual (defScope st) s.heap.objs.size f cdv)) → sp vs H Q E →
      ∃ t, PSs (cxOf CX0 P w K mg base N qual (defScope st) f cdv A outer s H E).nox (defBody st) t ∧ t { nx := fun _ H' => Q .non H', rt := Q } (start N vs) H) : Met P w K mg base (k + 1) C m sp := by
  obtain ⟨f, fd, F, hm, b⟩ := D.ex
  exact ⟨f, fd, ps, c, hm, F.ok S len (hbody f), b⟩
theorem MakIn.mak {C : Addr} {x qual : Str} {st : Stmt} {N ps : List Str} {k : Nat} {sp : Sp} (D : MakIn K mg x C qual st ps) (S : FnScope N ps (defScope st)) (len : ∀ vs H Q E, sp vs H Q E → vs.length = ps.length)
    (hbody : ∀ (f : Addr) (cdv : Value) (A : Around) (outer : List Env) (s : Shared) (H : Hp) (vs : List V) (Q : VK) (E : XK), Room k (A.deeper (envOfC qual (defScope st) s.heap.objs.size f cdv)) → sp vs H Q E →
      ∃ t, PSs (cxOf CX0 P w K mg base N qual (defScope st) f cdv A outer s H E).nox (defBody st) t ∧ t { nx := fun _ H' => Q .non H', rt := Q } (start N vs) H) : Mak P w K mg base (k + 1) x C sp := by
  obtain ⟨f, fd, F, M, hm, b⟩ := D.ex
  exact ⟨f, fd, ps, M, F.ok S len (hbody f), hm, b⟩
end
theorem Cal.mono {P w K mg base j k x sp} (c : Cal P w K mg base j x sp) (h : j ≤ k) : Cal P w K mg base k x sp := by
  obtain ⟨f, fd, ps, F, r⟩ := c.ex
  exact ⟨f, fd, ps, F.mono h, r⟩
theorem Cal.imp {P w K mg base k x sp sp'} (c : Cal P w K mg base k x sp) (h : ∀ vs H Q E, sp' vs H Q E → sp vs H Q E) : Cal P w K mg base k x sp' := by
  obtain ⟨f, fd, ps, F, r⟩ := c.ex
  exact ⟨f, fd, ps, F.imp h, r⟩
/-! ## what the built-in names stand for -/
theorem b_len : bootBuiltins "len" = some (.builtin "len") := by decide +kernel
theorem b_abs : bootBuiltins "abs" = some (.builtin "abs") := by decide +kernel
theorem b_max : bootBuiltins "max" = some (.builtin "max") := by decide +kernel
theorem b_min : bootBuiltins "min" = some (.builtin "min") := by decide +kernel
theorem b_isinstance : bootBuiltins "isinstance" = some (.builtin "isinstance") := by decide +kernel
theorem b_int : bootBuiltins "int" = some (.type "int") := by decide +kernel
theorem b_bool : bootBuiltins "bool" = some (.type "bool") := by decide +kernel
theorem b_str : bootBuiltins "str" = some (.type "str") := by decide +kernel
theorem b_list : bootBuiltins "list" = some (.type "list") := by decide +kernel
theorem b_tuple : bootBuiltins "tuple" = some (.type "tuple") := by decide +kernel
/-! ## heaps -/
/-- all that was tracked stands, but for what is at p -/
def Keep (p : Addr) (H H' : Hp) : Prop := ∀ b, b ≠ p → ∀ o, H b = some o → H' b = some o
theorem Keep.refl {p H} : Keep p H H := fun _ _ _ h => h
theorem Keep.trans {p H H1 H2} (a : Keep p H H1) (b : Keep p H1 H2) : Keep p H H2 := fun c n o h => b c n o (a c n o h)
theorem Keep.upd {p H H' o} (a : Keep p H H') : Keep p H (upd H' p o) := fun c n u h => by rw [upd_ne n]; exact a c n u h
theorem Keep.new {p H H' q o} (a : Keep p H H') (h : H' q = none) : Keep p H (L2.upd H' q o) := fun c n u h1 => by
  rw [upd_ne (ne_of_none (a c n u h1) h)]; exact a c n u h1
theorem Keep.same {p H H' H2} (a : Keep p H H') (b : Same H' H2) : Keep p H H2 := fun c n o h => b c o (a c n o h)
theorem _root_.L2.Same.keep {p H H'} (a : Same H H') : Keep p H H' := fun c _ o h => a c o h
theorem same_new {H q o} (h : H q = none) : Same H (upd H q o) := fun c u h1 => by rw [upd_ne (ne_of_none h1 h)]; exact h1
theorem _root_.L2.Same.new {H H' q o} (a : Same H H') (h : H' q = none) : Same H (upd H' q o) := a.trans (same_new h)
theorem Keep.seq {p a : Addr} {K H H' xs} (k : Keep p H H') (h : SqL K H a xs) (n : a ≠ p) : SqL K H' a xs := by
  rcases h with (h | ⟨o, h⟩) | h
  · exact .inl (.inl (k _ n _ h))
  · exact .inl (.inr ⟨o, k _ n _ h⟩)
  · exact .inr h
theorem Keep.seqT {p a : Addr} {K H H' xs} (k : Keep p H H') (h : SqT K H a xs) (n : a ≠ p) : SqT K H' a xs := by
  rcases h with (h | ⟨o, h⟩) | h
  · exact .inl (.inl (k _ n _ h))
  · exact .inl (.inr ⟨o, k _ n _ h⟩)
  · exact .inr h
theorem _root_.L2.Same.seqT {K H H' a xs} (e : Same H H') (h : SqT K H a xs) : SqT K H' a xs := by
  rcases h with (h | ⟨o, h⟩) | h
  · exact .inl (.inl (e _ _ h))
  · exact .inl (.inr ⟨o, e _ _ h⟩)
  · exact .inr h
/-- a pool of the law: a list of four ints -/
def IsPool (H : Hp) (p : Addr) : Prop := ∃ a b c d : Int, H p = some (.lst [.int a, .int b, .int c, .int d])
theorem IsPool.ne {H p b o} (h : IsPool H p) (hb : H b = some o) (ho : ∀ l, o ≠ .lst l) : b ≠ p := by
  obtain ⟨_, _, _, _, h⟩ := h
  exact ne_of hb h (ho _)
theorem IsPool.same {H H' p} (s : Same H H') (h : IsPool H p) : IsPool H' p := by
  obtain ⟨a, b, c, d, h⟩ := h; exact ⟨a, b, c, d, s _ _ h⟩
theorem IsPool.upd {H p a b c d} : IsPool (upd H p (.lst [.int a, .int b, .int c, .int d])) p := ⟨a, b, c, d, upd_same⟩
theorem Keep.free {p q H H'} (k : Keep p H H') (n : q ≠ p) (h : H' q = none) : H q = none := by
  cases e : H q with
  | none => rfl
  | some o => rw [k q n o e] at h; cases h
theorem IsPool.some {H p} (h : IsPool H p) : ∃ l, H p = some (.lst l) := by
  obtain ⟨_, _, _, _, h⟩ := h; exact ⟨_, h⟩
theorem IsPool.free {H p q} (h : IsPool H p) (hq : H q = none) : q ≠ p := by
  obtain ⟨_, _, _, _, h⟩ := h
  exact (ne_of_none h hq).symm
def spLaw (K : PySem.W.Frag) : Sp := fun vs H Q _ => ∃ (a : Addr) (ns : List Int), vs = [.ref a] ∧ SqL K H a (ns.map V.int) ∧ ∀ H', Q (.bl true) H'
theorem seq_after {K : PySem.W.Frag} {H H' : Hp} {a p : Addr} {xs : List V} (h : SqL K H a xs) (hp : H p = none) (k : Keep p H H') : SqL K H' a xs := by
  rcases h with (h | ⟨o, h⟩) | h
  · exact .inl (.inl (k _ (ne_of_none h hp) _ h))
  · exact .inl (.inr ⟨o, k _ (ne_of_none h hp) _ h⟩)
  · exact .inr h
theorem map_get {ls : List Int} {i : Nat} {x : V} (h : (ls.map V.int)[i]? = some x) : ∃ l, ls[i]? = some l ∧ x = .int l := by
  rw [List.getElem?_map] at h
  obtain ⟨l, el, e⟩ := Option.map_eq_some_iff.mp h
  exact ⟨l, el, e.symm⟩
theorem get_map {ls : List Int} {i : Nat} {l : Int} (h : ls[i]? = some l) : (ls.map V.int)[i]? = some (.int l) := by
  rw [List.getElem?_map, h]; rfl
/-- a statement, then the rest, with a word between them -/
def tCut (t u : TS) : TS := fun D σ H => ∃ Mid : L2.St → Hp → Prop, t { D with nx := Mid } σ H ∧ ∀ σ' H', Mid σ' H' → u D σ' H'
theorem pss_cut {X : Cx} {st : Stmt} {rest : List Stmt} {t u : TS} (h1 : PS X st t) (h2 : PSs X rest u) : PSs X (st :: rest) (tCut t u) := by
  refine ⟨fun pins s σ H D I h => ?_⟩
  obtain ⟨Mid, hm, hu⟩ := h
  refine wpAny_execs_cons (thn (h1.run pins s σ H { D with nx := Mid } I hm) fun f s1 q => ?_)
  cases f with
  | next =>
    obtain ⟨σ', H', I', q⟩ := q
    exact h2.run pins s1 σ' H' D I' (hu σ' H' q)
  | ret v => exact q
  | brk => exact q
  | cont => exact q
theorem lc_yes {Q : Bool → Hp → Prop} {σ : L2.St} {H : Hp} (h : Q true H) : tYes σ H Q := h
theorem ite_b {c : Bool} {A B : Prop} (h1 : c = true → A) (h2 : c = false → B) : if c = true then A else B := by
  cases c with
  | true => exact h1 rfl
  | false => exact iteF (h2 rfl)
end LR

set_option Elab.async false
set_option maxRecDepth 100000
set_option linter.all false
set_option maxHeartbeats 4000000
namespace LR
open PySem PySem.Spec PyProof.Rows L2
/-! ## data of the law, as they lie in the heap -/
inductive Dt where
  | non | bl (b : Bool) | int (i : Int) | str (x : Str) | lst (l : List Dt) | tup (l : List Dt)
mutual
inductive At (H : Hp) : V → Dt → Prop
  | non : At H .non .non
  | bl (b : Bool) : At H (.bl b) (.bl b)
  | int (i : Int) : At H (.int i) (.int i)
  | str (x : Str) : At H (.str x) (.str x)
  | lst {p : Addr} {xs : List V} {ds : List Dt} (h : H p = some (.lst xs)) (a : Ats H xs ds) (z : xs.length ≤ 100000) : At H (.ref p) (.lst ds)
  | tup {p : Addr} {xs : List V} {ds : List Dt} (h : H p = some (.tup xs)) (a : Ats H xs ds) (z : xs.length ≤ 100000) : At H (.ref p) (.tup ds)
inductive Ats (H : Hp) : List V → List Dt → Prop
  | nil : Ats H [] []
  | cons {x : V} {d : Dt} {xs : List V} {ds : List Dt} (h : At H x d) (t : Ats H xs ds) : Ats H (x :: xs) (d :: ds)
end
mutual
def dep : Dt → Nat
  | .lst l => deps l + 1
  | .tup l => deps l + 1
  | _ => 0
def deps : List Dt → Nat
  | [] => 0
  | d :: r => max (dep d) (deps r)
end
theorem deps_mem {d : Dt} : ∀ {l : List Dt}, d ∈ l → dep d ≤ deps l
  | e :: r, h => by
    rw [deps]
    rcases List.mem_cons.mp h with rfl | h
    · exact Nat.le_max_left _ _
    · exact Nat.le_trans (deps_mem h) (Nat.le_max_right _ _)
theorem deps_ints : ∀ l : List Int, deps (l.map Dt.int) = 0
  | [] => rfl
  | i :: r => by rw [List.map_cons, deps, deps_ints r]; rfl
theorem Ats.length {H : Hp} {xs ds} (h : Ats H xs ds) : xs.length = ds.length := by
  revert ds; induction xs with
  | nil => intro ds h; cases h; rfl
  | cons x xs ih => intro ds h; cases h with | cons a t => rw [List.length_cons, List.length_cons, ih t]
theorem Ats.get {H : Hp} : ∀ {xs ds} (h : Ats H xs ds) {i : Nat} {x : V}, xs[i]? = some x → ∃ d, ds[i]? = some d ∧ At H x d := by
  intro xs; induction xs with
  | nil => intro ds h i x e; simp at e
  | cons y xs ih => 
    intro ds h i x e
    cases h with
    | cons a t =>
      cases i with
      | zero => exact ⟨_, rfl, by simp at e; subst e; exact a⟩
      | succ i => exact ih t (by simpa using e)
theorem Ats.getD {H : Hp} {xs ds} (h : Ats H xs ds) {i : Nat} {d : Dt} (e : ds[i]? = some d) : ∃ x, xs[i]? = some x ∧ At H x d := by
  have hl := h.length
  have hi : i < xs.length := by rw [hl]; exact (List.getElem?_eq_some_iff.mp e).1
  obtain ⟨d', e', a⟩ := h.get (List.getElem?_eq_getElem hi)
  rw [e] at e'; cases e'
  exact ⟨_, List.getElem?_eq_getElem hi, a⟩
theorem ats_ints (H : Hp) : ∀ l : List Int, Ats H (l.map V.int) (l.map Dt.int)
  | [] => .nil
  | i :: r => .cons (.int i) (ats_ints H r)
mutual
theorem At.same {H H' : Hp} (s : Same H H') : ∀ {x d}, At H x d → At H' x d
  | _, _, .non => .non
  | _, _, .bl b => .bl b
  | _, _, .int i => .int i
  | _, _, .str x => .str x
  | _, _, .lst h a z => .lst (s _ _ h) (a.same s) z
  | _, _, .tup h a z => .tup (s _ _ h) (a.same s) z
theorem Ats.same {H H' : Hp} (s : Same H H') : ∀ {xs ds}, Ats H xs ds → Ats H' xs ds
  | _, _, .nil => .nil
  | _, _, .cons h t => .cons (h.same s) (t.same s)
end
theorem ats_ints_eq {l m : List Int} (h : l.map Dt.int = m.map Dt.int) : l = m := by
  induction l generalizing m with
  | nil => cases m with
    | nil => rfl
    | cons => simp at h
  | cons x l ih => cases m with
    | nil => simp at h
    | cons y m => 
      simp only [List.map_cons, List.cons.injEq, Dt.int.injEq] at h
      rw [h.1, ih h.2]
def ty : Dt → String
  | .non => "NoneType" | .bl _ => "bool" | .int _ => "int" | .str _ => "str" | .lst _ => "list" | .tup _ => "tuple"
def isL : Dt → Bool | .lst _ => true | _ => false
def isU : Dt → Bool | .tup _ => true | _ => false
def isB : Dt → Bool | .bl _ => true | _ => false
def isI : Dt → Bool | .int _ => true | .bl _ => true | _ => false
def isN : Dt → Bool | .int _ => true | _ => false
def isS : Dt → Bool | .str _ => true | _ => false
theorem At.tyX {K H x d} (h : At H x d) : TyX K H x (.type (ty d)) := by
  cases h with
  | non => exact .base .non
  | bl b => exact .base (.bl b)
  | int i => exact .base (.int i)
  | str x => exact .base (.str x)
  | lst h _ _ => exact .base (.lst h)
  | tup h _ _ => exact .base (.tup h)
theorem kitL (d : Dt) : kitB (ty d) "list" = some (isL d) := by
  cases d with
  | non => exact (by decide +kernel : kitB "NoneType" "list" = some false)
  | bl b => exact (by decide +kernel : kitB "bool" "list" = some false)
  | int i => exact (by decide +kernel : kitB "int" "list" = some false)
  | str x => exact (by decide +kernel : kitB "str" "list" = some false)
  | lst l => exact (by decide +kernel : kitB "list" "list" = some true)
  | tup l => exact (by decide +kernel : kitB "tuple" "list" = some false)

theorem kitU (d : Dt) : kitB (ty d) "tuple" = some (isU d) := by
  cases d with
  | non => exact (by decide +kernel : kitB "NoneType" "tuple" = some false)
  | bl b => exact (by decide +kernel : kitB "bool" "tuple" = some false)
  | int i => exact (by decide +kernel : kitB "int" "tuple" = some false)
  | str x => exact (by decide +kernel : kitB "str" "tuple" = some false)
  | lst l => exact (by decide +kernel : kitB "list" "tuple" = some false)
  | tup l => exact (by decide +kernel : kitB "tuple" "tuple" = some true)

theorem kitBo (d : Dt) : kitB (ty d) "bool" = some (isB d) := by
  cases d with
  | non => exact (by decide +kernel : kitB "NoneType" "bool" = some false)
  | bl b => exact (by decide +kernel : kitB "bool" "bool" = some true)
  | int i => exact (by decide +kernel : kitB "int" "bool" = some false)
  | str x => exact (by decide +kernel : kitB "str" "bool" = some false)
  | lst l => exact (by decide +kernel : kitB "list" "bool" = some false)
  | tup l => exact (by decide +kernel : kitB "tuple" "bool" = some false)

theorem kitI (d : Dt) : kitB (ty d) "int" = some (isI d) := by
  cases d with
  | non => exact (by decide +kernel : kitB "NoneType" "int" = some false)
  | bl b => exact (by decide +kernel : kitB "bool" "int" = some true)
  | int i => exact (by decide +kernel : kitB "int" "int" = some true)
  | str x => exact (by decide +kernel : kitB "str" "int" = some false)
  | lst l => exact (by decide +kernel : kitB "list" "int" = some false)
  | tup l => exact (by decide +kernel : kitB "tuple" "int" = some false)

theorem kitS (d : Dt) : kitB (ty d) "str" = some (isS d) := by
  cases d with
  | non => exact (by decide +kernel : kitB "NoneType" "str" = some false)
  | bl b => exact (by decide +kernel : kitB "bool" "str" = some false)
  | int i => exact (by decide +kernel : kitB "int" "str" = some false)
  | str x => exact (by decide +kernel : kitB "str" "str" = some true)
  | lst l => exact (by decide +kernel : kitB "list" "str" = some false)
  | tup l => exact (by decide +kernel : kitB "tuple" "str" = some false)

theorem isi {K H x d T b} {Q : VK} (a : At H x d) (hb : kitB (ty d) T = some b) (q : Q (.bl b) H) : rIsi K [x, .ty T] H Q := ⟨x, .ty T, _, _, b, rfl, .ty T, a.tyX, kit_ty hb, q⟩
end LR

set_option Elab.async false
set_option maxRecDepth 100000
set_option linter.all false
set_option maxHeartbeats 4000000
namespace LR
open PySem PySem.Spec PyProof.Rows L2
/-! ## the mathematics of a ladder -/
def cnt (lv : Int) (l : List Int) : Int := ((l.filter (fun x => decide (lv ≤ x))).length : Int)
/-- levels of at least lv below step i -/
def cn (ls : List Int) (lv : Int) (i : Nat) : Int := cnt lv (ls.take i)
def cnL (ls : List Int) (lv : Int) (n : Nat) : List V := (List.range n).map fun i => V.int (cn ls lv i)
theorem cnL_get {ls lv n i} (h : i < n) : (cnL ls lv n)[i]? = some (V.int (cn ls lv i)) := by
  unfold cnL; rw [List.getElem?_map, List.getElem?_range h]; rfl
theorem cnL_length {ls lv n} : (cnL ls lv n).length = n := by unfold cnL; rw [List.length_map, List.length_range]
theorem cnL_succ {ls lv n} : cnL ls lv (n + 1) = cnL ls lv n ++ [V.int (cn ls lv n)] := by
  unfold cnL; rw [List.range_succ, List.map_append]; rfl
theorem cn_succ {ls : List Int} {lv : Int} {i : Nat} {z : Int} (h : ls[i]? = some z) : cn ls lv (i + 1) = cn ls lv i + (if lv ≤ z then 1 else 0) := by
  unfold cn cnt
  rw [List.take_succ, h, List.filter_append, List.length_append]
  simp only [Option.toList]
  by_cases c : lv ≤ z
  · simp [c]
  · simp [c]
def lfs (h : Int) (tl : Addr) (n : Int) (tc : Addr) : List (Str × V) := [("height", .int h), ("levels", .ref tl), ("top", .int n), ("_counts", .ref tc)]
/-- what lies in the heap of the tuple of counts -/
def Counts (H : Hp) (ls : List Int) (tc : Addr) (h : Int) : Prop := ∃ cs : List Addr, H tc = some (.tup (cs.map V.ref)) ∧ cs.length = (h + 1).toNat ∧ ∀ (j : Nat) (a : Addr), cs[j]? = some a → H a = some (.tup (cnL ls (j + 1) (ls.length + 1)))
/-- a ladder of height h and row ls stands at x -/
def LadderAt (C : Addr) (H : Hp) (x : Addr) (h : Int) (ls : List Int) : Prop := ∃ dx tl tc, H x = some (.ins C dx (lfs h tl ls.length tc)) ∧ H tl = some (.tup (ls.map V.int)) ∧ Counts H ls tc h
theorem LadderAt.same {C H H' x h ls} (s : Same H H') (a : LadderAt C H x h ls) : LadderAt C H' x h ls := by
  obtain ⟨dx, tl, tc, h1, h2, cs, h3, h4, h5⟩ := a
  exact ⟨dx, tl, tc, s _ _ h1, s _ _ h2, cs, s _ _ h3, h4, fun j a e => s _ _ (h5 j a e)⟩
theorem LadderAt.keep {C H H' x h ls p} (s : Keep p H H') (hp : ∃ l, H p = some (.lst l)) (a : LadderAt C H x h ls) : LadderAt C H' x h ls := by
  obtain ⟨l, hp⟩ := hp
  obtain ⟨dx, tl, tc, h1, h2, cs, h3, h4, h5⟩ := a
  have k : ∀ b o, H b = some o → (∀ l, o ≠ .lst l) → H' b = some o := fun b o e n => s _ (ne_of e hp (n _)) _ e
  exact ⟨dx, tl, tc, k _ _ h1 (fun l z => by cases z), k _ _ h2 (fun l z => by cases z), cs, k _ _ h3 (fun l z => by cases z), h4, fun j a e => k _ _ (h5 j a e) (fun l z => by cases z)⟩
/-- what the ladder answers: an edge of rank p from u to w -/
def alw (ls : List Int) (u p w : Int) : Bool := if p % 2 = 0 then decide (cn ls (p / 2 + 1) w.toNat ≤ cn ls (p / 2 + 1) u.toNat) else decide (cn ls (p / 2 + 1) w.toNat < cn ls (p / 2 + 1) u.toNat)
/-! ## the mathematics of allowed edges -/
theorem cn_le_succ (ls : List Int) (lv : Int) (i : Nat) : cn ls lv i ≤ cn ls lv (i + 1) := by
  cases h : ls[i]? with
  | none =>
    have hl : ls.length ≤ i := List.getElem?_eq_none_iff.mp h
    unfold cn
    rw [List.take_of_length_le hl, List.take_of_length_le (by omega)]
    exact Int.le_refl _
  | some z =>
    rw [cn_succ h]
    split <;> omega
theorem cn_mono (ls : List Int) (lv : Int) {i k : Nat} (h : i ≤ k) : cn ls lv i ≤ cn ls lv k := by
  induction h with
  | refl => exact Int.le_refl _
  | step _ ih => exact Int.le_trans ih (cn_le_succ _ _ _)
/-- equal counts: no level of at least lv between -/
theorem cn_eq (ls : List Int) (lv : Int) {i k : Nat} (h : i ≤ k) : cn ls lv k ≤ cn ls lv i ↔ ∀ (m : Nat) (z : Int), i ≤ m → m < k → ls[m]? = some z → z < lv := by
  induction h with
  | refl => exact ⟨fun _ m z a b => by omega, fun _ => Int.le_refl _⟩
  | @step k hk ih =>
    have m1 := cn_mono ls lv hk
    have m2 := cn_le_succ ls lv k
    show cn ls lv (k + 1) ≤ cn ls lv i ↔ ∀ (m : Nat) (z : Int), i ≤ m → m < k + 1 → ls[m]? = some z → z < lv
    constructor
    · intro c m z a b e
      by_cases q : m < k
      · exact ih.mp (by omega) m z a q e
      · have : m = k := by omega
        subst this
        have e2 := cn_succ (lv := lv) e
        by_cases q2 : lv ≤ z
        · rw [if_pos q2] at e2; omega
        · omega
    · intro c
      have c1 := ih.mpr fun m z a b e => c m z a (by omega) e
      cases e : ls[k]? with
      | none =>
        have hl : ls.length ≤ k := List.getElem?_eq_none_iff.mp e
        have : cn ls lv (k + 1) = cn ls lv k := by
          unfold cn
          rw [List.take_of_length_le hl, List.take_of_length_le (by omega)]
        omega
      | some z =>
        have e2 := cn_succ (lv := lv) e
        have := c k z hk (by omega) e
        rw [if_neg (by omega)] at e2
        omega
/-- what is allowed never leads above in a higher count -/
theorem alw_count {ls : List Int} {u p v lv : Int} (h : alw ls u p v = true) (hl : p / 2 + 1 ≤ lv) : cn ls lv v.toNat ≤ cn ls lv u.toNat := by
  by_cases c : v.toNat ≤ u.toNat
  · exact cn_mono _ _ c
  have c : u.toNat ≤ v.toNat := by omega
  unfold alw at h
  have hle : cn ls (p / 2 + 1) v.toNat ≤ cn ls (p / 2 + 1) u.toNat := by
    split at h
    · exact of_decide_eq_true h
    · have := of_decide_eq_true h; omega
  rw [cn_eq _ _ c] at hle ⊢
  intro m z a b e
  have := hle m z a b e
  omega
theorem alw_step {ls : List Int} {u p v : Int} : alw ls u p v = true ↔ (p % 2 = 0 → cn ls (p / 2 + 1) v.toNat ≤ cn ls (p / 2 + 1) u.toNat) ∧ (¬ p % 2 = 0 → cn ls (p / 2 + 1) v.toNat < cn ls (p / 2 + 1) u.toNat) := by
  unfold alw
  split
  · rename_i c; exact ⟨fun h => ⟨fun _ => of_decide_eq_true h, fun q => absurd c q⟩, fun h => decide_eq_true (h.1 c)⟩
  · rename_i c; exact ⟨fun h => ⟨fun q => absurd q c, fun _ => of_decide_eq_true h⟩, fun h => decide_eq_true (h.2 c)⟩
theorem alw_trans {ls : List Int} {u p v q w : Int} (h1 : alw ls u p v = true) (h2 : alw ls v q w = true) : alw ls u (max p q) w = true := by
  by_cases c : p ≤ q
  · rw [Int.max_eq_right c]
    have k := alw_count h1 (lv := q / 2 + 1) (by omega)
    rw [alw_step] at h2 ⊢
    exact ⟨fun e => Int.le_trans (h2.1 e) k, fun e => Int.lt_of_lt_of_le (h2.2 e) k⟩
  · rw [Int.max_eq_left (by omega)]
    have k := alw_count h2 (lv := p / 2 + 1) (by omega)
    rw [alw_step] at h1 ⊢
    exact ⟨fun e => Int.le_trans k (h1.1 e), fun e => Int.lt_of_le_of_lt k (h1.2 e)⟩
theorem alw_loop {ls : List Int} {u p : Int} (h : alw ls u p u = true) : p % 2 = 0 := by
  rw [alw_step] at h
  apply Classical.byContradiction
  intro c
  exact absurd (h.2 c) (Int.lt_irrefl _)
/-- g is the greatest level from place lo to hi, 0 if there is none -/
def IsGap (ls : List Int) (lo hi : Nat) (g : Int) : Prop := 0 ≤ g ∧ (∀ (m : Nat) (z : Int), lo ≤ m → m < hi → ls[m]? = some z → z ≤ g) ∧ (g = 0 ∨ ∃ m : Nat, lo ≤ m ∧ m < hi ∧ ls[m]? = some g)
theorem IsGap.le {ls : List Int} {lo hi : Nat} {g j : Int} (h : IsGap ls lo hi g) (hj : 0 ≤ j) : g ≤ j ↔ ∀ (m : Nat) (z : Int), lo ≤ m → m < hi → ls[m]? = some z → z < j + 1 := by
  constructor
  · intro c m z a b e
    have := h.2.1 m z a b e
    omega
  · intro c
    rcases h.2.2 with e | ⟨m, a, b, e⟩
    · omega
    · have := c m g a b e
      omega
/-- what the law says of an edge is what the ladder answers -/
theorem alw_gap {ls : List Int} {u p v g : Int} (hu : 0 ≤ u) (hv : 0 ≤ v) (hp : 0 ≤ p) (h : IsGap ls (min u.toNat v.toNat) (max u.toNat v.toNat) g) :
    alw ls u p v = if p % 2 = 0 then (decide (v ≤ u) || decide (2 * g ≤ p)) else (decide (v < u) && decide (p < 2 * g)) := by
  rw [Bool.eq_iff_iff, alw_step]
  by_cases c : v ≤ u
  · have e1 : min u.toNat v.toNat = v.toNat := by omega
    have e2 : max u.toNat v.toNat = u.toNat := by omega
    rw [e1, e2] at h
    have m1 := cn_mono ls (p / 2 + 1) (show v.toNat ≤ u.toNat by omega)
    have k := cn_eq ls (p / 2 + 1) (show v.toNat ≤ u.toNat by omega)
    rw [← h.le (by omega)] at k
    split
    · rename_i e
      simp only [decide_eq_true c, Bool.true_or]
      exact ⟨fun _ => trivial, fun _ => ⟨fun _ => m1, fun q => absurd e q⟩⟩
    · rename_i e
      rw [Bool.and_eq_true, decide_eq_true_eq, decide_eq_true_eq]
      constructor
      · intro q
        have q := q.2 e
        have hg : ¬ g ≤ p / 2 := fun z => by have := k.mpr z; omega
        refine ⟨?_, by omega⟩
        rcases Int.lt_or_eq_of_le c with z | z
        · exact z
        · subst z; omega
      · intro ⟨q1, q2⟩
        have hg : ¬ g ≤ p / 2 := by omega
        refine ⟨fun z => absurd z e, fun _ => ?_⟩
        have : ¬ cn ls (p / 2 + 1) u.toNat ≤ cn ls (p / 2 + 1) v.toNat := fun z => hg (k.mp z)
        omega
  · have e1 : min u.toNat v.toNat = u.toNat := by omega
    have e2 : max u.toNat v.toNat = v.toNat := by omega
    rw [e1, e2] at h
    have m1 := cn_mono ls (p / 2 + 1) (show u.toNat ≤ v.toNat by omega)
    have k := cn_eq ls (p / 2 + 1) (show u.toNat ≤ v.toNat by omega)
    rw [← h.le (by omega)] at k
    split
    · rename_i e
      simp only [decide_eq_false c, Bool.false_or, decide_eq_true_eq]
      exact ⟨fun q => by have := k.mp (q.1 e); omega, fun q => ⟨fun _ => k.mpr (by omega), fun z => absurd e z⟩⟩
    · rename_i e
      have c2 : ¬ v < u := by omega
      simp only [decide_eq_false c2, Bool.false_and]
      exact ⟨fun q => by have := q.2 e; omega, fun q => by cases q⟩
/-- places and ranks of a walk of allowed edges -/
def Path (ls : List Int) (h : Int) (pl rk : List Int) : Prop := pl.length = rk.length + 1 ∧ (∀ z ∈ pl, 0 ≤ z ∧ z ≤ ls.length) ∧ (∀ r ∈ rk, 0 ≤ r ∧ r ≤ 2 * h) ∧ ∀ (i : Nat) (u p v : Int), pl[i]? = some u → rk[i]? = some p → pl[i + 1]? = some v → alw ls u p v = true
theorem Path.add {ls : List Int} {h : Int} {pl rk : List Int} {u p v : Int} (a : Path ls h (pl ++ [u]) rk) (hp : 0 ≤ p ∧ p ≤ 2 * h) (hv : 0 ≤ v ∧ v ≤ ls.length) (e : alw ls u p v = true) : Path ls h (pl ++ [u] ++ [v]) (rk ++ [p]) := by
  obtain ⟨a1, a2, a3, a4⟩ := a
  have a1' : pl.length = rk.length := by simpa using a1
  refine ⟨by simp [a1'], fun z hz => ?_, fun r hr => ?_, fun i u' p' v' h1 h2 h3 => ?_⟩
  · rcases List.mem_append.mp hz with q | q
    · exact a2 z q
    · have : z = v := by simpa using q
      rw [this]; exact hv
  · rcases List.mem_append.mp hr with q | q
    · exact a3 r q
    · have : r = p := by simpa using q
      rw [this]; exact hp
  · have hi : i < rk.length + 1 := by
      have := (List.getElem?_eq_some_iff.mp h2).1
      simpa using this
    by_cases q : i < rk.length
    · rw [List.getElem?_append_left (by simp; omega)] at h1 h3
      rw [List.getElem?_append_left q] at h2
      exact a4 i u' p' v' h1 h2 h3
    · have : i = rk.length := by omega
      subst this
      rw [List.getElem?_append_left (by simp; omega), ← a1', List.getElem?_append_right (Nat.le_refl _)] at h1
      rw [List.getElem?_append_right (Nat.le_refl _)] at h2
      rw [List.getElem?_append_right (by simp; omega)] at h3
      simp [a1'] at h1 h2 h3
      rw [← h1, ← h2, ← h3]; exact e
end LR

set_option Elab.async false
set_option maxRecDepth 100000
set_option linter.all false
set_option maxHeartbeats 4000000
namespace LR
open PySem PySem.Spec PyProof.Rows L2
def oV : Option Int → V
  | none => .non
  | some k => .int k
def oD : Option Int → Dt
  | none => .non
  | some k => .int k
theorem at_o (H : Hp) (o : Option Int) : At H (oV o) (oD o) := by
  cases o with
  | none => exact .non
  | some k => exact .int k
/-- o is the least step from which rank p is allowed to w -/
def LeastIs (ls : List Int) (p w : Int) (o : Option Int) : Prop := (∀ k, o = some k → 0 ≤ k ∧ k ≤ ls.length) ∧ ∀ u : Int, 0 ≤ u → u ≤ ls.length → (alw ls u p w = true ↔ ∃ k, o = some k ∧ k ≤ u)
def GreatestIs (ls : List Int) (u p : Int) (o : Option Int) : Prop := (∀ k, o = some k → 0 ≤ k ∧ k ≤ ls.length) ∧ ∀ w : Int, 0 ≤ w → w ≤ ls.length → (alw ls u p w = true ↔ ∃ k, o = some k ∧ w ≤ k)
theorem LeastIs.one {ls p w o o'} (a : LeastIs ls p w o) (b : LeastIs ls p w o') : o = o' := by
  have key : ∀ {x y : Option Int}, LeastIs ls p w x → LeastIs ls p w y → ∀ k, x = some k → ∃ j, y = some j ∧ j ≤ k := fun a b k e => by
    obtain ⟨k0, k1⟩ := a.1 k e
    exact (b.2 k k0 k1).mp ((a.2 k k0 k1).mpr ⟨k, e, Int.le_refl _⟩)
  cases o with
  | none => cases o' with
    | none => rfl
    | some k => obtain ⟨j, e, _⟩ := key b a k rfl; cases e
  | some k => 
    obtain ⟨j, e, h⟩ := key a b k rfl
    subst e
    obtain ⟨i, e, h2⟩ := key b a j rfl
    cases e
    rw [Int.le_antisymm h h2]
theorem GreatestIs.one {ls u p o o'} (a : GreatestIs ls u p o) (b : GreatestIs ls u p o') : o = o' := by
  have key : ∀ {x y : Option Int}, GreatestIs ls u p x → GreatestIs ls u p y → ∀ k, x = some k → ∃ j, y = some j ∧ k ≤ j := fun a b k e => by
    obtain ⟨k0, k1⟩ := a.1 k e
    exact (b.2 k k0 k1).mp ((a.2 k k0 k1).mpr ⟨k, e, Int.le_refl _⟩)
  cases o with
  | none => cases o' with
    | none => rfl
    | some k => obtain ⟨j, e, _⟩ := key b a k rfl; cases e
  | some k =>
    obtain ⟨j, e, h⟩ := key a b k rfl
    subst e
    obtain ⟨i, e, h2⟩ := key b a j rfl
    cases e
    rw [Int.le_antisymm h h2]
/-- what is allowed, level by level -/
theorem alw_lv {ls : List Int} {u p w : Int} (hu : 0 ≤ u) (hw : 0 ≤ w) : alw ls u p w = true ↔
    if p % 2 = 0 then w ≤ u ∨ ∀ (m : Nat) (z : Int), u ≤ m → (m : Int) < w → ls[m]? = some z → z < p / 2 + 1
    else w < u ∧ ∃ (m : Nat) (z : Int), w ≤ m ∧ (m : Int) < u ∧ ls[m]? = some z ∧ p / 2 + 1 ≤ z := by
  rw [alw_step]
  split
  · rename_i e
    by_cases c : w ≤ u
    · exact ⟨fun _ => .inl c, fun _ => ⟨fun _ => cn_mono _ _ (by omega), fun q => absurd e q⟩⟩
    · have k := cn_eq ls (p / 2 + 1) (show u.toNat ≤ w.toNat by omega)
      constructor
      · intro h
        exact .inr fun m z a b e2 => k.mp (h.1 e) m z (by omega) (by omega) e2
      · rintro (h | h)
        · exact absurd h c
        · exact ⟨fun _ => k.mpr fun m z a b e2 => h m z (by omega) (by omega) e2, fun q => absurd e q⟩
  · rename_i e
    by_cases c : w < u
    · have k := cn_eq ls (p / 2 + 1) (show w.toNat ≤ u.toNat by omega)
      constructor
      · intro h
        refine ⟨c, Classical.byContradiction fun q => ?_⟩
        have : cn ls (p / 2 + 1) u.toNat ≤ cn ls (p / 2 + 1) w.toNat := k.mpr fun m z a b e2 => by
          apply Classical.byContradiction
          intro q2
          exact q ⟨m, z, by omega, by omega, e2, by omega⟩
        have := h.2 e
        omega
      · rintro ⟨_, m, z, a, b, e2, h⟩
        refine ⟨fun q => absurd q e, fun _ => ?_⟩
        have : ¬ cn ls (p / 2 + 1) u.toNat ≤ cn ls (p / 2 + 1) w.toNat := fun q => by
          have := k.mp q m z (by omega) (by omega) e2
          omega
        omega
    · have := cn_mono ls (p / 2 + 1) (show u.toNat ≤ w.toNat by omega)
      exact ⟨fun h => by have := h.2 e; omega, fun h => absurd h.1 c⟩
theorem alw_up {ls : List Int} {u u' p w : Int} (h : alw ls u p w = true) (le : u ≤ u') : alw ls u' p w = true := by
  have m := cn_mono ls (p / 2 + 1) (show u.toNat ≤ u'.toNat by omega)
  rw [alw_step] at h ⊢
  exact ⟨fun e => Int.le_trans (h.1 e) m, fun e => Int.lt_of_lt_of_le (h.2 e) m⟩
theorem alw_down {ls : List Int} {u p w w' : Int} (h : alw ls u p w = true) (le : w' ≤ w) : alw ls u p w' = true := by
  have m := cn_mono ls (p / 2 + 1) (show w'.toNat ≤ w.toNat by omega)
  rw [alw_step] at h ⊢
  exact ⟨fun e => Int.le_trans m (h.1 e), fun e => Int.lt_of_le_of_lt m (h.2 e)⟩
/-- the first step that does, or none -/
theorem least_found {ls : List Int} {p w : Int} {k : Nat} (hk : k ≤ ls.length) (h : alw ls k p w = true) (hn : ∀ j : Nat, j < k → alw ls j p w = false) : LeastIs ls p w (some (k : Int)) := by
  refine ⟨fun j e => by cases e; omega, fun u u0 u1 => ⟨fun q => ⟨k, rfl, ?_⟩, fun ⟨j, e, le⟩ => ?_⟩⟩
  · apply Classical.byContradiction
    intro c
    have := hn u.toNat (by omega)
    rw [Int.toNat_of_nonneg u0, q] at this
    cases this
  · cases e; exact alw_up h le
theorem least_none {ls : List Int} {p w : Int} (hn : ∀ j : Nat, j ≤ ls.length → alw ls j p w = false) : LeastIs ls p w none := by
  refine ⟨fun j e => (by cases e), fun u u0 u1 => ⟨fun q => ?_, fun ⟨j, e, le⟩ => (by cases e)⟩⟩
  have := hn u.toNat (by omega)
  rw [Int.toNat_of_nonneg u0, q] at this
  cases this
theorem greatest_found {ls : List Int} {u p : Int} {k : Nat} (hk : k ≤ ls.length) (h : alw ls u p k = true) (hn : ∀ j : Nat, k < j → j ≤ ls.length → alw ls u p j = false) : GreatestIs ls u p (some (k : Int)) := by
  refine ⟨fun j e => by cases e; omega, fun w u0 u1 => ⟨fun q => ⟨k, rfl, ?_⟩, fun ⟨j, e, le⟩ => ?_⟩⟩
  · apply Classical.byContradiction
    intro c
    have := hn w.toNat (by omega) (by omega)
    rw [Int.toNat_of_nonneg u0, q] at this
    cases this
  · cases e; exact alw_down h le
theorem greatest_none {ls : List Int} {u p : Int} (hn : ∀ j : Nat, j ≤ ls.length → alw ls u p j = false) : GreatestIs ls u p none := by
  refine ⟨fun j e => (by cases e), fun w u0 u1 => ⟨fun q => ?_, fun ⟨j, e, le⟩ => (by cases e)⟩⟩
  have := hn w.toNat (by omega)
  rw [Int.toNat_of_nonneg u0, q] at this
  cases this
end LR

set_option Elab.async false
set_option maxRecDepth 100000
set_option linter.all false
set_option maxHeartbeats 4000000
namespace LR
open PySem PySem.Spec PyProof.Rows L2
/-! ## defs that say super(): the cell __class__ stands in the written part -/
structure CScope (N P : List Str) (sc : Scope) : Prop where
  kind : sc.kind = .function
  co : sc.isCoroutine = false
  gen : sc.isGenerator = false
  nd : N.Nodup
  pre : N.take P.length = P
  par : ∀ x ∈ P, sc.names.lookup x = some .local
  nocell : ∀ y ∈ sc.names, y.2 ≠ .cell
  free : ∀ y ∈ sc.names, y.2 = .free → y.1 = "__class__"
def cxC (CX : CXT) (P : Program) (w : World) (K : PySem.W.Frag) (mg : Str → Option Value) (base : Heap) (N : List Str) (qual : Str) (scope : Scope) (f : Addr) (cd : Value) (cc : Addr) (A : Around) (outer : List Env) (s : Shared) (H : Hp) (E : XK) : Cx where
  prog := P
  w := w
  K := K
  mg := mg
  base := base
  A := A.deeper (PySem.W.ksEnv qual scope s.heap.objs.size f cd cc)
  N := N
  s_0 := s
  H_0 := H
  env := PySem.W.ksEnv qual scope s.heap.objs.size f cd cc
  outer := outer
  stack := PySem.W.ksEnv qual scope s.heap.objs.size f cd cc :: outer
  ex := []
  calm := true
  fn := fun _ => false
  pn := []
  xe := fun e s' => wpAny (model P w) (A.deeper (PySem.W.ksEnv qual scope s.heap.objs.size f cd cc)) (leaving (PySem.W.ksEnv qual scope s.heap.objs.size f cd cc) e) (fun _ s'' => CX outer H s E e s'') (fun e' s'' => CX outer H s E e' s'') s'
/-! ### statements at the def's own node -/
structure NE (X : Cx) (body : List Stmt) (e : Expr) (t : TE) : Prop where
  run : ∀ (pins : List (Addr × Obj)) (s : Shared) (σ : L2.St) (H : Hp) (Q : VK), Inv X pins σ H s → t σ H Q → PySem.wpAt (model X.prog X.w) X.A (.func body X.env) (eval e X.env) (EP X pins σ Q) X.xe s
structure NS (X : Cx) (body : List Stmt) (st : Stmt) (t : TS) : Prop where
  run : ∀ (pins : List (Addr × Obj)) (s : Shared) (σ : L2.St) (H : Hp) (D : Ends), Inv X pins σ H s → t D σ H → PySem.wpAt (model X.prog X.w) X.A (.func body X.env) (exec st X.env) (SP X pins D) X.xe s
structure NSs (X : Cx) (body : List Stmt) (st : List Stmt) (t : TS) : Prop where
  run : ∀ (pins : List (Addr × Obj)) (s : Shared) (σ : L2.St) (H : Hp) (D : Ends), Inv X pins σ H s → t D σ H → PySem.wpAt (model X.prog X.w) X.A (.func body X.env) (execs st X.env) (SP X pins D) X.xe s
section
variable {X : Cx} {body : List Stmt} {st : Stmt} {rest : List Stmt} {t u : TS} {e : Expr} {te : TE} {pos : Pos}
theorem nss_ps (h : PSs X rest t) : NSs X body rest t := ⟨fun pins s σ H D I q => wpAt_of_wpAny (h.run pins s σ H D I q)⟩
theorem ns_ps (h : PS X st t) : NS X body st t := ⟨fun pins s σ H D I q => wpAt_of_wpAny (h.run pins s σ H D I q)⟩
theorem nss_cons (h1 : NS X body st t) (h2 : NSs X body rest u) : NSs X body (st :: rest) (tSeq t u) := by
  refine ⟨fun pins s σ H D I h => ?_⟩
  refine PySem.ks_wpAt_execs_cons (PySem.ks_wpAt_mono (h1.run pins s σ H { D with nx := u D } I h) (fun f s1 q => ?_) fun _ _ z => z)
  cases f with
  | next =>
    obtain ⟨σ', H', I', q⟩ := q
    exact h2.run pins s1 σ' H' D I' q
  | ret v => exact q
  | brk => exact q
  | cont => exact q
theorem nss_nil : NSs X body [] tNext := nss_ps pss_nil
theorem nss_one (h : NS X body st t) : NSs X body [st] (tSeq t tNext) := nss_cons h nss_nil
theorem ns_expr (h : NE X body e te) (hi : interactive X.env = false := by rfl) (hs : swapsWith e none pos.line X.env = pure false := by rfl) : NS X body (.Expr e pos) (tDrop te) := by
  refine ⟨fun pins s σ H D I q => ?_⟩
  refine PySem.ks_wpAt_Expr_any (PySem.ks_wpAt_mono (h.run pins s σ H _ I q) (fun v s1 hh => ?_) fun _ _ z => z) hi hs
  obtain ⟨x, H1, I1, r1, q1⟩ := hh
  exact ⟨σ, H1, I1, q1⟩
theorem ns_ret (h : NE X body e te) : NS X body (.Return (some e) pos) (tRet te) := by
  refine ⟨fun pins s σ H D I q => ?_⟩
  refine PySem.ks_wpAt_Return_some (PySem.ks_wpAt_mono (h.run pins s σ H _ I q) (fun v s1 hh => ?_) fun _ _ z => z)
  obtain ⟨x, H1, I1, r1, q1⟩ := hh
  exact ⟨x, σ, H1, I1, r1, q1⟩
end
theorem lk_mem {l : List (Str × Value)} {y : Str} {u : Value} (nd : (l.map (·.1)).Nodup) (h : (y, u) ∈ l) : l.lookup y = some u := by
  induction l with
  | nil => cases h
  | cons p r ih =>
    obtain ⟨z, v⟩ := p
    have hz : ((z, v) :: r).map (·.1) = z :: r.map (·.1) := rfl
    rw [hz] at nd
    obtain ⟨n1, n2⟩ := List.nodup_cons.mp nd
    rcases List.mem_cons.mp h with q | q
    · cases q
      simp [List.lookup]
    · have ne : (y == z) = false := by
        simp only [beq_eq_false_iff_ne, ne_eq]
        intro e; subst e
        exact n1 (List.mem_map_of_mem (f := (·.1)) q)
      simp only [List.lookup, ne]
      exact ih n2 q
theorem nodup_rev {α : Type} : ∀ {l : List α}, l.Nodup → l.reverse.Nodup := fun {l} h => by
  unfold List.Nodup at h ⊢
  rw [List.pairwise_reverse]
  exact h.imp fun a b => a b.symm
theorem zip_lk {ps : List Str} {us : List Value} {i : Nat} {y : Str} {u : Value} (nd : ps.Nodup) (hl : us.length = ps.length) (h1 : ps[i]? = some y) (h2 : us[i]? = some u) : (ps.zip us).reverse.lookup y = some u := by
  refine lk_mem ?_ ?_
  · rw [List.map_reverse]
    refine nodup_rev ?_
    have : (ps.zip us).map (·.1) = ps := List.map_fst_zip (by omega)
    rw [this]; exact nd
  · rw [List.mem_reverse]
    refine List.mem_of_getElem? (i := i) ?_
    rw [List.getElem?_zip_eq_some]; exact ⟨h1, h2⟩
section
variable {CX : CXT} {P : Program} {w : World} {K : PySem.W.Frag} {mg : Str → Option Value} {base : Heap} {k : Nat} {f cc D : Addr} {name qual : Str} {params : Arguments} {body : List Stmt} {scope : Scope} {dV kV doc pm cdv ct oc cl : Value} {an od cld : Option Addr}
    {osl csl : Array (Option Value)} {N ps : List Str} {sp : Sp}
theorem fn_ofC (lk : K.lookup f = some ⟨oc, od, .func (PySem.W.ksFn name qual params body scope dV kV doc pm an cdv ct cc), osl⟩) (lc : K.lookup cc = some ⟨cl, cld, .cell (some (.ref D)), csl⟩) (hcd : PySem.W.codeIn K cdv qual = true) (S : CScope N ps scope)
    (len : ∀ vs H Q E, sp vs H Q E → vs.length = ps.length)
    (hbody : ∀ (A : Around) (outer : List Env) (s : Shared) (H : Hp) (vs : List V) (Q : VK) (E : XK), Room k (A.deeper (PySem.W.ksEnv qual scope s.heap.objs.size f cdv cc)) → sp vs H Q E →
      ∃ t, NSs (cxC CX P w K mg base N qual scope f cdv cc A outer s H E) body body t ∧ t { nx := fun _ H' => Q .non H', rt := Q } (L2.start N vs) H) :
    FnOk P w K mg base CX (k + 1) f (PySem.W.ksFn name qual params body scope dV kV doc pm an cdv ct cc) ps sp := by
  refine ⟨len, fun A outer s H args us vs Q E hr e0 hb r hsp => ?_⟩
  have hl := len _ _ _ _ hsp
  have hlu : us.length = ps.length := by rw [← hl]; exact r.length.symm
  have KX : K.In s.heap := e0.mod.kin.keeps fun b o e => (e0.bs b o e).1
  have lim : s.heap.NoLimit := e0.mod.nolimit.keeps fun b o e => (e0.bs b o e).1
  have hloc : ∀ y ∈ ps.zip us, scope.names.lookup y.1 = some .local := fun ⟨n, v⟩ hy => S.par n (List.of_mem_zip hy).1
  have ndP : ps.Nodup := by rw [← S.pre]; exact S.nd.sublist (List.take_sublist _ _)
  have hpl : ps.length ≤ N.length := by have := congrArg List.length S.pre; rw [List.length_take] at this; omega
  refine PySem.ks_codeAny_call_defAt (fd := PySem.W.ksFn name qual params body scope dV kV doc pm an cdv ct cc) (body := body) (binds := ps.zip us) hr.depth (KX _ _ lk) rfl lim (PySem.W.codeRec_of KX hcd) rfl hb S.nocell hloc (fun h₀ hns hk => ?_) S.co S.gen S.kind
  obtain ⟨t, ht, hq⟩ := hbody A outer s H vs Q E (hr.deeper _) hsp
  have noA : ∀ b : Addr, b ∉ (cxC CX P w K mg base N qual scope f cdv cc A outer s H E).ex := fun b z => absurd (show b ∈ ([] : List Addr) from z) (by simp)
  have hcells : ∀ (x : Str) (c : Addr), (cxC CX P w K mg base N qual scope f cdv cc A outer s H E).env.cells.lookup x = some c → x = "__class__" ∧ c = cc := fun x c h => by
    have h : List.lookup x [(("__class__" : Str), cc)] = some c := h
    simp only [List.lookup] at h
    split at h
    · rename_i e
      exact ⟨by simpa using e, (Option.some.inj h).symm⟩
    · cases h
  have hcc : base.get? cc = some ⟨cl, cld, .cell (some (.ref D)), csl⟩ := e0.mod.kin _ _ lc
  have I : Inv (cxC CX P w K mg base N qual scope f cdv cc A outer s H E) [] (start N vs) H { s with heap := h₀, toks := s.toks + (ps.zip us).length } := by
    refine ⟨⟨e0.mod, S.kind, rfl, rfl, Nat.le_refl _, fun y z c h1 h2 => ?_, fun y hy => ?_, fun y c hf _ => absurd hf (by show ¬ false = true; decide), fun _ => hr.hd, Around.frames_deeper e0.frames, .inr ⟨rfl, rfl⟩, fun b z => absurd z (noA b), e0.bs, e0.bsz, fun b _ _ => noA b, fun b z => absurd z (noA b), e0.funs, e0.frf⟩,
      rfl, e0.bare, Un.kept hk, ⟨_, hns, fun i y v h1 h2 h3 => ?_⟩, fun y c h => ?_, e0.hok.fresh (Nat.le_refl _), fun y c h => ?_, fun p hp => absurd (show p ∈ ([] : List (Addr × Obj)) from hp) (by simp), e0.hok.kept hk, ?_⟩
    · rw [(hcells _ _ h1).1, (hcells _ _ h2).1]
    · have hy : scope.names.lookup y = some .cell ∨ scope.names.lookup y = some .free := hy
      rcases hy with hy | hy
      · exact absurd rfl (S.nocell _ (PySem.mem_of_lookup hy))
      · have e := S.free _ (PySem.mem_of_lookup hy) rfl
        have e : y = "__class__" := e
        subst e
        exact ⟨cc, rfl⟩
    · have hi : i < vs.length := by
        unfold L2.start at h2
        by_cases hi : i < vs.length
        · exact hi
        · rw [List.getElem?_append_right (by simpa using hi)] at h2
          rw [List.getElem?_replicate] at h2
          split at h2 <;> cases h2
      have ha : vs[i]? = some v := by
        unfold L2.start at h2
        rw [List.getElem?_append_left (by simpa using hi), List.getElem?_map] at h2
        cases e : vs[i]? with
        | none => rw [e] at h2; cases h2
        | some a => rw [e] at h2; cases h2; rfl
      obtain ⟨u, hu, rv⟩ := r.get ha
      have hp : ps[i]? = some y := by
        rw [← S.pre, List.getElem?_take_of_lt (by omega)]; exact h1
      exact ⟨u, rv, .inl ⟨S.par y (List.mem_of_getElem? hp), zip_lk ndP hlu hp hu⟩⟩
    · rw [(hcells _ _ h).2]
      exact ⟨_, _, hk _ _ (KX _ _ lc), rfl⟩
    · rw [(hcells _ _ h).2]
      exact (e0.bs _ _ hcc).2
    · unfold L2.start
      show _ = N.length
      rw [List.length_append, List.length_map, List.length_replicate]
      omega
  refine PySem.ks_wpAt_mono (ht.run [] _ (start N vs) H _ I hq) (fun fl s' hs => ?_) fun e s' hs => hs
  have fin : ∀ {σ' : L2.St} {H' : Hp} {v : V} {u : Value}, Inv (cxC CX P w K mg base N qual scope f cdv cc A outer s H E) [] σ' H' s' → RelV v u → Q v H' → CE outer P w H s Q u s' :=
    fun {σ' H' v u} J rv q => ⟨v, H', J.os, J.bare, J.base, J.hok, rv, q⟩
  cases fl with
  | ret u =>
    obtain ⟨v, σ', H', J, rv, q⟩ := hs
    exact fin J rv q
  | next =>
    obtain ⟨σ', H', J, q⟩ := hs
    exact fin (v := V.non) (u := Value.none) J rfl q
  | brk =>
    obtain ⟨_, _, _, q⟩ := hs
    exact False.elim q
  | cont =>
    obtain ⟨_, _, _, q⟩ := hs
    exact False.elim q
end
end LR

set_option Elab.async false
set_option maxRecDepth 100000
set_option linter.all false
set_option maxHeartbeats 4000000
namespace LR
open PySem PySem.Spec PyProof.Rows L2
/-- what the written part says of a def with super(), standing at f, of the class at D -/
structure SupIn (prog : Program) (K : PySem.W.Frag) (mg : Str → Option Value) (f cc cda D : Addr) (fd : FuncData) (me : Str) : Prop where
  fn : ∃ oc od osl, K.lookup f = some ⟨oc, od, .func fd, osl⟩
  head : ∃ ar : Arg, (fd.params.posonlyargs ++ fd.params.args).head? = some ar ∧ ar.arg = me
  code : ∃ (ccl : Value) (cdd : Option Addr) (vs : Array Value) (ccs : Array (Option Value)) (file : Str) (tf : Tok), K.lookup cda = some ⟨ccl, cdd, .fields vs, ccs⟩ ∧ vs[2]? = some (.str file tf) ∧ ((prog.main.file : Str) == file) = true
  cell : ∃ cl cld csl, K.lookup cc = some ⟨cl, cld, .cell (some (.ref D)), csl⟩
  cls : ∃ cd, PySem.W.clsIn K D = some cd
  sup : mg "super" = none
  top : (prog.main.scope.names.lookup ("super" : Str)).isSome = false
  any : PySem.W.nsIn K cStatics "thirdparty.any" = some none
theorem b_super : bootBuiltins "super" = some (.type "super") := by first | decide +kernel | rfl | kernel_rfl
theorem pin_newA {X : Cx} {pins : List (Addr × Obj)} {σ : L2.St} {H : Hp} {s : Shared} {o : Obj} {h' : Heap} {a : Addr} {t' : Nat} (I : Inv X pins σ H s) (k : ∀ b u, s.heap.get? b = some u → h'.get? b = some u) (ha : s.heap.objs.size ≤ a) (ho : h'.get? a = some o) (hc : ∀ v, o.data ≠ .cell v) :
    Inv X ((a, o) :: pins) σ H { s with heap := h', toks := t' } := ClX.pin_new I k ha ho hc
section
variable {X : Cx} {pins : List (Addr × Obj)} {σ : L2.St} {H : Hp} {s : Shared} {body : List Stmt} {f cc cda D C x : Addr} {fd : FuncData} {self attr : Str} {p0 p1 : Pos} {whole : Sem Value} {Q : Value → Shared → Prop} {i : Nat}
theorem super_base (S : SupIn X.prog X.K X.mg f cc cda D fd self) (I : Inv X pins σ H s) {ox : Obj} (hx : s.heap.get? x = some ox) (hxc : ox.cls = .ref C) (hnc : ∀ c, ox.data ≠ .cls c) (hsub : PySem.W.mroIn X.K C (.ref D) = some true)
    (hi : X.N[i]? = some self) (hσ : σ[i]? = some (some (.ref x))) (hka : X.env.kindOf self = some .local)
    (hks : X.env.kindOf "super" = some .globalImplicit) (hkc : X.env.kindOf "__class__" = some .free) (hfu : X.env.func = some f) (hco : X.env.code = .ref cda) (hcl : X.env.cells.lookup ("__class__" : Str) = some cc)
    (hat : (attr == ("__class__" : Str)) = false)
    (h : ∀ (so : Addr) (h' : Heap), h'.get? so = some (PySem.W.ks_superObj D x C) → Inv X ((so, PySem.W.ks_superObj D x C) :: pins) σ H { s with heap := h' } → (∀ b u, s.heap.get? b = some u → h'.get? b = some u) → Q (.ref so) { s with heap := h' }) {E : Value → Shared → Prop} :
    PySem.wpAt (model X.prog X.w) X.A (.func body X.env) (attributeBase (.Call (.Name "super" p0) [] [] p1) attr X.env whole) Q E s := by
  obtain ⟨oc, od, osl, hf⟩ := S.fn
  obtain ⟨ar, hp, har⟩ := S.head
  obtain ⟨ccl, cdd, vs, ccs, file, tf, hcode, hvs, hfile⟩ := S.code
  obtain ⟨cl, cld, csl, hcell⟩ := S.cell
  obtain ⟨cdD, hD⟩ := S.cls
  have KX := I.kIn
  obtain ⟨oD, hD1, hD2⟩ : ∃ oD, s.heap.get? D = some oD ∧ oD.data = .cls cdD := by
    unfold PySem.W.clsIn at hD
    split at hD
    · rename_i c d cd' sl ho
      cases hD
      exact ⟨_, KX _ _ ho, rfl⟩
    · cases hD
  subst har
  have kind := I.ok.kind
  obtain ⟨mb, hb1, hb2⟩ := I.mod.blt
  refine PySem.ks_wpAt_super_base (env := X.env) hks hkc hat hfu (KX _ _ hf) rfl hp hco (KX _ _ hcode) rfl hvs hfile S.top ?_
  refine PySem.W.ks_loadName_global kind hks (Calls.loadGlobal_builtin (by rw [I.ok.glob]; exact I.mod.glob.keeps I.bk) S.sup (by rw [I.ok.blt]; exact hb1.keeps I.bk) ((hb2 _ (by decide)).trans b_super) ⟨rfl, ?_⟩)
  refine wpAny_loadName_free kind hkc hcl ⟨_, KX _ _ hcell, rfl⟩ ?_
  obtain ⟨m, hns, hloc⟩ := id I.loc
  obtain ⟨u, ru, hlook⟩ := hloc i _ _ hi hσ (.inl hka)
  obtain rfl : u = Value.ref x := ru
  rcases hlook with ⟨_, hm⟩ | ⟨hk, _⟩
  · refine wpAny_loadName_local kind hka hns hm ?_
    obtain ⟨hh, g, d, t, os⟩ := s
    refine PySem.ks_wpAny_isType_cls hD1 hD2 ⟨rfl, ?_⟩
    refine PySem.ks_wpAny_call_super hD1 hD2 hx hxc hnc (PySem.W.looks_mroIn KX hsub) (fun h' e k => ?_)
    exact h _ h' e (pin_newA (t' := t) I k (Nat.le_refl _) e (fun v z => by cases z)) k
  · rw [hka] at hk
    rcases hk with hk | hk <;> cases hk
end
/-! ### super().__init__(..) where the built-in's __init__ is meant -/
section
open PySem.W
variable {prog : Program} {w : World} {A : Around} {E : Value → Shared → Prop} {h : Heap} {g : Array GenState} {d : Drawn} {t : Nat} {os : OsState}
variable {nm q : Str} {C N : Addr} {bs bm : List Value} {hdct : Bool} {sn : List Str} {sub : List Value} {ab : Bool} {col : Option Bool} {dd : Option Addr} {k0 k1 k2 k3 k5 : Option Value}
theorem call_mwVE {u e t0 : Addr} {rest : List Value} {Q : Value → Shared → Prop}
    (hC : h.get? C = some (excClassObj nm q C N bs bm hdct sn sub ab col dd k0 k1 k2 k3 k5 "ValueError.__new__")) (he : h.get? e = some (HandSPX.excO C t0)) (hu : h.get? u = some (kxs_mw "ValueError.__init__" e)) (hrest : rest.length ≤ sizeLine)
    (hq : ∀ h' t1, (∀ b o, b ≠ e → h.get? b = some o → h'.get? b = some o) → h'.get? e = some (HandSPX.excO C t1) → Q .none ⟨h', g, d, t, os⟩) :
    wpAny (model prog w) A (call (.ref u) rest) Q E ⟨h, g, d, t, os⟩ := by
  refine wpAny_call (codeAny_of_tree ?_)
  show wpAny _ A.in1 (callAny (.ref u) ⟨rest, []⟩) _ _ _
  simp only [callAny]
  refine wpAny_bind (wpAny_load hu ?_)
  simp only [kxs_mw, show (Value.type "method-wrapper" == Value.type "method" || Value.type "method-wrapper" == Value.type "builtin_function_or_method" || Value.type "method-wrapper" == Value.type "method-wrapper") = true by decide, if_true]
  refine KFB.if_so (by decide) ?_
  refine wpAny_bind (ESX.check_bound F.excBase_ValueError hC he rfl ?_)
  refine wpAny_bind (wpAny_pure (wpAny_pure ?_))
  refine ⟨Code.quiet_builtin _ (by decide +kernel), codeAny_builtin F.excBase_ValueError.initEntry ?_⟩
  rw [Around.under_plainId F.excBase_ValueError.init.plain _]
  wp_walk
  refine hq _ h.objs.size (fun b o hb ho => ?_) ?_
  · rw [Heap.get?_update_other _ _ (Ne.symm hb)]
    exact Heap.get?_push_of_some _ ho
  · rw [Heap.get?_update_self _ (Heap.get?_push_of_some _ he) rfl]
    rfl
end
section
variable {X : Cx} {body : List Stmt} {f cc cda D C : Addr} {fd : FuncData} {me m : Str} {p0 p1 pos apos : Pos} {i : Nat} {e : Expr} {es : List Expr} {ta : TA} {pl : Sem Bool}
/-- super().__init__(e, ..) in an exception's own __init__: nothing of it is told -/
def tSupV (C : Addr) (i : Nat) (ta : TA) : TE := fun σ H Q => ∃ x : Addr, σ[i]? = some (some (.ref x)) ∧ H x = some (exo x C none) ∧ ta σ H fun vs H1 => vs.length ≤ 1000 ∧ H1 x = some (exo x C none) ∧ Q .non H1
theorem ne_supV (S : SupIn X.prog X.K X.mg f cc cda C fd me) (T : OexC X.K C) (hm : PySem.W.ks_superIn X.K C C "__init__" = some (some (.builtin "ValueError.__init__"))) (hsub : PySem.W.mroIn X.K C (.ref C) = some true) (hB : PySem.W.subIn X.K (.ref C) (.type "ValueError") = some true)
    (ha : PA X (e :: es) ta)
    (hi : X.N[i]? = some me := by rfl) (hka : X.env.kindOf me = some .local := by rfl)
    (hks : X.env.kindOf "super" = some .globalImplicit := by rfl) (hkc : X.env.kindOf "__class__" = some .free := by rfl) (hfu : X.env.func = some f := by rfl) (hco : X.env.code = .ref cda := by rfl) (hcl : X.env.cells.lookup ("__class__" : Str) = some cc := by rfl)
    (hst : starEach (e :: es) X.env = (false, eval e X.env) :: starEach es X.env := by rfl) (hpl : (backTo pos (starEach es X.env)).any (·.1) = false := by rfl)
    (ht : eval (.Call (.Attribute (.Call (.Name "super" p0) [] [] p1) "__init__" apos) (e :: es) [] pos) X.env = (do
      let ov ← attributeBase (.Call (.Name "super" p0) [] [] p1) "__init__" X.env (eval (.Call (.Name "super" p0) [] [] p1) X.env)
      standAt apos.atName
      let (f, first) ← holding [ov] (getMethod ov "__init__" pl)
      callWith pos f first (backTo pos (starEach (e :: es) X.env)) []) := by rfl) :
    NE X body (.Call (.Attribute (.Call (.Name "super" p0) [] [] p1) "__init__" apos) (e :: es) [] pos) (tSupV C i ta) := by
  refine ⟨fun pins s σ H Q I h => ?_⟩
  obtain ⟨x, hσ, hx, q⟩ := h
  obtain ⟨t1, hox⟩ := exo_at I.hok hx
  refine PySem.ks_wpAt_MethodCall (pl := pl) (super_base S I hox rfl (fun c z => by cases z) hsub hi hσ hka hks hkc hfu hco hcl (by decide) (fun so h' hso J k => ?_)) ht
  have KX := J.kIn
  have hox' := k _ _ hox
  have IA : PySem.W.InstAt h' x { cls := .ref C, dict := none, data := .fields #[.ref t1, .none, .none, .none, .bool false, .none] } C none := ⟨hox', rfl, rfl, trivial⟩
  cases hc : PySem.W.clsIn X.K C with
  | none => unfold PySem.W.ks_superIn at hm; rw [hc] at hm; cases hm
  | some cd =>
    unfold PySem.W.ks_superIn at hm
    rw [hc] at hm
    obtain ⟨hh, g, d, t, os⟩ := s
    refine PySem.W.kxs_getMethod PySem.W.kxs_ValueError hso (PySem.W.looks_opaque KX S.any) (l₀ := cd.mro) (fun A Q E s k q => wpAny_bind ((PySem.W.looks_clsIn KX hc) A _ E s k (wpAny_pure q))) rfl KX hm (IA.type.andThen (PySem.W.looks_subIn KX hB)) (PySem.W.ks_ne KX IA hc) (by decide) ?_
    have J2 := pin_newA (t' := t + 1) J (fun b u z => Heap.get?_push_of_some (PySem.W.kxs_mw "ValueError.__init__" x) z) (Nat.le_refl _) (Heap.get?_push_at rfl rfl) (fun v z => by cases z)
    rw [hst]
    refine PySem.W.kxs_callWith (i := "ValueError.__init__") (x := x) (by show (false || (backTo pos (starEach es X.env)).any (·.1)) = false; rw [hpl]; rfl) ?_
    have ha' := fun pins s H Q I q => ha.run pos pins s σ H Q I q
    rw [hst] at ha'
    refine PySem.Calls.evalArgs_plain (thn (ha' _ _ H _ J2 q) fun us s3 ⟨vs, H1, I3, rv, hl, hx1, q1⟩ => ⟨ClX.pin_at I3, ?_⟩)
    have I4 := ClX.unpin (ClX.unpin I3)
    obtain ⟨t2, hox2⟩ := exo_at I4.hok hx1
    obtain ⟨nm, qn, N, bs, bm, sn, sub, ab, col, dd, k0, k1, k2, k3, k5, hC, hbm⟩ := T.cls
    have hmw := ClX.pin_at I3
    obtain ⟨hp, g3, d3, t3, os3⟩ := s3
    refine call_mwVE (I4.kIn _ _ hC) hox2 hmw ?_ (fun h5 t5 k5 hx5 => ?_)
    · have := rv.length
      show us.length ≤ sizeLine
      rw [← this, sizeLine_eq]; omega
    · have J5 := I4.write (t' := t3) (x := x) (e := x) (o := exo x C none) (by rw [hx1]; exact True.intro) (.inl rfl) k5 ⟨_, hx5⟩ (exo_ok hx5)
      have eu : upd H1 x (exo x C none) = H1 := by
        funext b
        by_cases hb : b = x
        · rw [hb, upd_same, hx1]
        · rw [upd_ne hb]
      rw [eu] at J5
      exact ⟨.non, H1, J5, rfl, q1⟩
end
end LR

set_option Elab.async false
set_option maxRecDepth 100000
set_option linter.all false
set_option maxHeartbeats 4000000
namespace LR
open PySem PySem.Spec PyProof.Rows L2
/-! ## isinstance of an error that a suite holds -/
/-- the error's own dict (if it has one) is known -/
def DictKnown (H : Hp) : Option Addr → Prop
  | none => True
  | some dd => ∃ fs, H dd = some (.xd fs)
structure ErrC (K : PySem.W.Frag) (C : Addr) : Prop where
  cl : (PySem.W.clsIn K C).isSome = true
  ga : PySem.W.findIn K (.ref C) "__getattribute__" = some (some (.builtin "BaseException.__getattribute__"))
  gg : PySem.W.findIn K (.ref C) "__getattr__" = some none
  sb : PySem.W.subIn K (.ref C) (.type "BaseException") = some true
  ac : PySem.W.findIn K (.ref C) "__class__" = some (some (.builtin "object.__class__"))
  mo : PySem.W.mroIn K C (.type "object") = some true
  hd : PySem.W.hasDictIn K C = true
/-- .. and of the built-in object -/
structure ObjC (K : PySem.W.Frag) : Prop where
  gt : PySem.W.specialIn K (.builtin "object.__class__") "__get__" = some (some (.builtin "getset_descriptor.__get__"))
  tk : PySem.W.takesIn K (.builtin "object.__class__") = some true
def rIsX (K : PySem.W.Frag) (cls : Value) (a : Addr) (d : Option Addr) : List V → Hp → VK → Prop := fun xs H Q => ∃ C : Addr, cls = .ref C ∧ ErrC K C ∧ DictKnown H d ∧
  ((∃ (c : V) (cv : Value) (b : Bool), xs = [.ref a, c] ∧ ClsV c cv ∧ PySem.W.kitOne K (.ref C) cv = some b ∧ Q (.bl b) H) ∨
    ∃ (tp : Addr) (cs : List V) (us : List Value) (b : Bool), xs = [.ref a, .ref tp] ∧ H tp = some (.tup cs) ∧ Paired ClsV cs us ∧ PySem.W.kitAny K (.ref C) us = some b ∧ Q (.bl b) H)
theorem call_isX {X : Cx} {a : Addr} {cls : Value} {d : Option Addr} {oe : Obj} {pn : List (Addr × Obj)} (O : ObjC X.K) (hz : Zc cls d oe) (hf : ∃ vs, oe.data = .fields vs) :
    CallR (X.suite a ((a, oe) :: pn)) (.builtin "isinstance") (rIsX X.K cls a d) := by
  intro pins s σ H xs us Q I r h
  obtain ⟨C, rfl, E, hd, h⟩ := h
  obtain ⟨hget, _⟩ := I.pin (a, oe) (List.mem_append.mpr (.inl List.mem_cons_self))
  obtain ⟨fv, hfv⟩ := hf
  have nc : PySem.W.notCls oe = true := by unfold PySem.W.notCls; rw [hfv] <;> rfl
  have J : ∃ od, PySem.W.InstAt s.heap a oe C od := by
    cases d with
    | none => exact ⟨none, hget, hz.1, nc, by rw [hz.2]; trivial⟩
    | some dd =>
      obtain ⟨fs, hdd⟩ := hd
      obtain ⟨mA, hns, _⟩ := (show ObjOk X.prog X.w H s.heap dd (.xd fs) from I.hok dd _ hdd)
      obtain ⟨od, ho, _⟩ := lookIn_ns hns
      exact ⟨some od, hget, hz.1, nc, by rw [hz.2]; exact ho⟩
  obtain ⟨od, J⟩ := J
  have Z := PySem.W.kitx_exc (x := a) (ox := oe) (od := od) E.cl E.ga E.gg E.sb E.ac O.gt O.tk E.mo
  rcases h with ⟨c, cv, b, rfl, kc, e, q⟩ | ⟨tp, cs, ws, b, rfl, hT, kc, e, q⟩
  · cases r with
    | cons rx rr =>
      cases rr with
      | cons rt rn =>
        cases rn
        cases rx
        have ec := kc.eq rt
        subst ec
        exact PySem.W.kia_one Z I.kIn J e (fun z => nomatch z) fun tk => ⟨.bl b, H, I.tok tk, rfl, q⟩
  · cases r with
    | cons rx rr =>
      cases rr with
      | cons rt rn =>
        cases rn
        cases rx
        cases rt
        obtain ⟨_, its, rv, o, h1, h2, n, h3⟩ := (show ObjOk X.prog X.w H s.heap tp (.tup cs) from I.hok tp _ hT)
        have e3 := ClsV.all kc rv
        subst e3
        obtain ⟨oc, od', dt, sl⟩ := o
        simp only at h2 h3
        subst h2 h3
        exact PySem.W.kia_tup Z I.kIn J h1 e (fun z => nomatch z) fun tk => ⟨.bl b, H, I.tok tk, rfl, q⟩
theorem b_ValueError : bootBuiltins "ValueError" = some (.type "ValueError") := by decide +kernel
/-! ## try with several clauses, each with a name or without -/
abbrev Clause := Value × Option Nat × (Addr → Value → Option Addr → TS)
/-- a suite that holds the error in slot i leaves the slot empty -/
def emptied (i : Nat) (D : Ends) : Ends := { nx := fun σ H => D.nx (σ.set i none) H, rt := D.rt, bk := fun σ H => D.bk (σ.set i none) H, ct := fun σ H => D.ct (σ.set i none) H }
def wCl (K : PySem.W.Frag) (Wout : WX) (D : Ends) : List Clause → WX
  | [] => Wout
  | (c, none, ts) :: r => fun cls d σ H => ∃ b, PySem.W.exmOne K cls c = some b ∧ (b = true → ∀ a, H a = none → ts a cls d D σ H) ∧ (b = false → wCl K Wout D r cls d σ H)
  | (c, some i, ts) :: r => fun cls d σ H => ∃ b, PySem.W.exmOne K cls c = some b ∧ (b = true → ∀ a, H a = none → ts a cls d (emptied i D) (σ.set i (some (.ref a))) H) ∧ (b = false → wCl K Wout D r cls d σ H)
def SuiteOk (X : Cx) (body : List Stmt) (ts : Addr → Value → Option Addr → TS) : Prop :=
  ∀ (a : Addr) (oe : Obj) (cls : Value) (d : Option Addr) (pn : List (Addr × Obj)), Zc cls d oe → (∃ vs, oe.data = .fields vs) → PSs (X.suite a ((a, oe) :: pn)) body (ts a cls d)
inductive ClOk (X : Cx) : List ExceptHandler → List Clause → Prop
  | nil : ClOk X [] []
  | bare {x : Str} {c : Value} {ts} {b₀ : Stmt} {suite : List Stmt} {np pos' : Pos} {hds l} (hc : Names X x c) (hsu : SuiteOk X (b₀ :: suite) ts) (r : ClOk X hds l) :
      ClOk X (.ExceptHandler (some (.Name x np)) none (b₀ :: suite) pos' :: hds) ((c, none, ts) :: l)
  | held {x n : Str} {i : Nat} {c : Value} {ts} {b₀ : Stmt} {suite : List Stmt} {np pos' : Pos} {hds l} (hi : X.N[i]? = some n) (hln : X.env.kindOf n = some .local) (hc : Names X x c) (hsu : SuiteOk X (b₀ :: suite) ts) (r : ClOk X hds l) :
      ClOk X (.ExceptHandler (some (.Name x np)) (some n) (b₀ :: suite) pos' :: hds) ((c, some i, ts) :: l)
section
variable {X : Cx} {body : List Stmt} {h₀ : ExceptHandler} {hds : List ExceptHandler} {l : List Clause} {pos : Pos} {tb : WX → TS} {Wout : WX}
theorem ps_try_any (hs : X.stack = X.env :: X.outer) (hf : X.env.frame = some X.env.locals) (hN : X.N.Nodup) (tk : Takes X Wout)
    (hb : ∀ (W : WX) (pn : List (Addr × Obj)) (xe : Value → Shared → Prop), Takes (X.tr pn xe) W → PassesOwn (model X.prog X.w) X.A X.env xe → PSs (X.tr pn xe) body (tb W))
    (hh : ClOk X (h₀ :: hds) l) : PS X (.Try body (h₀ :: hds) [] [] pos) (fun D σ H => tb (wCl X.K Wout D l) D σ H) := by
  refine ⟨fun pins s σ H D I h => ?_⟩
  have ok := I.ok
  have fr1 : X.A.frames = some (X.env :: X.outer) := ok.frames.trans (congrArg some hs)
  refine wpAny_Try_except ?_
  -- what the body's error meets: the frame's note, then the clauses
  let meets : Value → Shared → Prop := fun e s₁ => wpAny (model X.prog X.w) X.A (noteFrame e X.env) (fun _ s₂ => wpAny (model X.prog X.w) X.A (setFlight e none) (fun _ s₃ => wpAny (model X.prog X.w) X.A (handleBy e X.env (h₀ :: hds)) (SP X pins D) X.xe s₃) X.xe s₂) X.xe s₁
  have caught : ∀ u s', XE (X.tr (X.pn ++ pins) meets) (wCl X.K Wout D l) u s' → meets u s' := by
    intro u s' xx
    obtain ⟨a, B, sI, pins', σ', H', cls, d, rfl, J', nb, up, sky, na, os, ag, w⟩ := xx
    have J : Inv X pins σ' H' sI := J'.ofTry ok
    refine Sky.land Zc.steady fr1 hf (L := X.env.locals) (by rw [← hs]; exact sky) fun h3 fl3 up3 => ?_
    have J3 : Inv X pins σ' H' { s' with heap := h3 } := J.landed nb fl3.1 (up.trans up3) os ag
    obtain ⟨oe3, vs3, he3, hz3, hd3⟩ := fl3.there
    have out : a ∉ frs (X.env :: X.outer) := fun hm => by
      obtain ⟨_, o', e', hnf⟩ := fl3.2.2.1.mem hm
      rw [he3] at e'; cases e'
      exact hnf _ hd3
    have nL : a ≠ X.env.locals := fun z => out (List.mem_filterMap.mpr ⟨X.env, .head _, by rw [hf, z]⟩)
    have nF : a ∉ X.fs := fun hm => by
      obtain ⟨e, he, q⟩ := List.mem_filterMap.mp hm
      exact out (List.mem_filterMap.mpr ⟨e, .tail _ he, q⟩)
    have S3 := J3.suite he3 hd3 na nL nF
    have LT : PySem.W.Looks (model X.prog X.w) h3 (typeOf (.ref a)) cls := fun A Q E s k q => wpAny_typeOf_ref (k _ _ he3) (by rw [hz3.1]; exact q)
    have test : ∀ {x : Str} {np : Pos} {c : Value} {Q : Value → Shared → Prop} {E : Value → Shared → Prop}, Names X x c → Q c { s' with heap := h3 } → wpAny (model X.prog X.w) (X.A.mark (some (.ref a))) (eval (.Name x np) X.env) Q E { s' with heap := h3 } := by
      intro x np c Q E hc q
      obtain ⟨hg, hdbg, hm | ⟨hm, hv, hnn⟩⟩ := hc
      · exact ld_glob (X := X.suite a ((a, oe3) :: (X.pn ++ pins))) S3 hg hm q hdbg
      · exact ld_blt (X := X.suite a ((a, oe3) :: (X.pn ++ pins))) S3 hg hm hv q hnn hdbg
    -- the clauses one after the other
    have go : ∀ (hs1 : List ExceptHandler) (l1 : List Clause), ClOk X hs1 l1 → wCl X.K Wout D l1 cls d σ' H' → wpAny (model X.prog X.w) X.A (handleBy (.ref a) X.env hs1) (SP X pins D) X.xe { s' with heap := h3 } := by
      intro hs1 l1 hk
      induction hk with
      | nil =>
        intro w
        refine wpAny_handleBy_nil ?_
        have again := fl3
        obtain ⟨_, _, _, oe, fvs, T, oT, ts', he, hz, hd, h1, hr⟩ := again
        unfold PySem.passOn
        refine wpAny_bind (wpAny_field he hd h1 ?_)
        rw [if_neg (show ¬ ((Value.ref T == Value.none) = true) from by simp)]
        have onward : wpAny (model X.prog X.w) X.A (setFlight (.ref a) X.env.frame) (fun _ s4 => wpAny (model X.prog X.w) X.A (throw (.ref a) : Sem Flow) (SP X pins D) X.xe s4) X.xe { s' with heap := h3 } := by
          rw [hf]
          exact HandSPX.setFlight_upZ fl3 fun h4 hh4 up4 => wpAny_throw (tk _ _ ⟨a, B, sI, pins, σ', H', cls, d, rfl, J, nb, (up.trans up3).trans up4, .inr (.inr (by rw [hs]; exact hh4)), na, os, ag, w⟩)
        first
          | exact wpAny_bind (wpAny_pure (wpAny_bind onward))
          | exact wpAny_bind onward
      | bare hc hsu r ih =>
        rintro ⟨b, hb1, yes, no⟩
        refine wpAny_handleBy_cons (codeAny_handlers_test ?_) (by intro q; cases q)
        refine test hc ((PySem.W.exm_one (M := model X.prog X.w) J3.kIn LT hb1).here ?_)
        cases b with
        | false => exact ih (no rfl)
        | true =>
          refine codeAny_handlers_suite (HandSPX.lands_againZ fl3 fun h4 fl4 up4 => ?_)
          obtain ⟨oe4, vs4, he4, hz4, hd4⟩ := fl4.there
          have S4 := (show Inv X pins σ' H' { s' with heap := h4 } from J.landed nb fl4.1 ((up.trans up3).trans up4) os ag).suite he4 hd4 na nL nF
          refine wpAny_mono ((hsu a oe4 cls d (X.pn ++ pins) hz4 ⟨_, hd4⟩).run [] _ _ H' _ S4 (yes rfl a na)) (fun f s6 hsp => ?_) (fun _ _ z => False.elim z)
          cases f with
          | ret u => obtain ⟨v6, σ6, H6, S6, r6, q6⟩ := hsp; exact ⟨_, _, _, S6.unsuite ok, r6, q6⟩
          | next => obtain ⟨σ6, H6, S6, q6⟩ := hsp; exact ⟨_, _, S6.unsuite ok, q6⟩
          | brk => obtain ⟨σ6, H6, S6, q6⟩ := hsp; exact ⟨_, _, S6.unsuite ok, q6⟩
          | cont => obtain ⟨σ6, H6, S6, q6⟩ := hsp; exact ⟨_, _, S6.unsuite ok, q6⟩
      | @held _ n i _ _ _ _ _ _ _ _ hi hln hc hsu r ih =>
        rintro ⟨b, hb1, yes, no⟩
        refine wpAny_handleBy_cons (codeAny_handlers_test ?_) (by intro q; cases q)
        refine test hc ((PySem.W.exm_one (M := model X.prog X.w) J3.kIn LT hb1).here ?_)
        cases b with
        | false => exact ih (no rfl)
        | true =>
          refine codeAny_handlers_suite_as (HandSPX.lands_againZ fl3 fun h4 fl4 up4 => ?_)
          obtain ⟨oe4, vs4, he4, hz4, hd4⟩ := fl4.there
          have S4 := (show Inv X pins σ' H' { s' with heap := h4 } from J.landed nb fl4.1 ((up.trans up3).trans up4) os ag).suite he4 hd4 na nL nF
          refine store_ok (X := X.suite a ((a, oe4) :: (X.pn ++ pins))) (v := .ref a) S4 hN hi (.inl hln) rfl (fun s5 S5 => ?_) (.inr hln)
          refine wpAny_mono ((hsu a oe4 cls d (X.pn ++ pins) hz4 ⟨_, hd4⟩).run [] s5 _ H' _ S5 (yes rfl a na)) (fun f s6 hsp => ?_) (fun _ _ z => False.elim z)
          have leave : ∀ {σ6 : L2.St} {H6 : Hp} {Q : Shared → Prop} {p : Pos}, Inv (X.suite a ((a, oe4) :: (X.pn ++ pins))) [] σ6 H6 s6 → (∀ s7, Inv X pins (σ6.set i none) H6 s7 → Q s7) →
              wpAny (model X.prog X.w) X.A (do bindName X.env n .none; unbindBehindTheSuite X.env n p) (fun _ s7 => Q s7) X.xe s6 := fun S6 hq => gone_ok (S6.unsuite ok) hN hi hln hq
          cases f with
          | ret u => obtain ⟨v6, σ6, H6, S6, r6, q6⟩ := hsp; exact leave S6 fun s7 J7 => ⟨_, _, _, J7, r6, q6⟩
          | next => obtain ⟨σ6, H6, S6, q6⟩ := hsp; exact leave S6 fun s7 J7 => ⟨_, _, J7, q6⟩
          | brk => obtain ⟨σ6, H6, S6, q6⟩ := hsp; exact leave S6 fun s7 J7 => ⟨_, _, J7, q6⟩
          | cont => obtain ⟨σ6, H6, S6, q6⟩ := hsp; exact leave S6 fun s7 J7 => ⟨_, _, J7, q6⟩
    exact go _ _ hh w
  refine wpAny_mono ((hb (wCl X.K Wout D l) (X.pn ++ pins) meets caught PassesOwn.looking).run [] s σ H D (I.toTry _) h) (fun f s1 hsp => ?_) (fun e s1 he => he)
  cases f with
  | next => obtain ⟨σ', H', J', q⟩ := hsp; exact wpAny_execs_nil ⟨σ', H', J'.ofTry ok, q⟩
  | brk => obtain ⟨σ', H', J', q⟩ := hsp; exact ⟨σ', H', J'.ofTry ok, q⟩
  | cont => obtain ⟨σ', H', J', q⟩ := hsp; exact ⟨σ', H', J'.ofTry ok, q⟩
  | ret u => obtain ⟨v, σ', H', J', r, q⟩ := hsp; exact ⟨v, σ', H', J'.ofTry ok, r, q⟩
end
end LR

set_option Elab.async false
set_option maxRecDepth 100000
set_option linter.all false
set_option maxHeartbeats 4000000
namespace LR
open PySem PySem.Spec PyProof.Rows L2
/-! ## f-strings of which nothing is told -/
section
variable {σ : L2.St} {H : Hp} {ts : List TE} {acc a : Str} {n i : Nat} {v : Int} {Q : Str → Hp → Prop}
theorem js_c (hn : n ≤ 100000) (hacc : acc.length ≤ n) (ha : a.length ≤ 1000) (k : ∀ acc' : Str, acc'.length ≤ n + 1000 → tJs ts acc' σ H Q) : tJs (tC (.str a) :: ts) acc σ H Q := by
  have hl : (acc ++ a).length ≤ n + 1000 := by rw [Str.length_append]; omega
  exact ⟨a, rfl, Nat.le_trans hl (by rw [sizeLine_eq]; omega), k _ hl⟩
theorem js_v {te : TE} (hn : n ≤ 100000) (hacc : acc.length ≤ n) (hv : v.natAbs.log2 < 1920) (he : ∀ Q : VK, Q (.int v) H → te σ H Q) (k : ∀ acc' : Str, acc'.length ≤ n + 1921 → tJs ts acc' σ H Q) : tJs (tFmt te :: ts) acc σ H Q := by
  have hy := PyProof.Rows.int_text_len_1921 hv
  have hl : (acc ++ Str.ofString (toString v)).length ≤ n + 1921 := by rw [Str.length_append]; omega
  refine he _ (.inr ⟨v, rfl, hv, Str.ofString (toString v), rfl, Nat.le_trans hl (by rw [sizeLine_eq]; omega), k _ hl⟩)
end
theorem log_small {v : Int} (h : v.natAbs < 2 ^ 1900) : v.natAbs.log2 < 1920 := by
  by_cases c : v.natAbs = 0
  · rw [c]; decide
  · exact Nat.lt_of_lt_of_le ((Nat.log2_lt c).mpr h) (by decide)
/-! ## an error class of the program with one field, made by its own __init__ -/
structure ErrIn (prog : Program) (K : PySem.W.Frag) (mg : Str → Option Value) (x : Str) (C : Addr) (qual : Str) (st : Stmt) (fld : Str) : Prop where
  gC : mg x = some (.ref C)
  T : OexC K C
  E : ErrC K C
  X : XfC K C
  no : PySem.W.findIn K (.ref C) fld = some none
  ini : ∃ (f cc cda : Addr) (fd : FuncData), PySem.W.findIn K (.ref C) "__init__" = some (some (.ref f)) ∧ PySem.W.typeIn K (.ref f) = some (.type "function") ∧ SupIn prog K mg f cc cda C fd "self" ∧ Binds K fd ["self", fld] [] ∧
    ∃ (oc : Value) (od an : Option Addr) (kV doc pm ct : Value) (osl : Array (Option Value)), fd = PySem.W.ksFn "__init__" qual (defArgs st) (defBody st) (defScope st) .none kV doc pm an (.ref cda) ct cc ∧ K.lookup f = some ⟨oc, od, .func fd, osl⟩ ∧ PySem.W.codeIn K (.ref cda) qual = true
  sm : PySem.W.ks_superIn K C C "__init__" = some (some (.builtin "ValueError.__init__"))
  mr : PySem.W.mroIn K C (.ref C) = some true
  sv : PySem.W.subIn K (.ref C) (.type "ValueError") = some true
/-- what its __init__ does -/
def spErr (C : Addr) (fld : Str) : Sp := fun vs H Q _ => ∃ (a : Addr) (v : Int), vs = [.ref a, .int v] ∧ H a = some (exo a C none) ∧ v.natAbs < 2 ^ 1900 ∧ ∀ dx, H dx = none → dx ≠ a → Q .non (upd (upd H dx (exd dx [(fld, .int v)])) a (exo a C (some dx)))
/-- such a class, ready to be raised -/
structure ErrOk (P : Program) (w : World) (K : PySem.W.Frag) (mg : Str → Option Value) (base : Heap) (x : Str) (C : Addr) (fld : Str) : Prop where
  gC : mg x = some (.ref C)
  T : OexC K C
  fn : ∃ (f : Addr) (fd : FuncData), PySem.W.findIn K (.ref C) "__init__" = some (some (.ref f)) ∧ PySem.W.typeIn K (.ref f) = some (.type "function") ∧ FnOk P w K mg base CX0 1 f fd ["self", fld] (spErr C fld) ∧ Binds K fd ["self", fld] []
section
variable {P : Program} {w : World} {K : PySem.W.Frag} {mg : Str → Option Value} {base : Heap}
theorem ErrIn.ok {x qual : Str} {C : Addr} {st : Stmt} {fld : Str} {N : List Str} (D : ErrIn P K mg x C qual st fld) (S : CScope N ["self", fld] (defScope st))
    (hbody : ∀ (f cc cda : Addr) (fd : FuncData) (A : Around) (outer : List Env) (s : Shared) (H : Hp) (vs : List V) (Q : VK) (E : XK), SupIn P K mg f cc cda C fd "self" → Room 0 (A.deeper (PySem.W.ksEnv qual (defScope st) s.heap.objs.size f (.ref cda) cc)) → spErr C fld vs H Q E →
      ∃ t, NSs (cxC CX0 P w K mg base N qual (defScope st) f (.ref cda) cc A outer s H E) (defBody st) (defBody st) t ∧ t { nx := fun _ H' => Q .non H', rt := Q } (L2.start N vs) H) : ErrOk P w K mg base x C fld := by
  obtain ⟨f, cc, cda, fd, i1, i2, S1, b, oc, od, an, kV, doc, pm, ct, osl, rfl, lk, hcd⟩ := D.ini
  obtain ⟨cl, cld, csl, hcell⟩ := S1.cell
  refine ⟨D.gC, D.T, f, _, i1, i2, fn_ofC lk hcell hcd S (fun vs H Q E h => ?_) (fun A outer s H vs Q E hr h => hbody f cc cda _ A outer s H vs Q E S1 hr h), b⟩
  obtain ⟨a, v, rfl, _⟩ := h; rfl
end
section
variable {X : Cx} {C : Addr} {x fld : Str} {e : Expr} {es : List Expr} {p pos pos2 : Pos} {ta : TA} {k : Nat}
/-- C(v): the error is made, its dict d holds the field -/
def tMkE (C : Addr) (fld : Str) (ta : TA) : L2.St → Hp → XK → Prop := tMkO C (spErr C fld) [] ta
theorem pmk_err (D : ErrOk X.prog X.w X.K X.mg X.base x C fld) (hr : Room k X.A) (hk : 2 ≤ k) (ha : PA X (e :: es) ta) (hg : Gl X x) (hdb : (x == ("__debug__" : Str)) = false := by decide)
    (he : starEach (e :: es) X.env = (false, eval e X.env) :: starEach es X.env := by rfl) (hpl : (backTo pos (starEach es X.env)).any (·.1) = false := by rfl) : PMk X (.Call (.Name x p) (e :: es) [] pos) (tMkE C fld ta) := by
  obtain ⟨f, fd, i1, i2, F, b⟩ := D.fn
  exact pmk_oex D.T i1 i2 F (hr.mono hk) b .nil pass0 hg D.gC ha hdb he hpl
/-- what a made error asks -/
theorem mkE {C : Addr} {fld : Str} {v : Int} {H : Hp} {Q : XK} (hv : v.natAbs < 2 ^ 1900) (h : ∀ d, H d = none → Q (.ref C) (some d) (upd H d (.xd [(fld, .int v)]))) :
    ([V.int v] : List V).length ≤ 1000 ∧ ∀ a, H a = none → spErr C fld (.ref a :: ([V.int v] ++ [])) (upd H a (exo a C none))
      (fun v' H2 => v' = .non ∧ ∃ (d : Addr) (fs : List (Str × V)), H2 a = some (exo a C (some d)) ∧ H2 d = some (exd d fs) ∧ H d = none ∧ Q (.ref C) (some d) (upd (L2.del H2 a) d (.xd fs))) (fun _ _ _ => False) := by
  refine ⟨by show 1 ≤ 1000; decide, fun a ha => ⟨a, v, rfl, upd_same, hv, fun dx h1 h2 => ⟨rfl, dx, [(fld, .int v)], upd_same, ?_, ?_, ?_⟩⟩⟩
  · rw [upd_ne h2, upd_same]
  · rw [upd_ne h2] at h1; exact h1
  · have hd : H dx = none := by rw [upd_ne h2] at h1; exact h1
    have e : upd (L2.del (upd (upd (upd H a (exo a C none)) dx (exd dx [(fld, .int v)])) a (exo a C (some dx))) a) dx (.xd [(fld, .int v)]) = upd H dx (.xd [(fld, .int v)]) := by
      funext b
      by_cases c1 : b = dx
      · rw [c1, upd_same, upd_same]
      · rw [upd_ne c1, upd_ne c1]
        by_cases c2 : b = a
        · rw [c2, del_same, ha]
        · rw [del_ne c2, upd_ne c2, upd_ne c1, upd_ne c2]
    rw [e]
    exact h dx hd
end
end LR

set_option Elab.async false
set_option maxRecDepth 100000
set_option linter.all false
set_option maxHeartbeats 4000000
namespace LR
open PySem PySem.Spec PyProof.Rows L2
/-! ## defs, methods, classes whose calls may raise -/
structure CalX (P : Program) (w : World) (K : PySem.W.Frag) (mg : Str → Option Value) (base : Heap) (k : Nat) (x : Str) (sp : Sp) : Prop where
  ex : ∃ (f : Addr) (fd : FuncData) (ps : List Str), FnOk P w K mg base (L2.CX P w) k f fd ps sp ∧ mg x = some (.ref f) ∧ PySem.W.keepIn K (.ref f) = true ∧ Binds K fd ps []
structure MetX (P : Program) (w : World) (K : PySem.W.Frag) (mg : Str → Option Value) (base : Heap) (k : Nat) (C : Addr) (m : Str) (sp : Sp) : Prop where
  ex : ∃ (f : Addr) (fd : FuncData) (ps : List Str), Cls K C ∧ Meth K C m f ∧ FnOk P w K mg base (L2.CX P w) k f fd ps sp ∧ Binds K fd ps []
structure MakX (P : Program) (w : World) (K : PySem.W.Frag) (mg : Str → Option Value) (base : Heap) (k : Nat) (x : Str) (C : Addr) (sp : Sp) : Prop where
  ex : ∃ (f : Addr) (fd : FuncData) (ps : List Str), Mk K C f ∧ FnOk P w K mg base (L2.CX P w) k f fd ps sp ∧ mg x = some (.ref C) ∧ Binds K fd ps []
def tCallT (sp : Sp) (W : WX) (t : TA) : TE := fun σ H Q => t σ H fun vs H1 => sp vs H1 Q (WE W σ)
def tMethT (C : Addr) (m : Str) (sp : Sp) (W : WX) (ta : TE) (t : TA) : TE := fun σ H Q => ta σ H fun x H1 => ∃ a dx fs, x = .ref a ∧ H1 a = some (.ins C dx fs) ∧ fs.lookup m = none ∧ t σ H1 fun vs H2 => sp (x :: vs) H2 Q (WE W σ)
def tMakeT (C : Addr) (sp : Sp) (W : WX) (t : TA) : TE := fun σ H Q => t σ H fun vs H1 => ∀ x dx, H1 x = none → H1 dx = none → dx ≠ x → sp (.ref x :: vs) (upd (upd H1 dx (.own x)) x (.ins C dx [])) (fun v H2 => v = .non ∧ Q (.ref x) H2) (WE W σ)
section
variable {X : Cx} {k j : Nat} {C : Addr} {x m : Str} {sp : Sp} {W : WX} {p pos apos : Pos} {e o : Expr} {es : List Expr} {ta : TE} {t : TA}
theorem pe_cT (c : CalX X.prog X.w X.K X.mg X.base k x sp) (hr : Room j X.A) (hk : k ≤ j) (tk : Takes X W) (hg : Gl X x) (ha : PA X (e :: es) t)
    (hdb : (x == ("__debug__" : Str)) = false := by decide) (he : starEach (e :: es) X.env = (false, eval e X.env) :: starEach es X.env := by rfl) (hpl : (backTo pos (starEach es X.env)).any (·.1) = false := by rfl) :
    PE X (.Call (.Name x p) (e :: es) [] pos) (tCallT sp W t) := by
  obtain ⟨f, fd, ps, F, hm, kp, b⟩ := c.ex
  exact pe_callS F (hr.mono hk) hg hm kp b (passAt tk) ha hdb he hpl
theorem pe_mtT {pl : Sem Bool} (c : MetX X.prog X.w X.K X.mg X.base k C m sp) (hr : Room j X.A) (hk : k ≤ j) (tk : Takes X W) (he : PE X o ta) (ha : PA X (e :: es) t)
    (hst : starEach (e :: es) X.env = (false, eval e X.env) :: starEach es X.env := by rfl) (hpl : (backTo pos (starEach es X.env)).any (·.1) = false := by rfl)
    (ht : eval (.Call (.Attribute o m apos) (e :: es) [] pos) X.env = (do
      let ov ← eval o X.env
      standAt apos.atName
      let (f, first) ← holding [ov] (getMethod ov m pl)
      callWith pos f first (backTo pos (starEach (e :: es) X.env)) (backToKw pos (keywordEach [] X.env))) := by rfl) :
    PE X (.Call (.Attribute o m apos) (e :: es) [] pos) (tMethT C m sp W ta t) := by
  obtain ⟨f, fd, ps, hc, hm, F, b⟩ := c.ex
  refine ⟨fun pins s σ H Q I h => PySem.W.methodCall_KW (pl := pl) (thn (he.run pins s σ H _ I h) fun u s1 hh => ?_) ht⟩
  obtain ⟨y, H1, I1, ry, a, dx, fs, rfl, ea, l, q⟩ := hh
  cases (show u = Value.ref a from ry)
  refine getmeth_ok I1 ea hc hm l (PySem.W.callWith_K (first := [.ref a]) (h₀ := X.base) I.ok.mod.kin hm.kp (thn (ha.run pos pins s1 σ H1 _ I1 q) fun us s2 h2 => ?_) hst hpl)
  obtain ⟨vs, H2, I2, r, q2⟩ := h2
  exact ⟨I2.kIn, run_fnS (E := WE W) F (hr.mono hk) b (passAt tk σ) I2 (.cons (show RelV (V.ref a) (.ref a) from rfl) r) q2⟩
theorem pe_mt0T {pl : Sem Bool} (c : MetX X.prog X.w X.K X.mg X.base k C m sp) (hr : Room j X.A) (hk : k ≤ j) (tk : Takes X W) (he : PE X o ta)
    (ht : eval (.Call (.Attribute o m apos) [] [] pos) X.env = (do
      let ov ← eval o X.env
      standAt apos.atName
      let (f, first) ← holding [ov] (getMethod ov m pl)
      callWith pos f first (backTo pos (starEach [] X.env)) (backToKw pos (keywordEach [] X.env))) := by rfl) :
    PE X (.Call (.Attribute o m apos) [] [] pos) (tMethT C m sp W ta tNil) := by
  obtain ⟨f, fd, ps, hc, hm, F, b⟩ := c.ex
  refine ⟨fun pins s σ H Q I h => PySem.W.methodCall_KW (pl := pl) (thn (he.run pins s σ H _ I h) fun u s1 hh => ?_) ht⟩
  obtain ⟨y, H1, I1, ry, a, dx, fs, rfl, ea, l, q⟩ := hh
  cases (show u = Value.ref a from ry)
  exact getmeth_ok I1 ea hc hm l (PySem.W.callWith_K0 (first := [.ref a]) I1.kIn hm.kp (run_fnS (E := WE W) (us := [.ref a]) F (hr.mono hk) b (passAt tk σ) I1 (.cons (show RelV (V.ref a) (.ref a) from rfl) .nil) q))
theorem run_mkT {pins : List (Addr × Obj)} {σ : L2.St} {H : Hp} {s : Shared} {Q : VK} {us : List Value} {vs : List V} {f : Addr} {fd : FuncData} {ps : List Str} (M : Mk X.K C f) (F : FnOk X.prog X.w X.K X.mg X.base (L2.CX X.prog X.w) k f fd ps sp) (hr : Room (k + 1) X.A) (b : Binds X.K fd ps []) (tk : Takes X W)
    (I : Inv X pins σ H s) (r : Vals vs us)
    (h : ∀ x dx, H x = none → H dx = none → dx ≠ x → sp (.ref x :: vs) (upd (upd H dx (.own x)) x (.ins C dx [])) (fun v H2 => v = .non ∧ Q (.ref x) H2) (WE W σ)) :
    wpAny (model X.prog X.w) X.A (call (.ref C) us) (EP X pins σ Q) X.xe s := by
  have hq := h (s.heap.objs.size + 1) s.heap.objs.size (I.hok.fresh (Nat.le_succ _)) (I.hok.fresh (Nat.le_refl _)) (Nat.ne_of_lt (Nat.lt_succ_self _))
  have J := Inv.made (C := C) I
  have r2 : Vals (V.ref (s.heap.objs.size + 1) :: vs) (Value.ref (s.heap.objs.size + 1) :: us) := .cons rfl r
  have hl := r2.length.symm.trans (F.len _ _ _ _ hq)
  have bb := b _ _ J.kIn (by rw [List.append_nil]; exact hl)
  rw [List.append_nil] at bb
  refine wpAny_call (make_map (f := f) I.kIn M.makes M.init (beq_iff_eq.mp M.fn) (codeAny_mono (F.run _ X.stack _ _ _ _ _ _ (WE W σ) (hr.make C us []) (J.env0.make C us []) bb r2 hq) fun rr s' hq' => ?_))
  cases rr with
  | error e => exact passAt tk σ pins _ _ e s' J hq'
  | ok fl =>
    cases fl with
    | ret u =>
      obtain ⟨v, H', I3, rv, ev, q3⟩ := J.after hq'
      subst ev
      exact ⟨rv, V.ref (s.heap.objs.size + 1), H', I3, rfl, q3⟩
    | next => exact hq'.elim
    | brk => exact hq'.elim
    | cont => exact hq'.elim
theorem pe_mkT (c : MakX X.prog X.w X.K X.mg X.base k x C sp) (hr : Room j X.A) (hk : k + 1 ≤ j) (tk : Takes X W) (hg : Gl X x) (ha : PA X (e :: es) t)
    (hdb : (x == ("__debug__" : Str)) = false := by decide) (he : starEach (e :: es) X.env = (false, eval e X.env) :: starEach es X.env := by rfl) (hpl : (backTo pos (starEach es X.env)).any (·.1) = false := by rfl) :
    PE X (.Call (.Name x p) (e :: es) [] pos) (tMakeT C sp W t) := by
  obtain ⟨f, fd, ps, M, F, hm, b⟩ := c.ex
  refine ⟨fun pins s σ H Q I h => wpAny_Call_Name_kw (ld_glob I hg hm ?_ hdb)⟩
  refine PySem.W.callWith_K (h₀ := X.base) I.ok.mod.kin M.kp (thn (ha.run pos pins s σ H _ I h) fun us s1 hh => ?_) he hpl
  obtain ⟨vs, H1, I1, r, q⟩ := hh
  exact ⟨I1.kIn, run_mkT M F (hr.mono hk) b tk I1 r q⟩
end
section
variable {P : Program} {w : World} {K : PySem.W.Frag} {mg : Str → Option Value} {base : Heap}
theorem DefIn.calX {x : Str} {st : Stmt} {N ps : List Str} {k : Nat} {sp : Sp} (D : DefIn K mg x st ps) (S : FnScope N ps (defScope st)) (len : ∀ vs H Q E, sp vs H Q E → vs.length = ps.length)
    (hbody : ∀ (f : Addr) (cdv : Value) (A : Around) (outer : List Env) (s : Shared) (H : Hp) (vs : List V) (Q : VK) (E : XK), Room k (A.deeper (envOfC x (defScope st) s.heap.objs.size f cdv)) → sp vs H Q E →
      ∃ t, PSs (cxOf (L2.CX P w) P w K mg base N x (defScope st) f cdv A outer s H E) (defBody st) t ∧ t { nx := fun _ H' => Q .non H', rt := Q } (L2.start N vs) H) : CalX P w K mg base (k + 1) x sp := by
  obtain ⟨f, fd, F, hm, b⟩ := D.ex
  exact ⟨f, fd, ps, F.okX S len (hbody f), hm, F.kp, b⟩
theorem MetIn.metX {C : Addr} {m qual : Str} {st : Stmt} {N ps : List Str} {k : Nat} {sp : Sp} (c : Cls K C) (D : MetIn K C m qual st ps) (S : FnScope N ps (defScope st)) (len : ∀ vs H Q E, sp vs H Q E → vs.length = ps.length)
    (hbody : ∀ (f : Addr) (cdv : Value) (A : Around) (outer : List Env) (s : Shared) (H : Hp) (vs : List V) (Q : VK) (E : XK), Room k (A.deeper (envOfC qual (defScope st) s.heap.objs.size f cdv)) → sp vs H Q E →
      ∃ t, PSs (cxOf (L2.CX P w) P w K mg base N qual (defScope st) f cdv A outer s H E) (defBody st) t ∧ t { nx := fun _ H' => Q .non H', rt := Q } (L2.start N vs) H) : MetX P w K mg base (k + 1) C m sp := by
  obtain ⟨f, fd, F, hm, b⟩ := D.ex
  exact ⟨f, fd, ps, c, hm, F.okX S len (hbody f), b⟩
theorem MakIn.makX {C : Addr} {x qual : Str} {st : Stmt} {N ps : List Str} {k : Nat} {sp : Sp} (D : MakIn K mg x C qual st ps) (S : FnScope N ps (defScope st)) (len : ∀ vs H Q E, sp vs H Q E → vs.length = ps.length)
    (hbody : ∀ (f : Addr) (cdv : Value) (A : Around) (outer : List Env) (s : Shared) (H : Hp) (vs : List V) (Q : VK) (E : XK), Room k (A.deeper (envOfC qual (defScope st) s.heap.objs.size f cdv)) → sp vs H Q E →
      ∃ t, PSs (cxOf (L2.CX P w) P w K mg base N qual (defScope st) f cdv A outer s H E) (defBody st) t ∧ t { nx := fun _ H' => Q .non H', rt := Q } (L2.start N vs) H) : MakX P w K mg base (k + 1) x C sp := by
  obtain ⟨f, fd, F, M, hm, b⟩ := D.ex
  exact ⟨f, fd, ps, M, F.okX S len (hbody f), hm, b⟩
end
end LR

set_option Elab.async false
set_option maxRecDepth 100000
set_option linter.all false
set_option maxHeartbeats 4000000
namespace LR
open PySem PySem.Spec PyProof.Rows L2
/-! ## enumerate over a tuple -/
set_option maxHeartbeats 1000000 in
theorem meets_enum1 {v : Value} {o : Obj} {H : Heap → Prop} (B : Begins v o H) :
    Meets (Builtin.«enumerate.__new__» ⟨[.type "enumerate", v], []⟩) (fun _ R s => H s.heap ∧
      R (.ok (.ret (.ref (s.heap.push o).objs.size))) { s with heap := (s.heap.push o).push { cls := .type "enumerate", data := .fields #[.none, .bool false, .ref s.heap.objs.size, rawInt 0, .none, .none] } }) :=
  .of_wp fun prog w A R s h => by
    obtain ⟨hp, g, d, tk, os⟩ := s; obtain ⟨h1, h⟩ := h
    have hsub := sub_enumerate
    have q1 : ∀ {A' : Around} {E : Value → Shared → Prop} {Q : Value → Shared → Prop}, Q (.ref hp.objs.size) ⟨hp.push o, g, d, tk, os⟩ → wpAny (model prog w) A' (pyIter v) Q E ⟨hp, g, d, tk, os⟩ :=
      fun q => B.iter prog w _ _ ⟨hp, g, d, tk, os⟩ _ h1 q
    wp_walk using q1
    refine wpAny_stack_any fun st => wpAny_pure ?_
    split
    · rename_i c _ _ _ _ _
      cases (c == Value.type "enumerate")
      · wp_walk using q1
        exact ⟨_, rfl, h⟩
      · wp_walk using q1
        exact ⟨_, rfl, h⟩
    · wp_walk using q1
      exact ⟨_, rfl, h⟩
theorem enum_new1 {prog : Program} {w : World} {A : Around} {E : Value → Shared → Prop} {s : Shared} {v : Value} {o : Obj} {H : Heap → Prop} {Q : Value → Shared → Prop} (B : Begins v o H) (h1 : H s.heap)
    (h : ∀ h', IsEnum h' (s.heap.objs.size + 1) s.heap.objs.size 0 .none → h'.get? s.heap.objs.size = some o → h'.objs.size = s.heap.objs.size + 2 →
      (∀ b o, s.heap.get? b = some o → h'.get? b = some o) → Q (.ref (s.heap.objs.size + 1)) { s with heap := h' }) :
    wpAny (model prog w) A (call (.type "enumerate") [v]) Q E s := by
  refine callType_new F.called_enumerate (by decide) (F.typeCall_enumerate_1 _) (F.newCall_enumerate_1 _) (fun obj => F.args_object_init_2 obj _) F.entry_enumerate_new
    (meets_enum1 B) ⟨h1, ?_⟩
  have hz : (s.heap.push o).objs.size = s.heap.objs.size + 1 := Heap.size_push ..
  show _ ∧ _
  rw [hz]
  have he : IsEnum ((s.heap.push o).push { cls := .type "enumerate", data := .fields #[.none, .bool false, .ref s.heap.objs.size, rawInt 0, .none, .none] }) (s.heap.objs.size + 1) s.heap.objs.size 0 .none := by
    have := Heap.get?_push_size (s.heap.push o) (o := { cls := .type "enumerate", data := .fields #[.none, .bool false, .ref s.heap.objs.size, rawInt 0, .none, .none] }) rfl
    rw [hz] at this; exact this
  refine ⟨⟨_, he, rfl⟩, h _ he (Heap.get?_push_of_some _ (Heap.get?_push_size _ B.free)) (by rw [Heap.size_push, hz]) fun b o x => Heap.get?_push_of_some _ (Heap.get?_push_of_some _ x)⟩
/-- the tuple at a as it stands at each turn, the items in new pairs -/
def IteT (K : PySem.W.Frag) (a : Addr) : It :=
  ⟨fun i H => ∃ (xs : List V) (x : V), SqT K H a xs ∧ xs[i]? = some x, fun i H v H' => ∃ T x, v = .ref T ∧ H T = none ∧ H' = upd H T (.tup [.int (i : Nat), x]) ∧ ∀ xs, SqT K H a xs → xs[i]? = some x, fun i H => ∃ xs : List V, SqT K H a xs ∧ xs.length = i⟩
theorem turn_enumT {P : Program} {w : World} {K : PySem.W.Frag} {elts : List Expr} {kk : Nat} {tpos : Pos} (a e it : Addr) :
    Turn P w K (.Tuple elts kk tpos) (IteT K a) [e, it] e (fun i h => (∃ old, IsEnum h e it ((i : Nat) : Int) old) ∧ h.IsTupleIter it a i ∧ e ≠ it) where
  mem := by simp
  obj := fun i h st b hb => by
    obtain ⟨⟨old, he⟩, ⟨o, ho, hc, hd⟩, _⟩ := st
    have e' : b = e ∨ b = it := by simpa using hb
    rcases e' with z | z
    · rw [z]; exact ⟨_, he, fun v q => nomatch q⟩
    · rw [z]; exact ⟨o, ho, fun v q => by rw [hd] at q; cases q⟩
  keep := fun i h h' st k => let ⟨⟨old, he⟩, hi, hne⟩ := st; ⟨⟨old, k e (by simp) _ he⟩, hi.at fun o q => k it (by simp) o q, hne⟩
  item := by
    intro X hP hw hK hc i pins s σ H E I hf st hg
    subst hP hw hK
    obtain ⟨⟨old, he⟩, hit, hne⟩ := st
    obtain ⟨xs, x, hq, hx⟩ := hg
    obtain ⟨its, rv, p, hz⟩ := I.tuple hq
    obtain ⟨u, hu, ru⟩ := rv.get hx
    have hel : e < s.heap.objs.size := Heap.lt_size he
    have hil : it < s.heap.objs.size := by obtain ⟨_, q, _⟩ := hit; exact Heap.lt_size q
    have hT0 : s.heap.IsTuple a its.toArray := p
    have nea : a ≠ e := fun z => by
      obtain ⟨o, h1, h2, _⟩ := hT0
      rw [z, he] at h1; cases h1; injection h2 with q; exact absurd q (by decide)
    have nia : a ≠ it := fun z => by
      obtain ⟨o, h1, h2, _⟩ := hT0
      obtain ⟨o2, h3, h4, _⟩ := hit
      rw [z, h3] at h1; cases h1; rw [h4] at h2; injection h2 with q; exact absurd q (by decide)
    have D := Draws.tuple (prog := X.prog) (w := X.w) (A := X.A.in1) (I.ok.hd hc) it a nia its.toArray
    have hlt : i < its.toArray.size := by
      have := (List.getElem?_eq_some_iff.mp hu).1
      simpa using this
    refine wpAny_pyNext_enum_itemD D he ⟨hit, hT0⟩ hlt hne (by simp; exact ⟨hne, nea.symm⟩) fun x' h' tk hx' ho hst hT hsz hk => ?_
    have hx' : x' = u := by
      have : its.toArray[i]? = some u := by simpa using hu
      rw [this] at hx'; cases hx'; rfl
    subst hx'
    refine ⟨_, rfl, wpAny_letOwnedTupleGo_enum (s := { s with heap := h', toks := tk + 1 }) ho fun h'' he' sb => ?_⟩
    have hT2 : h''.get? s.heap.objs.size = some { cls := .type "tuple", data := .seq #[.int i tk, x'] } := (sb.2 _ (Nat.ne_of_gt hel)).trans hT
    have new : ObjOk X.prog X.w (upd H s.heap.objs.size (.tup [.int (i : Nat), x])) h'' s.heap.objs.size (.tup [.int (i : Nat), x]) :=
      ⟨by show 2 ≤ sizeLine; decide, [.int i tk, x'], .cons ⟨_, rfl⟩ (.cons ru .nil), ⟨_, hT2, rfl, _, rfl⟩⟩
    have I1 : Inv X pins σ (upd H s.heap.objs.size (.tup [.int (i : Nat), x])) { s with heap := h'', toks := tk + 1 } :=
      I.turnedNew (ch := [e, it]) (fun b ob hb q => (sb.2 b (fun z => hb (by simp [z]))).trans (hk b ob (fun z => hb (by simp [z])) (fun z => hb (by simp [z])) q)) hf (Nat.le_refl _) new
    refine ⟨.ref s.heap.objs.size, _, I1, rfl, ⟨_, x, rfl, I.hok.fresh (Nat.le_refl _), rfl, fun ys hy => by rw [I.tuple_inj hy hq]; exact hx⟩, ⟨⟨x', ?_⟩, hst.1.at fun o q => (sb.2 it (Ne.symm hne)).trans q, hne⟩, fun b hb => ?_⟩
    · have e1 : ((i + 1 : Nat) : Int) = (i : Int) + 1 := by omega
      rw [e1]; exact he'
    · have hb' : b < s.heap.objs.size := by
        have e' : b = e ∨ b = it := by simpa using hb
        rcases e' with z | z
        · rw [z]; exact hel
        · rw [z]; exact hil
      rw [upd_ne (Nat.ne_of_lt hb')]
      exact (hf b hb).1
  done := by
    intro X hP hw hK hc i pins s σ H E I hf st hg
    subst hP hw hK
    obtain ⟨⟨old, he⟩, hit, hne⟩ := st
    obtain ⟨xs, hq, hx⟩ := hg
    obtain ⟨its, rv, p, hz⟩ := I.tuple hq
    obtain ⟨f0, f1, f2, f3, f4, f5⟩ := hf it (by simp)
    have hl := rv.length
    have hT0 : s.heap.IsTuple a its.toArray := p
    have nia : a ≠ it := fun z => by
      obtain ⟨o, h1, h2, _⟩ := hT0
      obtain ⟨o2, h3, h4, _⟩ := hit
      rw [z, h3] at h1; cases h1; rw [h4] at h2; injection h2 with q; exact absurd q (by decide)
    have D := Draws.tuple (prog := X.prog) (w := X.w) (A := X.A.in1) (I.ok.hd hc) it a nia its.toArray
    have hn : its.toArray.size = i := by simp; omega
    exact wpAny_pyNext_enum_endD D he (by rw [hn]; exact ⟨hit, hT0⟩) fun h' eb => ⟨rfl, I.turned (t' := s.toks) (fun b o hb q => eb b o hb q) f0 f1 f3 f4 f5⟩
  self := fun A i s Q E st h => let ⟨⟨_, he⟩, _⟩ := st; wpAny_pyIter_enum he h
theorem walk_enumT {K : PySem.W.Frag} {a : Addr} {xs : List V} : Walk (IteT K a) xs.length (fun H => SqT K H a xs) (YPair (fun i => some (.int (i : Nat))) (fun i => xs[i]?)) := by
  refine ⟨fun i _ hi q => ⟨xs, xs[i], q, by simp [hi]⟩, fun _ q => ⟨xs, q, rfl⟩, fun i H v H' _ q y => ?_⟩
  obtain ⟨T, x, h1, h2, h3, h4⟩ := y
  exact ⟨T, .int (i : Nat), x, h1, h2, h3, rfl, h4 xs q⟩
/-- R of the iterator, kept whole -/
def RunIt (R : It → Hp → Prop) (J : It) (H : Hp) : Prop := R J H
def iEnumS (K : PySem.W.Frag) (ta : TA) : TI := fun σ H R => ta σ H fun vs H1 => ∃ a, vs = [.ref a] ∧ (((∃ xs, SqL K H1 a xs) ∧ RunIt R (Ite K a) H1) ∨ ((∃ xs, SqT K H1 a xs) ∧ RunIt R (IteT K a) H1))
theorem pi_enumS {X : Cx} {e : Expr} {ta : TA} {p pos tpos : Pos} {elts : List Expr} {kk : Nat} (hg : Gl X "enumerate") (hm : X.mg "enumerate" = none) (ha : PA X [e] ta) (hs : starEach [e] X.env = [(false, eval e X.env)] := by rfl) :
    PI X (.Tuple elts kk tpos) (.Call (.Name "enumerate" p) [e] [] pos) (iEnumS X.K ta) := by
  refine ⟨fun pins s σ H R I h => ?_⟩
  refine Call_ (ld_blt I hg hm boot_enumerate (PyProof.Rows.callWith_type1 (thn (ha.run pos pins s σ H _ I h) fun us s1 ⟨vs, H1, I1, r1, q1⟩ => ?_) hs rfl))
  obtain ⟨a, ex, q⟩ := q1
  subst ex
  cases r1 with
  | cons r rr =>
    cases rr
    cases r
    rcases q with ⟨⟨xs, hq⟩, q⟩ | ⟨⟨xs, hq⟩, q⟩
    · obtain ⟨its, rv, p', hz⟩ := I1.list hq
      refine call_enumerate_list p'.isList fun h' he hit hsz hk => wpAny_pyIter_enum he ?_
      have I2 : Inv X pins σ H1 { s1 with heap := h' } := I1.kept (t' := s1.toks) hk
      refine ⟨s1.heap.objs.size + 1, [s1.heap.objs.size + 1, s1.heap.objs.size], _, _, H1, rfl, I2, turn_enum a (s1.heap.objs.size + 1) s1.heap.objs.size, ⟨⟨.none, he⟩, hit, Nat.succ_ne_self _⟩, fun b hb => ?_, q⟩
      have e' : b = s1.heap.objs.size + 1 ∨ b = s1.heap.objs.size := by simpa using hb
      have hle : s1.heap.objs.size ≤ b := by
        rcases e' with z | z
        · rw [z]; exact Nat.le_add_right _ _
        · rw [z]; exact Nat.le_refl _
      exact I1.fpOk hle (I1.hok.fresh hle)
    · obtain ⟨its, rv, p', hz⟩ := I1.tuple hq
      refine enum_new1 (begins_tuple a its.toArray) (show s1.heap.IsTuple a its.toArray from p') fun h' he hit hsz hk => wpAny_pyIter_enum he ?_
      have I2 : Inv X pins σ H1 { s1 with heap := h' } := I1.kept (t' := s1.toks) hk
      refine ⟨s1.heap.objs.size + 1, [s1.heap.objs.size + 1, s1.heap.objs.size], _, _, H1, rfl, I2, turn_enumT a (s1.heap.objs.size + 1) s1.heap.objs.size, ⟨⟨.none, he⟩, ⟨_, hit, rfl, rfl⟩, Nat.succ_ne_self _⟩, fun b hb => ?_, q⟩
      have e' : b = s1.heap.objs.size + 1 ∨ b = s1.heap.objs.size := by simpa using hb
      have hle : s1.heap.objs.size ≤ b := by
        rcases e' with z | z
        · rw [z]; exact Nat.le_add_right _ _
        · rw [z]; exact Nat.le_refl _
      exact I1.fpOk hle (I1.hok.fresh hle)
/-! ## for over a list or a tuple -/
def iSeq (K : PySem.W.Frag) (tl : TE) : TI := fun σ H R => tl σ H fun x H1 => ∃ a, x = .ref a ∧ (((∃ xs, SqL K H1 a xs) ∧ RunIt R (Itl K a) H1) ∨ ((∃ xs, SqT K H1 a xs) ∧ RunIt R (Itt K a) H1))
theorem pi_seq {X : Cx} {tg l : Expr} {tl : TE} (hl : PE X l tl) : PI X tg l (iSeq X.K tl) := by
  refine ⟨fun pins s σ H R I h => ?_⟩
  refine thn (hl.run pins s σ H _ I h) fun v s1 ⟨x, H1, I1, r1, q1⟩ => ?_
  obtain ⟨a, e, q⟩ := q1
  subst e
  cases r1
  rcases q with ⟨⟨xs, hq⟩, q⟩ | ⟨⟨xs, hq⟩, q⟩
  · obtain ⟨its, rv, p, hz⟩ := I1.list hq
    refine wpAny_pyIter_list p.isList ?_
    refine ⟨s1.heap.objs.size, [s1.heap.objs.size], _, _, H1, rfl, I1.kept (t' := s1.toks) fun b o e => Heap.get?_push_of_some _ e, turn_list a _, ⟨_, Heap.get?_push_size _ rfl, rfl, rfl⟩, fun b hb => ?_, q⟩
    have e : b = s1.heap.objs.size := by simpa using hb
    subst e
    exact I1.fpOk (Nat.le_refl _) (I1.hok.fresh (Nat.le_refl _))
  · obtain ⟨its, rv, p, hz⟩ := I1.tuple hq
    refine wpAny_pyIter_tuple (show s1.heap.IsTuple a its.toArray from p) ?_
    refine ⟨s1.heap.objs.size, [s1.heap.objs.size], _, _, H1, rfl, I1.kept (t' := s1.toks) fun b o e => Heap.get?_push_of_some _ e, turn_tuple a _, ⟨_, Heap.get?_push_size _ rfl, rfl, rfl⟩, fun b hb => ?_, q⟩
    have e : b = s1.heap.objs.size := by simpa using hb
    subst e
    exact I1.fpOk (Nat.le_refl _) (I1.hok.fresh (Nat.le_refl _))
/-- a list or a tuple -/
def Sq (K : PySem.W.Frag) (H : Hp) (a : Addr) (xs : List V) : Prop := SqL K H a xs ∨ SqT K H a xs
theorem Sq.keep {K : PySem.W.Frag} {H H' : Hp} {a p : Addr} {xs : List V} (k : Keep p H H') (n : a ≠ p) (h : Sq K H a xs) : Sq K H' a xs := by
  rcases h with h | h
  · exact .inl (k.seq h n)
  · exact .inr (k.seqT h n)
theorem Sq.same {K : PySem.W.Frag} {H H' : Hp} {a : Addr} {xs : List V} (s : Same H H') (h : Sq K H a xs) : Sq K H' a xs :=
  h.keep (p := a + 1) (fun b _ o e => s b o e) (Nat.ne_of_lt (Nat.lt_succ_self a))
theorem seqT_after {K : PySem.W.Frag} {H H' : Hp} {a p : Addr} {xs : List V} (h : SqT K H a xs) (hp : H p = none) (k : Keep p H H') : SqT K H' a xs := by
  rcases h with (h | ⟨o, h⟩) | h
  · exact .inl (.inl (k _ (ne_of_none h hp) _ h))
  · exact .inl (.inr ⟨o, k _ (ne_of_none h hp) _ h⟩)
  · exact .inr h
theorem Sq.after {K : PySem.W.Frag} {H H' : Hp} {a p : Addr} {xs : List V} (h : Sq K H a xs) (hp : H p = none) (k : Keep p H H') : Sq K H' a xs := by
  rcases h with h | h
  · exact .inl (seq_after h hp k)
  · exact .inr (seqT_after h hp k)
/-- the walk over a list or a tuple, in one -/
theorem Sq.walk {K : PySem.W.Frag} {H0 H : Hp} {a : Addr} {xs : List V} {R : It → Hp → Prop} (h : Sq K H0 a xs) (s0 : Same H0 H) (k : ∀ (J : It) (G : Hp → Prop), Walk J xs.length G (YAt xs) → (∀ H', Same H0 H' → G H') → (∀ H' p, H0 p = none → Keep p H0 H' → G H') → R J H) :
    ((∃ xs, SqL K H a xs) ∧ RunIt R (Itl K a) H) ∨ ((∃ xs, SqT K H a xs) ∧ RunIt R (Itt K a) H) := by
  rcases h with h | h
  · exact .inl ⟨⟨_, s0.seq h⟩, k _ _ walk_list (fun H' s => s.seq h) fun H' p n q => seq_after h n q⟩
  · exact .inr ⟨⟨_, s0.seqT h⟩, k _ _ walk_tup (fun H' s => s.seqT h) fun H' p n q => seqT_after h n q⟩
theorem Sq.enum {K : PySem.W.Frag} {H0 H : Hp} {a : Addr} {xs : List V} {R : It → Hp → Prop} (h : Sq K H0 a xs) (s0 : Same H0 H) (k : ∀ (J : It) (G : Hp → Prop), Walk J xs.length G (YPair (fun i => some (.int (i : Nat))) (fun i => xs[i]?)) → (∀ H', Same H0 H' → G H') → (∀ H' p, H0 p = none → Keep p H0 H' → G H') → R J H) :
    ((∃ xs, SqL K H a xs) ∧ RunIt R (Ite K a) H) ∨ ((∃ xs, SqT K H a xs) ∧ RunIt R (IteT K a) H) := by
  rcases h with h | h
  · exact .inl ⟨⟨_, s0.seq h⟩, k _ _ walk_enum (fun H' s => s.seq h) fun H' p n q => seq_after h n q⟩
  · exact .inr ⟨⟨_, s0.seqT h⟩, k _ _ walk_enumT (fun H' s => s.seqT h) fun H' p n q => seqT_after h n q⟩
end LR

set_option Elab.async false
set_option maxRecDepth 100000
set_option linter.all false
set_option maxHeartbeats 4000000
namespace LR
open PySem PySem.Spec PyProof.Rows L2
/-! ## max(t, default=d), t a tuple of whole numbers -/
def mx (a b : Int) : Int := if a < b then b else a
def maxOr (d : Int) : List Int → Int
  | [] => d
  | x :: r => r.foldl mx x
theorem reads_ints (h : Heap) : ∀ {ls : List Int} {vs : List Value}, Vals (ls.map V.int) vs → PySem.ReadsAll h vs (ls.map PyData.int) []
  | [], [], _ => .nil
  | l :: r, v :: vs, .cons r1 r2 => by
    obtain ⟨t, rfl⟩ := (show ∃ t, v = Value.int l t from r1)
    exact PySem.ReadsAll.cons (as := []) (bs := []) (.int l t) (reads_ints h r2)
theorem maxD_ints : ∀ (r : List Int) (x : Int), PySem.W.maxD (.int x) (r.map PyData.int) = .int (r.foldl mx x)
  | [], _ => rfl
  | y :: r, x => by
    have ih := maxD_ints r (mx x y)
    unfold PySem.W.maxD at ih ⊢
    rw [List.map_cons, List.foldl_cons, List.foldl_cons, ← ih, PySem.W.dataLt_int]
    congr 1
    unfold mx
    by_cases c : x < y
    · rw [decide_eq_true c, if_pos rfl, if_pos c]
    · rw [decide_eq_false c, if_neg (by decide), if_neg c]
theorem depth_ints : ∀ ls : List Int, PyData.depthAll (ls.map PyData.int) = 0
  | [] => by simp [PyData.depthAll]
  | l :: r => by
    rw [List.map_cons]
    simp [PyData.depthAll, PyData.depth, depth_ints r]
def rMaxD (K : PySem.W.Frag) : List V → List V → Hp → VK → Prop := fun xs zs H Q => ∃ (p : Addr) (ls : List Int) (d : Int), xs = [.ref p] ∧ zs = [.int d] ∧ SqT K H p (ls.map V.int) ∧ Q (.int (maxOr d ls)) H
theorem cr_maxD {X : Cx} (hc : X.calm = true) (hu : X.A.units + 1 < cLine) : CallRK X (.builtin "max") [Str.ofString "default"] (rMaxD X.K) := by
  intro pins s σ H xs zs us ws Q I r rz h
  obtain ⟨p, ls, d, rfl, rfl, hs, q⟩ := h
  obtain rfl := Vals.ref1 r
  obtain ⟨u, rfl, t, rfl⟩ : ∃ u, ws = [u] ∧ ∃ t, u = Value.int d t := by
    cases rz with
    | cons r1 r2 => cases r2; exact ⟨_, rfl, r1⟩
  obtain ⟨its, rv, ht, hz⟩ := I.tuple hs
  refine PySem.W.max_tuple_default (vs := its.toArray) (xs := ls.map PyData.int) (as := []) (I.ok.hd hc) ht (reads_ints _ rv) ⟨?_, ?_⟩ (by rw [depth_ints]; exact hu) (fun e h' tk k => ?_) (fun y ys i v h' tk bs e hv rd k => ?_)
  · intro x hx y hy
    obtain ⟨a, _, rfl⟩ := List.mem_map.mp hx
    obtain ⟨b, _, rfl⟩ := List.mem_map.mp hy
    rfl
  · intro x hx
    obtain ⟨a, _, rfl⟩ := List.mem_map.mp hx
    exact fun z => nomatch z
  · cases ls with
    | nil => exact ⟨.int d, H, I.kept k, ⟨t, rfl⟩, q⟩
    | cons => simp at e
  · cases ls with
    | nil => simp at e
    | cons x l =>
      rw [List.map_cons] at e
      injection e with e1 e2
      subst e1 e2
      rw [maxD_ints] at rd
      cases rd with
      | int _ t2 => exact ⟨.int _, H, I.kept k, ⟨t2, rfl⟩, q⟩
theorem sIx_in {n d : Nat} {v : Int} (h0 : 0 ≤ v) (h1 : v ≤ n) : HT.sIx n d (some v) = v.toNat := by
  unfold HT.sIx
  show (if v < 0 then _ else _) = _
  rw [if_neg (by omega)]
  omega
def loI (u w : Int) : Int := if w < u then w else u
def hiI (u w : Int) : Int := if w > u then w else u
/-- the levels between two steps, and the greatest of them -/
def gapL (ls : List Int) (u w : Int) : List Int := (ls.drop (loI u w).toNat).take ((hiI u w).toNat - (loI u w).toNat)
def gapI (ls : List Int) (u w : Int) : Int := maxOr 0 (gapL ls u w)
theorem lo_in {n u w : Int} (hu : 0 ≤ u ∧ u ≤ n) (hw : 0 ≤ w ∧ w ≤ n) : 0 ≤ loI u w ∧ loI u w ≤ n := by
  unfold loI; split <;> omega
theorem hi_in {n u w : Int} (hu : 0 ≤ u ∧ u ≤ n) (hw : 0 ≤ w ∧ w ≤ n) : 0 ≤ hiI u w ∧ hiI u w ≤ n := by
  unfold hiI; split <;> omega
theorem cut_gap {ls : List Int} {u w : Int} (hu : 0 ≤ u ∧ u ≤ ls.length) (hw : 0 ≤ w ∧ w ≤ ls.length) : cutV (ls.map V.int) (some (loI u w)) (some (hiI u w)) = (gapL ls u w).map V.int := by
  have e : (ls.map V.int).length = ls.length := List.length_map ..
  have l := lo_in hu hw
  have g := hi_in hu hw
  unfold cutV gapL
  rw [e, sIx_in l.1 l.2, sIx_in g.1 g.2, List.map_take, List.map_drop]
theorem whole_gap {ls : List Int} {u w : Int} (hu : 0 ≤ u ∧ u ≤ ls.length) (hw : 0 ≤ w ∧ w ≤ ls.length) (h : HT.sIx (ls.map V.int).length 0 (some (loI u w)) = 0 ∧ HT.sIx (ls.map V.int).length (ls.map V.int).length (some (hiI u w)) = (ls.map V.int).length) : gapL ls u w = ls := by
  have e : (ls.map V.int).length = ls.length := List.length_map ..
  have l := lo_in hu hw
  have g := hi_in hu hw
  rw [e, sIx_in l.1 l.2, sIx_in g.1 g.2] at h
  unfold gapL
  rw [h.1, h.2, List.drop_zero, Nat.sub_zero, List.take_length]
end LR

set_option Elab.async false
set_option maxRecDepth 100000
set_option linter.all false
set_option maxHeartbeats 4000000
namespace LR
open PySem PySem.Spec PyProof.Rows L2
/-! ## list(o), o of a class whose __iter__ hands out a tuple's iterator -/
section
variable {prog : Program} {w : World} {A : Around} {E : Value → Shared → Prop} {s : Shared}
theorem tup_end {it t : Addr} {i : Nat} {items : Array Value} {Q : Option Value → Shared → Prop} (hh : A.handled = none)
    (hit : s.heap.IsTupleIter it t i) (ht : s.heap.IsTuple t items) (hx : items[i]? = none)
    (hQ : ∀ h', Heap.ExtBut it s.heap h' → (∃ o, h'.get? it = some o) → Q none { s with heap := h' }) : wpAny (model prog w) A (pyNext (.ref it)) Q E s := by
  obtain ⟨o, ho, hc, hd⟩ := id hit
  obtain ⟨ol, hol, _, nl, hdl⟩ := ht
  unfold pyNext
  refine wpAny_bind (wpAny_attempt (wpAny_callSpecial?_slot (name := Str.ofString "__next__") hit.typeIs F.slot_tuple_iterator_next
    (wpAny_call_entry F.slot_tuple_iterator_next hit.typeIs F.entry_tuple_iterator_next ?_ (F.args_tuple_iterator_next_1 _))))
  show wpAny _ _ (field (.ref it) 0 >>= _) _ _ s
  refine wpAny_bind (wpAny_field ho hd (x := .ref t) rfl ?_)
  show wpAny _ _ (if (Value.ref t == Value.none) = true then _ else _) _ _ s
  rw [if_neg (show ¬ ((Value.ref t == Value.none) = true) from Bool.false_ne_true)]
  show wpAny _ _ (field (.ref it) 1 >>= _) _ _ s
  refine wpAny_bind (wpAny_field ho hd (x := .int i 0) rfl ?_)
  show wpAny _ _ (seqItems? (.ref t) >>= _) _ _ s
  refine wpAny_bind (wpAny_seqItems hol hdl ?_)
  simp only [Int.toNat_natCast, hx]
  refine wpAny_bind (wpAny_rule (wpAny_bind (wpAny_setField ho hd (by simp) ?_)))
  show wpAny _ _ (newExc (.type "StopIteration") [] >>= _) _ _ _
  refine wpAny_bind ?_
  simp only [newExc, newTuple]
  refine wpAny_bind (wpAny_newObj_type ?_ (by size_fits))
  refine wpAny_bind (m := firstArgMember _ _) (wpAny_of_eq (a := Value.none) (by first | rfl | (simp only [firstArgMember]; rfl)) ?_)
  refine wpAny_newObj_type ?_ (by size_fits)
  simp only [raiseNew]
  refine wpAny_bind (wpAny_handled ?_)
  first | rw [show A.in1.handled = none from hh] | rw [hh]
  refine wpAny_bind (wpAny_pure (wpAny_throw ?_))
  refine wpAny_bind (wpAny_isInstance (T := "StopIteration") (b := true) ⟨_, Heap.get?_push_size _ rfl, rfl⟩ isSubtype_stop ?_)
  exact wpAny_pure (hQ _ (((Heap.SameBut.update ..).extBut.push _).push _) ⟨_, Heap.get?_push_of_some _ (Heap.get?_push_of_some _ (Heap.get?_update_self _ ho (Obj.isFreed_of_fields (Obj.data_mapFields hd _))))⟩)
end
/-- at it the iterator of the tuple at t, at the place i -/
def ItT (t it : Addr) (i : Nat) : HO := .ext fun h => h.IsTupleIter it t i
/-- .. that has ended -/
def ItZ (it : Addr) : HO := .ext fun h => ∃ o, h.get? it = some o
theorem itT_ok {P : Program} {w : World} {H : Hp} {h : Heap} {t it : Addr} {i : Nat} (e : h.IsTupleIter it t i) : ObjOk P w H h it (ItT t it i) :=
  ⟨e, (let ⟨o, ho, _⟩ := e; ⟨o, ho⟩), fun h1 h2 q k => q.at fun o e => k o e⟩
theorem itZ_ok {P : Program} {w : World} {H : Hp} {h : Heap} {it : Addr} (e : ∃ o, h.get? it = some o) : ObjOk P w H h it (ItZ it) :=
  ⟨e, e, fun h1 h2 q k => let ⟨o, ho⟩ := q; ⟨o, k o ho⟩⟩
def rIterT (K : PySem.W.Frag) : List V → Hp → VK → Prop := fun xs H Q => ∃ (l : Addr) (zs : List V), xs = [.ref l] ∧ SqT K H l zs ∧ ∀ it, H it = none → Q (.ref it) (upd H it (ItT l it 0))
theorem call_iterT {X : Cx} : CallR X (.builtin "iter") (rIterT X.K) := by
  intro pins s σ H xs us Q I r h
  obtain ⟨l, zs, rfl, hq, q⟩ := h
  obtain rfl := Vals.ref1 r
  obtain ⟨its, rv, pl, hz⟩ := I.tuple hq
  refine PySem.Calls.call_function_entry (by decide +kernel) (by decide +kernel) PySem.W.kdk_entry_iter (PySem.W.kdk_args_iter _) ?_
  unfold Builtin.«iter»
  refine wpAny_bind (m := someArgs "iter" 1 2 _) (wpAny_of_eq (a := [Value.ref l]) (by first | rfl | kernel_rfl!) ?_)
  show wpAny _ _ (pyIter (.ref l) >>= _) _ _ _
  refine wpAny_bind (wpAny_pyIter_tuple (show s.heap.IsTuple l its.toArray from pl) ?_)
  refine wpAny_pure ⟨_, rfl, ?_⟩
  exact ⟨.ref s.heap.objs.size, _, I.laid (t' := s.toks) (fun b u e => Heap.get?_push_of_some _ e) (Nat.le_refl _) (itT_ok ⟨_, Heap.get?_push_size _ rfl, rfl, rfl⟩), rfl, q _ (I.hok.fresh (Nat.le_refl _))⟩
section
variable {X : Cx} {pins : List (Addr × Obj)} {σ : L2.St} {A1 : Around} {Rs : Result → Shared → Prop} {l it q : Addr} {ys : List V}
theorem sqT_upd {K : PySem.W.Frag} {H : Hp} {l p : Addr} {ys : List V} {o : HO} (hp : ∃ u, H p = some u ∧ (∀ xs, u ≠ .tup xs) ∧ ∀ z w, u ≠ .frz z w) (h : SqT K H l ys) : SqT K (upd H p o) l ys := by
  obtain ⟨u, hu, n1, n2⟩ := hp
  rcases h with (h | ⟨z, h⟩) | h
  · exact .inl (.inl (by rw [upd_ne (ne_of h hu (n1 _).symm)]; exact h))
  · exact .inl (.inr ⟨z, by rw [upd_ne (ne_of h hu (n2 _ _).symm)]; exact h⟩)
  · exact .inr h
theorem it_loop (hh : A1.in1.handled = none) : ∀ (n i : Nat) (H : Hp) (s : Shared), i + n = ys.length → Inv X pins σ H s → H it = some (ItT l it i) → SqT X.K H l ys → H q = some (.lst (ys.take i)) →
    (∀ s', Inv X pins σ (upd (upd H it (ItZ it)) q (.lst ys)) s' → Rs (.ok (.ret .none)) s') → codeAny (model X.prog X.w) A1 (.builtin "list.extend.loop" ⟨[.ref q, .ref it, .none], []⟩) Rs s := by
  intro n
  induction n with
  | zero =>
    intro i H s hi I hit hl hq hR
    refine codeAny_builtin PySem.F.entry_extend_loop ?_
    rw [Around.under_plainId PySem.F.plain_extend_loop _]
    show wpAny _ A1.in1 (pyNext (.ref it) >>= _) _ _ s
    obtain ⟨its, rv, pl, hz⟩ := I.tuple hl
    have st := (I.hok it _ hit).1
    have hlen := rv.length
    refine wpAny_bind (tup_end hh st (show s.heap.IsTuple l its.toArray from pl) (by simp; omega) fun h' eb ex => ?_)
    have I1 : Inv X pins σ (upd H it (ItZ it)) { s with heap := h' } := I.write (x := it) (e := it) (t' := s.toks) (by rw [hit]; exact True.intro) (.inl rfl) (fun b o nb z => eb b o nb z) ex (itZ_ok ex)
    refine wpAny_pure (hR _ ?_)
    have e : ys.take i = ys := List.take_of_length_le (by omega)
    rw [e] at hq
    have nq : q ≠ it := ne_of hq hit (fun z => nomatch z)
    have : upd (upd H it (ItZ it)) q (.lst ys) = upd H it (ItZ it) := by
      funext b
      by_cases hb : b = q
      · rw [hb, upd_same, upd_ne nq, hq]
      · rw [upd_ne hb]
    rw [this]; exact I1
  | succ n ih =>
    intro i H s hi I hit hl hq hR
    refine codeAny_builtin PySem.F.entry_extend_loop ?_
    rw [Around.under_plainId PySem.F.plain_extend_loop _]
    show wpAny _ A1.in1 (pyNext (.ref it) >>= _) _ _ s
    obtain ⟨its, rv, pl, hz⟩ := I.tuple hl
    have st := (I.hok it _ hit).1
    have hlen := rv.length
    have nq : q ≠ it := ne_of hq hit (fun z => nomatch z)
    have hy : ys[i]? = some (ys[i]'(by omega)) := List.getElem?_eq_getElem (by omega)
    obtain ⟨u, hu, ru⟩ := rv.get hy
    refine wpAny_bind (wpAny_pyNext_tuple_item st (show s.heap.IsTuple l its.toArray from pl) (x := u) (by simpa using hu) fun h' st' sb => ?_)
    have I1 : Inv X pins σ (upd H it (ItT l it (i + 1))) { s with heap := h' } := I.write (x := it) (e := it) (t' := s.toks) (by rw [hit]; exact True.intro) (.inl rfl) (fun b o nb z => (sb.2 b nb).trans z) (let ⟨o, ho, _⟩ := st'; ⟨o, ho⟩) (itT_ok st')
    show wpAny _ A1.in1 (updateSeq q (·.push u) >>= _) _ _ _
    have hq1 : (upd H it (ItT l it (i + 1))) q = some (.lst (ys.take i)) := by rw [upd_ne nq, hq]
    obtain ⟨z, itq, k, r2, hl2, e⟩ := I1.lstM hq1
    have tl : (ys.take i).length = i := by rw [List.length_take]; omega
    refine wpAny_bind (wpAny_updateSeq e rfl (wpAny_pure ⟨plainId_quiet PySem.F.plain_extend_loop _, ?_⟩) (by rw [List.size_toArray]; omega) (by show (itq.toArray.push u).size ≤ sizeLine + 1; rw [Array.size_push, List.size_toArray]; omega))
    have et : ys.take (i + 1) = ys.take i ++ [ys[i]'(by omega)] := by rw [List.take_succ, hy]; rfl
    have I2 := I1.lset (f := (·.push u)) (its' := itq ++ [u]) (ys := ys.take (i + 1)) (t' := s.toks) hq1 e (by simp) (by rw [et]; exact r2.append (.cons ru .nil)) (by rw [List.length_take]; omega)
    refine ih (i + 1) _ _ (by omega) I2 (by rw [upd_ne nq.symm, upd_same]) (sqT_upd ⟨_, hq1, (fun _ z => nomatch z), (fun _ _ z => nomatch z)⟩ (sqT_upd ⟨_, hit, (fun _ z => nomatch z), (fun _ _ z => nomatch z)⟩ hl)) upd_same fun s' I' => hR s' ?_
    have : upd (upd (upd (upd H it (ItT l it (i + 1))) q (.lst (ys.take (i + 1)))) it (ItZ it)) q (.lst ys) = upd (upd H it (ItZ it)) q (.lst ys) := by
      funext b
      by_cases h1 : b = q
      · rw [h1, upd_same, upd_same]
      · rw [upd_ne h1, upd_ne h1]
        by_cases h2 : b = it
        · rw [h2, upd_same, upd_same]
        · rw [upd_ne h2, upd_ne h2, upd_ne h1, upd_ne h2]
    rw [this] at I'
    exact I'
/-- a class with an __iter__ of its own, without __len__ and __length_hint__ -/
structure OIt (K : PySem.W.Frag) (C fi : Addr) : Prop where
  it : PySem.W.findIn K (.ref C) "__iter__" = some (some (.ref fi))
  itF : PySem.W.isFn K (.ref fi) = true
  nolen : PySem.W.findIn K (.ref C) "__len__" = some none
  nohint : PySem.W.findIn K (.ref C) "__length_hint__" = some none
theorem oit_hint {M : Model} {A : Around} {E : Value → Shared → Prop} {Q : Bool → Shared → Prop} {K : PySem.W.Frag} {ox : Obj} {od : Option Obj} {C fi a : Addr} {s : Shared} (hc : OIt K C fi) (hK : K.In s.heap) (J : PySem.W.InstAt s.heap a ox C od) (h : Q true s) :
    wpAny M A (Builtin.List.listLengthHint (.ref a)) Q E s := by
  unfold Builtin.List.listLengthHint
  refine wpAny_bind (wpAny_bind (J.type.here ((PySem.W.looks_findIn hK hc.nolen).here ?_)))
  refine PySem.W.KFB.if_not rfl ?_
  refine PySem.W.KFB.if_not rfl ?_
  refine wpAny_bind (wpAny_bind (J.type.here ((PySem.W.looks_findIn hK hc.nohint).here ?_)))
  exact wpAny_pure h
variable {CI : CXT} {C fi a : Addr} {fdI : FuncData} {psI : List Str} {spI : Sp} {EI : XK} {n : Nat}
theorem it_extend {dx : Addr} {fs : List (Str × V)} {R : Hp → Prop} (sb : Sub X n A1.in1) (hc : OIt X.K C fi)
    (FI : FnOk X.prog X.w X.K X.mg X.base CI n fi fdI psI spI) (bI : Binds X.K fdI psI []) (xI : Passes CI X EI)
    (hdone : ∀ H s, Inv X pins σ H s → R H → Rs (.ok (.ret .none)) s) (herr : ∀ e s, X.xe e s → Rs (.error e) s)
    (I : Inv X pins σ H s) (ha : H a = some (.ins C dx fs)) (hq : H q = some (.lst []))
    (hsp : spI [.ref a] H (fun v H' => ∃ it l ys dx' fs', v = .ref it ∧ H' it = some (ItT l it 0) ∧ SqT X.K H' l ys ∧ H' q = some (.lst []) ∧ H' a = some (.ins C dx' fs') ∧ R (upd (upd H' it (ItZ it)) q (.lst ys))) EI) :
    wpAny (model X.prog X.w) A1.in1 (Builtin.List.listExtendWith (.ref q) (.ref a) .none)
      (fun fin s' => match fin with | .done f => Rs (.ok f) s' | .again c' => c'.quiet = true ∧ codeAny (model X.prog X.w) A1 c' Rs s') (fun e s' => Rs (.error e) s') s := by
  have hne : q ≠ a := ne_of hq ha (fun z => nomatch z)
  obtain ⟨mA, J, _⟩ := ins_get I.hok ha
  obtain ⟨od, J, _⟩ := J.look
  obtain ⟨m0, hF⟩ := I.fr
  unfold Builtin.List.listExtendWith
  refine wpAny_bind (J.type.here ?_)
  have h1 : Builtin.List.listSameRef (.ref q) (.ref a) = false := by simp [Builtin.List.listSameRef, hne]
  have h2 : (Value.ref C == Value.type "list") = false := rfl
  have h3 : (Value.ref C == Value.type "tuple") = false := rfl
  simp only [h1, h2, h3, Bool.or_false, Bool.false_eq_true, if_false]
  refine wpAny_bind (PySem.W.owit_iter hF I.ok.mod.kin J hc.it hc.itF ?_)
  have e0 : Env0 X.prog X.w X.K X.mg X.base A1.in1 X.stack s H := by
    have e := I.env0
    exact ⟨by rw [sb.fr]; exact e.frames, e.mod, e.bs, e.bsz, e.funs, e.frf, e.hok, e.bare⟩
  have hl := FI.len _ _ _ _ hsp
  have r2 : Vals [V.ref a] [Value.ref a] := .cons rfl .nil
  refine wpAny_call (codeAny_mono (FI.run A1.in1 X.stack s H ⟨[.ref a], []⟩ [.ref a] [.ref a] _ EI sb.room e0 (by
    have := bI s [.ref a] I.kIn (by simpa using hl)
    simpa using this) r2 hsp) fun r s' hq' => ?_)
  cases r with
  | error e => exact herr e s' (xI pins σ H s e s' I hq')
  | ok fl =>
    cases fl with
    | next => exact False.elim hq'
    | brk => exact False.elim hq'
    | cont => exact False.elim hq'
    | ret u =>
      obtain ⟨v, H', I', rv, it, l, ys, dx', fs', ev, hit, hl', hq1, ha', hR⟩ := I.after hq'
      subst ev
      cases rv
      have st := (I'.hok it _ hit).1
      unfold PySem.W.OwitIt
      refine wpAny_specialOf (name := Str.ofString "__next__") st.typeIs PySem.F.slot_tuple_iterator_next.lookup ?_
      obtain ⟨mA', J', _⟩ := ins_get I'.hok ha'
      obtain ⟨od', J', _⟩ := J'.look
      have hh : A1.in1.handled = none := sb.room.hd
      refine wpAny_bind (wpAny_holding (oit_hint hc I'.kIn J' ?_))
      obtain ⟨z, its, k, r3, hl3, e3⟩ := I'.lstM hq1
      cases r3
      have run : ∀ s2, Inv X pins σ H' s2 → codeAny (model X.prog X.w) A1 (.builtin "list.extend.loop" ⟨[.ref q, .ref it, .none], []⟩) Rs s2 := fun s2 I2 =>
        it_loop hh ys.length 0 H' s2 (Nat.zero_add _) I2 hit hl' (by simpa using hq1) fun s3 I3 => hdone _ s3 I3 hR
      refine wpAny_ite_split (fun _ => ?_) (fun _ => wpAny_pure ⟨plainId_quiet PySem.F.plain_extend_loop _, run s' I'⟩)
      refine wpAny_bind (wpAny_rule ?_)
      refine wpAny_bind ?_
      show wpAny _ _ (updateSeq q (·.push .none) >>= fun _ => updateSeq q (·.pop)) _ _ _
      refine wpAny_bind (wpAny_updateSeq e3 rfl ?_)
      have I2 := I'.lset (f := (·.push Value.none)) (its' := [Value.none]) (ys := [.non]) (t' := s'.toks) hq1 e3 (by simp) (.cons rfl .nil) (by rw [List.length_singleton, sizeLine_eq]; decide)
      obtain ⟨z4, its4, k4, r4, hl4, e4⟩ := I2.lstM upd_same
      obtain ⟨u4, rfl, ru4⟩ := r4.one
      refine wpAny_updateSeq e4 rfl ?_ (by show 1 ≤ sizeLine; rw [sizeLine_eq]; decide) (by show 0 ≤ sizeLine + 1; exact Nat.zero_le _)
      refine wpAny_pure ⟨plainId_quiet PySem.F.plain_extend_loop _, run _ ?_⟩
      have I3 := I2.lset (f := (·.pop)) (its := [u4]) (its' := []) (ys := []) (t' := s'.toks) upd_same e4 (by rfl) .nil (Nat.zero_le _)
      rw [upd_upd] at I3
      have hH : upd H' q (.lst []) = H' := by
        funext b
        by_cases hb : b = q
        · rw [hb, upd_same, hq1]
        · rw [upd_ne hb]
      rw [hH] at I3
      exact I3
/-- list(o) -/
def rListIt (K : PySem.W.Frag) (C : Addr) (spI : Sp) (EI : XK) : List V → Hp → VK → Prop := fun xs H Q => ∃ a dx fs, xs = [.ref a] ∧ H a = some (.ins C dx fs) ∧
  ∀ q, H q = none → spI [.ref a] (upd H q (.lst [])) (fun v H' => ∃ it l ys dx' fs', v = .ref it ∧ H' it = some (ItT l it 0) ∧ SqT K H' l ys ∧ H' q = some (.lst []) ∧ H' a = some (.ins C dx' fs') ∧ Q (.ref q) (upd (upd H' it (ItZ it)) q (.lst ys))) EI
theorem call_listIt (hc : OIt X.K C fi) (FI : FnOk X.prog X.w X.K X.mg X.base CI n fi fdI psI spI) (bI : Binds X.K fdI psI []) (xI : Passes CI X EI) (hr : Room (n + 2) X.A) : CallR X (.type "list") (rListIt X.K C spI EI) := by
  intro pins s σ H xs us Q I rv h
  obtain ⟨a, dx, fs, rfl, ha, hq⟩ := h
  obtain ⟨u, rfl, ru⟩ := rv.one
  cases ru
  have sb : Sub X n X.A.in1.in1 := (Sub.in1 (Sub.in1 (⟨hr, rfl⟩ : Sub X (n + 2) X.A)))
  refine callType_codes (Q₁ := fun obj s₁ => obj = .ref s.heap.objs.size ∧ s₁ = { s with heap := s.heap.push { cls := .type "list", data := .seq #[] } }) PySem.F.called_list (PySem.F.typeCall_list_1 _) PySem.F.entry_list_init
    (code_list_new _ ⟨rfl, rfl⟩) fun obj s₁ h₁ => ?_
  obtain ⟨rfl, rfl⟩ := h₁
  have hS : (s.heap.push { cls := .type "list", data := .seq #[] }).get? s.heap.objs.size = some { cls := .type "list", data := .seq #[] } := Heap.get?_push_size _ rfl
  refine ⟨⟨_, hS, rfl⟩, PySem.F.args_list_init_2 _ _, ?_⟩
  have fr : H s.heap.objs.size = none := I.hok.fresh (Nat.le_refl _)
  have hsp := hq _ fr
  have I1 : Inv X pins σ (upd H s.heap.objs.size (.lst [])) { s with heap := s.heap.push { cls := .type "list", data := .seq #[] } } := I.lnew (its := []) (t' := s.toks) .nil (Nat.zero_le _)
  show wpAny _ _ (do let old ← Builtin.List.listItems (.ref s.heap.objs.size); Builtin.List.listUpdate (.ref s.heap.objs.size) (fun _ => #[]); letGo old.toList.reverse; Builtin.List.listExtendWith (.ref s.heap.objs.size) (.ref a) .none) _ _ _
  refine wpAny_bind ?_
  unfold Builtin.List.listItems
  refine wpAny_bind (wpAny_seqItems hS rfl (wpAny_pure ?_))
  show wpAny _ _ (updateSeq s.heap.objs.size (fun _ => #[]) >>= fun _ => letGo (#[] : Array Value).toList.reverse >>= fun _ => Builtin.List.listExtendWith (.ref s.heap.objs.size) (.ref a) .none) _ _ _
  refine wpAny_bind (wpAny_updateSeq hS rfl ?_)
  have I2 := I1.lset (f := fun _ => #[]) (its := []) (its' := []) (ys := []) (t' := s.toks) upd_same hS rfl .nil (Nat.zero_le _)
  rw [upd_upd] at I2
  refine wpAny_bind (wpAny_letGo ?_)
  have ha2 : upd H s.heap.objs.size (.lst []) a = some (.ins C dx fs) := by rw [upd_ne (ne_of_none ha fr)]; exact ha
  exact it_extend (A1 := X.A.in1) (Rs := wants (fun r s₂ => r = .none ∧ EP X pins σ Q (.ref s.heap.objs.size) s₂) X.xe) (R := fun H' => Q (.ref s.heap.objs.size) H') sb hc FI bI xI
    (fun H' s' I' hR => ⟨rfl, .ref s.heap.objs.size, H', I', rfl, hR⟩) (fun e s' he => he) I2 ha2 upd_same hsp
theorem cr_listIt {k j : Nat} {sp : Sp} (c : Met X.prog X.w X.K X.mg X.base k C "__iter__" sp) (n1 : NoAttr X.K C "__len__") (n2 : NoAttr X.K C "__length_hint__") (hr : Room j X.A) (hk : k + 2 ≤ j) : CallR X (.type "list") (rListIt X.K C sp E0) := by
  obtain ⟨f, fd, ps, hc, ⟨m1, m2, m3⟩, F, b⟩ := c.ex
  exact call_listIt ⟨m1, m2, n1, n2⟩ F b pass0 (hr.mono hk)
end
theorem b_iter : bootBuiltins "iter" = some (.builtin "iter") := by decide +kernel
end LR

set_option Elab.async false
set_option maxRecDepth 100000
set_option linter.all false
set_option maxHeartbeats 4000000
namespace LR
open PySem PySem.Spec PyProof.Rows L2
theorem foldl_mx : ∀ (r : List Int) (x : Int), x ≤ r.foldl mx x ∧ (∀ y ∈ r, y ≤ r.foldl mx x) ∧ (r.foldl mx x = x ∨ r.foldl mx x ∈ r)
  | [], x => ⟨Int.le_refl _, (fun y h => nomatch h), .inl rfl⟩
  | a :: r, x => by
    obtain ⟨h1, h2, h3⟩ := foldl_mx r (mx x a)
    rw [List.foldl_cons]
    have m1 : x ≤ mx x a := by unfold mx; split <;> omega
    have m2 : a ≤ mx x a := by unfold mx; split <;> omega
    have m3 : mx x a = x ∨ mx x a = a := by unfold mx; split; exact .inr rfl; exact .inl rfl
    refine ⟨Int.le_trans m1 h1, fun y hy => ?_, ?_⟩
    · rcases List.mem_cons.mp hy with rfl | hy
      · exact Int.le_trans m2 h1
      · exact h2 y hy
    · rcases h3 with h3 | h3
      · rcases m3 with m3 | m3
        · exact .inl (h3.trans m3)
        · exact .inr (by rw [h3, m3]; exact List.mem_cons_self)
      · exact .inr (List.mem_cons_of_mem _ h3)
theorem loI_nat {u w : Int} (hu : 0 ≤ u) (hw : 0 ≤ w) : (loI u w).toNat = min u.toNat w.toNat := by unfold loI; split <;> omega
theorem hiI_nat {u w : Int} (hu : 0 ≤ u) (hw : 0 ≤ w) : (hiI u w).toNat = max u.toNat w.toNat := by unfold hiI; split <;> omega
theorem isGap_gapI {ls : List Int} {u w : Int} (hb : ∀ l ∈ ls, 1 ≤ l) (hu : 0 ≤ u) (hw : 0 ≤ w) : IsGap ls (min u.toNat w.toNat) (max u.toNat w.toNat) (gapI ls u w) := by
  unfold gapI gapL
  rw [loI_nat hu hw, hiI_nat hu hw]
  generalize min u.toNat w.toNat = lo
  generalize max u.toNat w.toNat = hi
  have get : ∀ j, j < hi - lo → ((ls.drop lo).take (hi - lo))[j]? = ls[lo + j]? := fun j hj => by rw [List.getElem?_take, if_pos hj, List.getElem?_drop]
  have mem : ∀ m z, lo ≤ m → m < hi → ls[m]? = some z → z ∈ (ls.drop lo).take (hi - lo) := fun m z a b e => by
    have := get (m - lo) (by omega)
    rw [show lo + (m - lo) = m by omega, e] at this
    exact List.mem_of_getElem? this
  cases hl : (ls.drop lo).take (hi - lo) with
  | nil =>
    refine ⟨Int.le_refl _, fun m z a b e => ?_, .inl rfl⟩
    have := mem m z a b e
    rw [hl] at this; cases this
  | cons x r =>
    obtain ⟨h1, h2, h3⟩ := foldl_mx r x
    have inl : ∀ y ∈ x :: r, y ≤ r.foldl mx x := fun y hy => by
      rcases List.mem_cons.mp hy with rfl | hy
      · exact h1
      · exact h2 y hy
    have inm : r.foldl mx x ∈ (ls.drop lo).take (hi - lo) := by
      rw [hl]
      rcases h3 with h3 | h3
      · rw [h3]; exact List.mem_cons_self
      · exact List.mem_cons_of_mem _ h3
    show IsGap ls lo hi (r.foldl mx x)
    obtain ⟨j, hj, ej⟩ := List.mem_iff_getElem.mp inm
    have hj' : j < hi - lo := by rw [List.length_take] at hj; omega
    have e2 : ls[lo + j]? = some (r.foldl mx x) := by rw [← get j hj', List.getElem?_eq_getElem hj, ej]
    have := hb _ (List.mem_of_getElem? e2)
    refine ⟨by omega, fun m z a b e => ?_, .inr ⟨lo + j, by omega, by omega, e2⟩⟩
    have := mem m z a b e
    rw [hl] at this
    exact inl z this
theorem IsGap.one {ls : List Int} {lo hi : Nat} {g k : Int} (a : IsGap ls lo hi g) (b : IsGap ls lo hi k) : g = k := by
  have key : ∀ {x y : Int}, IsGap ls lo hi x → IsGap ls lo hi y → x ≤ y := fun {x y} a b => by
    obtain ⟨a0, a1, a2⟩ := a
    obtain ⟨b0, b1, b2⟩ := b
    rcases a2 with e | ⟨m, h1, h2, e⟩
    · omega
    · exact b1 m x h1 h2 e
  exact Int.le_antisymm (key a b) (key b a)
/-! ## answers of the law -/
def refV : List (Str × Int × Int × Int) → List V
  | [] => []
  | (n, v, lo, hi) :: r => if lo ≤ v ∧ v ≤ hi then refV r else [.str n, .int v, .bl true, .bl false]
def refD : List (Str × Int × Int × Int) → List Dt
  | [] => []
  | (n, v, lo, hi) :: r => if lo ≤ v ∧ v ≤ hi then refD r else [.str n, .int v, .bl true, .bl false]
theorem ref_ats (H : Hp) : ∀ cs, Ats H (refV cs) (refD cs) ∧ (refV cs).length ≤ 100000 ∧ deps (refD cs) < 1
  | [] => ⟨.nil, by show 0 ≤ 100000; decide, by show 0 < 1; decide⟩
  | (n, v, lo, hi) :: r => by
    unfold refV refD
    split
    · exact ref_ats H r
    · exact ⟨.cons (.str _) (.cons (.int _) (.cons (.bl _) (.cons (.bl _) .nil))), by show 4 ≤ 100000; decide, Nat.lt_of_le_of_lt (Nat.le_refl 0) (by decide)⟩
abbrev Chk := Str × Int × Int × Int
def Chk.ok (e : Chk) : Prop := e.2.2.1 ≤ e.2.1 ∧ e.2.1 ≤ e.2.2.2
def ansV : List Chk → V → List V
  | [], v => [.str "value", v]
  | (n, x, lo, hi) :: r, v => if lo ≤ x ∧ x ≤ hi then ansV r v else [.str n, .int x, .bl true, .bl false]
def ansD : List Chk → Dt → List Dt
  | [], v => [.str "value", v]
  | (n, x, lo, hi) :: r, v => if lo ≤ x ∧ x ≤ hi then ansD r v else [.str n, .int x, .bl true, .bl false]
theorem ans_ats {H : Hp} {v : V} {d : Dt} (a : At H v d) (hd : dep d = 0) : ∀ cs, Ats H (ansV cs v) (ansD cs d) ∧ (ansV cs v).length ≤ 100000 ∧ deps (ansD cs d) < 1
  | [] => ⟨.cons (.str _) (.cons a .nil), by show 2 ≤ 100000; decide, by
      show deps [.str "value", d] < 1
      rw [deps, deps, deps, hd]; decide⟩
  | (n, v, lo, hi) :: r => by
    unfold ansV ansD
    split
    · exact ans_ats a hd r
    · exact ⟨.cons (.str _) (.cons (.int _) (.cons (.bl _) (.cons (.bl _) .nil))), by show 4 ≤ 100000; decide, Nat.lt_of_le_of_lt (Nat.le_refl 0) (by decide)⟩
theorem ans_ok {v : V} : ∀ {cs : List Chk}, (∀ e ∈ cs, e.ok) → ansV cs v = [.str "value", v]
  | [], _ => rfl
  | (n, x, lo, hi) :: r, h => by
    have h1 : lo ≤ x ∧ x ≤ hi := h _ List.mem_cons_self
    unfold ansV
    rw [if_pos h1]
    exact ans_ok fun e he => h e (List.mem_cons_of_mem _ he)
theorem ref_ok : ∀ {cs : List Chk}, (refV cs).length = 0 → ∀ e ∈ cs, e.ok
  | [], _ => fun e h => nomatch h
  | (n, x, lo, hi) :: r, h => fun e he => by
    unfold refV at h
    by_cases c : lo ≤ x ∧ x ≤ hi
    · rw [if_pos c] at h
      rcases List.mem_cons.mp he with rfl | he
      · exact c
      · exact ref_ok h e he
    · rw [if_neg c] at h; cases h
theorem ans_ref {v : V} : ∀ {cs : List Chk}, (refV cs).length ≠ 0 → ansV cs v = refV cs
  | [], h => absurd rfl h
  | (n, x, lo, hi) :: r, h => by
    unfold ansV
    unfold refV at h ⊢
    by_cases c : lo ≤ x ∧ x ≤ hi
    · rw [if_pos c] at h ⊢
      rw [if_pos c]
      exact ans_ref h
    · rw [if_neg c, if_neg c]
theorem ref_drop : ∀ {cs : List Chk} {i : Nat} {e : Chk}, cs[i]? = some e → refV (cs.drop i) = if e.2.2.1 ≤ e.2.1 ∧ e.2.1 ≤ e.2.2.2 then refV (cs.drop (i + 1)) else [.str e.1, .int e.2.1, .bl true, .bl false]
  | (n, x, lo, hi) :: r, 0, e, h => by cases h; rfl
  | _ :: r, i + 1, e, h => ref_drop (cs := r) (i := i) h
  | [], _, _, h => nomatch h
end LR

set_option Elab.async false
set_option maxRecDepth 100000
set_option linter.all false
set_option maxHeartbeats 4000000
namespace LR
open PySem PySem.Spec PyProof.Rows L2
/-! ## rules inside the block of a comprehension: K is that of the def -/
theorem ix_listK {X : Cx} {K : PySem.W.Frag} (hk : X.K = K) : IxR X (rIxL K) := hk ▸ ix_list
theorem ix_tupK {X : Cx} {K : PySem.W.Frag} (hk : X.K = K) : IxR X (rIxT K) := hk ▸ ix_tup
theorem ix_seqK {X : Cx} {K : PySem.W.Frag} (hk : X.K = K) : IxR X (rIx K) := hk ▸ ix_seq
/-! ## operators of an own class: == by __eq__, + by __add__ -/
/-- x == y, both instances of the class at C -/
def rEqO (C : Addr) (sp : Sp) : R2 := fun x y H Q => ∃ a dx fs b dy gs, x = .ref a ∧ y = .ref b ∧ H a = some (.ins C dx fs) ∧ H b = some (.ins C dy gs) ∧ sp [x, y] H Q (fun _ _ _ => False)
section
variable {X : Cx} {k j : Nat} {C : Addr} {m : Str} {sp : Sp} {W : WX} {pos : Pos} {e o : Expr} {te to : TE}
theorem op_eqO (c : Met X.prog X.w X.K X.mg X.base k C "__eq__" sp) (hr : Room j X.A) (hk : k ≤ j) : OpR X (compareOp .Eq) (rEqO C sp) := by
  obtain ⟨f, fd, ps, hc, hm, F, b⟩ := c.ex
  intro pins s σ H x y v u Q I rx ry h
  obtain ⟨a, dx, fs, b', dy, gs, rfl, rfl, ha, hb, q⟩ := h
  cases rx
  cases ry
  obtain ⟨mA, J, _⟩ := ins_get I.hok ha
  obtain ⟨mB, J', _⟩ := ins_get I.hok hb
  obtain ⟨od, J, _⟩ := J.look
  obtain ⟨od', J', _⟩ := J'.look
  obtain ⟨m', hF⟩ := I.fr
  refine PySem.W.cmp_K (op := .Eq) (tb := .ref C) hr.units0 hF I.ok.mod.kin J J'.type (by simp [PySem.W.notFirst]) hm.at_ hm.fn ?_
  refine wpAny_mono (run_fnS (E := fun _ _ _ _ => False) (us := [.ref a, .ref b']) (vs := [.ref a, .ref b']) F (hr.mono hk) b (fun _ _ _ _ _ _ c => False.elim c) I (.cons rfl (.cons rfl .nil)) q) (fun w s' z => ?_) fun _ _ x => x
  obtain ⟨z', H', I', rz, qz⟩ := z
  exact SlX.cmpback rz ⟨z', H', I', rz, qz⟩
/-- x op y, both instances of the class at C, whose def for op is m; it may raise -/
def tOpO (C : Addr) (sp : Sp) (W : WX) (to te : TE) : TE := fun σ H Q => to σ H fun x H1 => te σ H1 fun y H2 => ∃ a dx fs b dy gs, x = .ref a ∧ y = .ref b ∧ H2 a = some (.ins C dx fs) ∧ H2 b = some (.ins C dy gs) ∧ sp [x, y] H2 Q (WE W σ)
theorem pe_opT {op : Operator} (c : MetX X.prog X.w X.K X.mg X.base k C (PySem.dunder op.info.2) sp) (sf : PySem.W.selfFirst X.K C = true) (hr : Room j X.A) (hk : k ≤ j) (tk : Takes X W) (ho : PE X o to) (he : PE X e te) : PE X (.BinOp o op e pos) (tOpO C sp W to te) := by
  obtain ⟨f, fd, ps, hc, hm, F, b⟩ := c.ex
  refine ⟨fun pins s σ H Q I h => wpAny_BinOp (binT ho he I h fun v u s2 x y H2 I2 rx ry q => ?_)⟩
  obtain ⟨a, dx, fs, b', dy, gs, rfl, rfl, ha, hb, q⟩ := q
  cases rx
  cases ry
  obtain ⟨mA, J, _⟩ := ins_get I2.hok ha
  obtain ⟨mB, J', _⟩ := ins_get I2.hok hb
  obtain ⟨od, J, _⟩ := J.look
  obtain ⟨od', J', _⟩ := J'.look
  obtain ⟨m', hF⟩ := I2.fr
  refine PySem.W.binop_K hF I2.ok.mod.kin J J'.type sf hm.at_ hm.fn ?_
  refine wpAny_mono (run_fnS (E := WE W) (us := [.ref a, .ref b']) (vs := [.ref a, .ref b']) F (hr.mono hk) b (passAt tk σ) I2 (.cons rfl (.cons rfl .nil)) q) (fun w s' z => ?_) fun _ _ x => x
  obtain ⟨z', H', I', rz, qz⟩ := z
  exact SlX.cmpback rz ⟨z', H', I', rz, qz⟩
/-- the same in a def that raises nothing -/
def tOp0 (C : Addr) (sp : Sp) (to te : TE) : TE := fun σ H Q => to σ H fun x H1 => te σ H1 fun y H2 => ∃ a dx fs b dy gs, x = .ref a ∧ y = .ref b ∧ H2 a = some (.ins C dx fs) ∧ H2 b = some (.ins C dy gs) ∧ sp [x, y] H2 Q (fun _ _ _ => False)
theorem pe_op0 {op : Operator} (c : Met X.prog X.w X.K X.mg X.base k C (PySem.dunder op.info.2) sp) (sf : PySem.W.selfFirst X.K C = true) (hr : Room j X.A) (hk : k ≤ j) (ho : PE X o to) (he : PE X e te) : PE X (.BinOp o op e pos) (tOp0 C sp to te) := by
  obtain ⟨f, fd, ps, hc, hm, F, b⟩ := c.ex
  refine ⟨fun pins s σ H Q I h => wpAny_BinOp (binT ho he I h fun v u s2 x y H2 I2 rx ry q => ?_)⟩
  obtain ⟨a, dx, fs, b', dy, gs, rfl, rfl, ha, hb, q⟩ := q
  cases rx
  cases ry
  obtain ⟨mA, J, _⟩ := ins_get I2.hok ha
  obtain ⟨mB, J', _⟩ := ins_get I2.hok hb
  obtain ⟨od, J, _⟩ := J.look
  obtain ⟨od', J', _⟩ := J'.look
  obtain ⟨m', hF⟩ := I2.fr
  refine PySem.W.binop_K hF I2.ok.mod.kin J J'.type sf hm.at_ hm.fn ?_
  refine wpAny_mono (run_fnS (E := fun _ _ _ _ => False) (us := [.ref a, .ref b']) (vs := [.ref a, .ref b']) F (hr.mono hk) b (fun _ _ _ _ _ _ c => False.elim c) I2 (.cons rfl (.cons rfl .nil)) q) (fun w s' z => ?_) fun _ _ x => x
  obtain ⟨z', H', I', rz, qz⟩ := z
  exact SlX.cmpback rz ⟨z', H', I', rz, qz⟩
end
/-- an own error class without __init__ over ValueError -/
structure RseIn (K : PySem.W.Frag) (mg : Str → Option Value) (x : Str) (C : Addr) : Prop where
  xP : PySem.W.excIn K C [.type "ValueError", .type "Exception", .type "BaseException", .type "object"] "ValueError.__new__" = true
  gC : mg x = some (.ref C)
  kP : PySem.W.keepIn K (.ref C) = true
  bP : PySem.W.subIn K (.ref C) (.type "BaseException") = some true
  tP : PySem.W.typeIn K (.ref C) = some (.type "type")
  E : ErrC K C
end LR

set_option Elab.async false
set_option maxRecDepth 100000
set_option linter.all false
set_option maxHeartbeats 4000000
/-! t[::-1] of a tuple: always a new one -/
namespace LR
open PySem PySem.Spec PyProof.Rows L2
section
open HT
variable {prog : Program} {w : World} {A : Around} {E : Value → Shared → Prop} {s : Shared}
theorem adjust_rev (n : Nat) : Builtin.Slice.sliceAdjust none none (-1) (n : Int) = ((n : Int) - 1, -1) := by
  unfold Builtin.Slice.sliceAdjust
  simp
theorem places_rev (n : Nat) : Builtin.Slice.slicePlaces ((n : Int) - 1) (-1) (-1) = n := by
  unfold Builtin.Slice.slicePlaces
  rw [if_neg (by decide)]
  by_cases h : (n : Int) - 1 > -1
  · rw [if_pos h, show (-(-1 : Int)) = 1 by decide, Int.ediv_one]
    omega
  · rw [if_neg h]
    omega
theorem applied_rev {sl : Addr} {vl vu vs : Value} {n : Nat} {Q : Int × Int × Nat → Shared → Prop} (hs : s.heap.IsSliceOf sl vl vu vs) (pl : IsPart vl none) (pu : IsPart vu none) (ps : IsPart vs (some (-1)))
    (h : Q ((n : Int) - 1, -1, n) s) : wpAny (model prog w) A (Builtin.Slice.sliceApplied (.ref sl) (pure (n : Int))) Q E s := by
  obtain ⟨os, hos, hcs, hds⟩ := id hs
  unfold Builtin.Slice.sliceApplied Builtin.Slice.sliceFields
  refine wpAny_bind (wpAny_bind (wpAny_field hos hds (x := vl) rfl (wpAny_bind (wpAny_field hos hds (x := vu) rfl (wpAny_bind (wpAny_field hos hds (x := vs) rfl (wpAny_pure ?_)))))))
  refine wpAny_bind (slicePart_ ps ?_)
  show wpAny _ _ (if ((-1 : Int) == 0) = true then _ else _) _ _ s
  rw [if_neg (by decide)]
  refine wpAny_bind (slicePart_ pl (wpAny_bind (slicePart_ pu (wpAny_bind (wpAny_pure ?_)))))
  show wpAny _ _ (match Builtin.Slice.sliceAdjust none none (-1) (n : Int) with | (lo, hi) => pure (lo, (-1 : Int), Builtin.Slice.slicePlaces lo hi (-1))) _ _ s
  rw [adjust_rev n]
  show wpAny _ _ (pure ((n : Int) - 1, (-1 : Int), Builtin.Slice.slicePlaces ((n : Int) - 1) (-1) (-1))) _ _ s
  rw [places_rev]
  exact wpAny_pure h
theorem pick_rev (xs : Array Value) : ((List.range xs.size).filterMap fun (m : Nat) => xs[(((xs.size : Int) - 1) + (m : Int) * (-1)).toNat]?).toArray = xs.toList.reverse.toArray := by
  have e : (List.range xs.size).filterMap (fun (m : Nat) => xs[(((xs.size : Int) - 1) + (m : Int) * (-1)).toNat]?) = ((List.range xs.size).map fun k => xs.size - 1 - k).filterMap (xs[·]?) := by
    rw [List.filterMap_map]
    congr 1
    funext m
    show xs[(((xs.size : Int) - 1) + (m : Int) * (-1)).toNat]? = xs[xs.size - 1 - m]?
    by_cases h : m < xs.size
    · have : (((xs.size : Int) - 1) + (m : Int) * (-1)).toNat = xs.size - 1 - m := by omega
      rw [this]
    · have : (((xs.size : Int) - 1) + (m : Int) * (-1)).toNat = xs.size - 1 - m := by omega
      rw [this]
  rw [e, PySem.W.krv_range, List.filterMap_reverse, PySem.W.krv_all]
theorem getItem_tuple_rev {t sl : Addr} {items : Array Value} {vl vu vs : Value} {Q : Value → Shared → Prop} (ht : IsTup s.heap t items) (hs : s.heap.IsSliceOf sl vl vu vs) (pl : IsPart vl none) (pu : IsPart vu none) (ps : IsPart vs (some (-1)))
    (h : Q (.ref s.heap.objs.size) { s with heap := s.heap.push { cls := .type "tuple", data := .seq items.toList.reverse.toArray } })
    (hsz : items.size ≤ sizeLine) : wpAny (model prog w) A (getItem (.ref t) (.ref sl)) Q E s := by
  have htake : sizeOk (.seq items.toList.reverse.toArray) := by
    show items.toList.reverse.toArray.size ≤ sizeLine
    rw [List.size_toArray, List.length_reverse, Array.length_toList]
    exact hsz
  obtain ⟨os, hos, hcs, hds⟩ := id hs
  have hTs : s.TypeIs (.ref sl) "slice" := ⟨os, hos, hcs⟩
  unfold getItem
  try with_reducible refine wpAny_holding ?_
  first | refine wpAny_bind (wpAny_pure ?_) | skip
  refine wpAny_bind (wpAny_sequenceKey ht.typeIs (by decide) ?_)
  refine wpAny_bind (wpAny_callSpecial?_slot (name := Str.ofString "__getitem__") ht.typeIs PyProof.Rows.slot_tuple_getitem
    (wpAny_call_entry PyProof.Rows.slot_tuple_getitem ht.typeIs entry_tuple_getitem ?_ (args_tuple_getitem _ _)))
  show wpAny _ _ (Builtin.Tuple.tupleItemsOf (.ref t) >>= _) _ _ s
  refine wpAny_bind (tupleItemsOf_ ht ?_)
  refine wpAny_bind (wpAny_typeOf hTs ?_)
  rw [if_pos (by decide)]
  refine wpAny_bind (applied_rev hs pl pu ps ?_)
  show wpAny _ _ (if ((((items.size : Nat) : Int) - 1) == 0 && (-1 : Int) == 1 && items.size == items.size) = true then _ else _) _ _ s
  rw [if_neg (by simp), pick_rev]
  first
    | exact wpAny_bind (m := Builtin.Tuple.tupleExact _) (wpAny_newObj_type (wpAny_pure ⟨_, rfl, wpAny_pure h⟩) htake)
    | exact wpAny_bind (m := Builtin.Tuple.tupleExact _) (wpAny_newObj_type (wpAny_bind (wpAny_pure (wpAny_pure ⟨_, rfl, wpAny_pure h⟩))) htake)
    | exact wpAny_bind (wpAny_bind (m := Builtin.Tuple.tupleExact _) (wpAny_newObj_type (wpAny_pure (wpAny_pure ⟨_, rfl, wpAny_pure h⟩)) htake))
    | exact wpAny_bind (wpAny_bind (m := Builtin.Tuple.tupleExact _) (wpAny_newObj_type (wpAny_pure ⟨_, rfl, wpAny_pure h⟩) htake))
end
section
variable {X : Cx}
def tRevT (K : PySem.W.Frag) (te : TE) : TE := fun σ H Q => te σ H fun x H1 => ∃ a xs, x = .ref a ∧ SqT K H1 a xs ∧ ∀ p, H1 p = none → Q (.ref p) (upd H1 p (.tup xs.reverse))
theorem pe_revT {e : Expr} {te : TE} {k : Nat} {p1 p2 p3 pos : Pos} (he : PE X e te) : PE X (.Subscript e (.Slice none none (some (.UnaryOp .USub (.Constant (.int 1) k p1) p2)) p3) pos) (tRevT X.K te) := by
  refine ⟨fun pins s σ H Q I h => ?_⟩
  refine Subscript_ (thn (he.run pins s σ H _ I h) fun v s1 ⟨x, H1, I1, r1, q1⟩ => ?_)
  obtain ⟨a, xs, ex, hx, q⟩ := q1
  subst ex
  cases r1
  have hst : PO X (some (.UnaryOp .USub (.Constant (.int 1) k p1) p2)) (tPart (tUn (rU fun i => .int (-i)) (tC (.int 1)))) := po_some (pe_un un_neg pe_int)
  refine wpAny_Slice (thn (po_none.run pins s1 σ H1 (fun o H2 => o = none ∧ H2 = H1) I1 ⟨rfl, rfl⟩) fun vl s2 ⟨l, H2, I2, pl, el, e2⟩ => ?_)
  subst el e2
  refine thn (po_none.run pins s2 σ H2 (fun o H3 => o = none ∧ H3 = H2) I2 ⟨rfl, rfl⟩) fun vu s3 ⟨u, H3, I3, pu, eu, e3⟩ => ?_
  subst eu e3
  refine thn (hst.run pins s3 σ H3 (fun o H4 => o = some (-1) ∧ H4 = H3) I3 ⟨1, rfl, -1, rfl, rfl, rfl⟩) fun vs s4 ⟨o, H4, I4, ps, eo, e4⟩ => ?_
  subst eo e4
  have I5 : Inv X pins σ H4 { s4 with heap := s4.heap.push { cls := .type "slice", data := .fields #[vl, vu, vs] } } := I4.kept (t' := s4.toks) fun b ob q => Heap.get?_push_of_some _ q
  obtain ⟨its, r, ht, hz⟩ := I5.tuple hx
  have hlen := r.length
  show wpAny (model X.prog X.w) X.A (subscriptTail e (.Slice none none (some (.UnaryOp .USub (.Constant (.int 1) k p1) p2)) p3) (.ref a) (.ref s4.heap.objs.size)) (EP X pins σ Q) X.xe { s4 with heap := s4.heap.push { cls := .type "slice", data := .fields #[vl, vu, vs] } }
  refine tail_any (ops := [.ref a, .ref s4.heap.objs.size]) ht.typeIs (PyProof.Rows.slot_tuple_getitem.lookup) ?_ (by with_unfolding_all rfl)
  refine getItem_tuple_rev ht (Heap.IsSliceOf.new _ vl vu vs) pl pu ps ?_ (by rw [List.size_toArray]; omega)
  refine ⟨.ref _, _, I5.laid (t' := s4.toks) (o := .tup xs.reverse) (fun b ob q => Heap.get?_push_of_some _ q) (Nat.le_refl _) ?_, rfl, q _ (I5.hok.fresh (Nat.le_refl _))⟩
  exact ⟨by rw [List.length_reverse]; exact hz, _, r.reverse, IsTup.new _ _⟩
end
end LR

set_option Elab.async false
set_option maxRecDepth 100000
set_option linter.all false
set_option maxHeartbeats 4000000
/-! pieces, flips, sums of ladders -/
namespace LR
open PySem PySem.Spec PyProof.Rows L2
/-- the stretches between the levels that equal h -/
def spl (h : Int) : List Int → List (List Int)
  | [] => [[]]
  | l :: r => if l = h then [] :: spl h r else (l :: (spl h r).headD []) :: (spl h r).tail
theorem spl_ne (h : Int) : ∀ r, ∃ p ps, spl h r = p :: ps
  | [] => ⟨_, _, rfl⟩
  | l :: r => by
    unfold spl
    split
    · exact ⟨_, _, rfl⟩
    · exact ⟨_, _, rfl⟩
theorem spl_hit {h : Int} {r : List Int} : spl h (h :: r) = [] :: spl h r := by rw [spl, if_pos rfl]
theorem spl_miss {h l : Int} {r : List Int} {p : List Int} {ps : List (List Int)} (c : ¬ l = h) (e : spl h r = p :: ps) : spl h (l :: r) = (l :: p) :: ps := by rw [spl, if_neg c, e]; rfl
theorem spl_cat (h : Int) (ms : List Int) : ∀ ls, spl h (ls ++ h :: ms) = spl h ls ++ spl h ms
  | [] => by rw [List.nil_append, spl_hit]; rfl
  | l :: r => by
    have ih := spl_cat h ms r
    by_cases c : l = h
    · subst c
      rw [List.cons_append, spl_hit, spl_hit, ih]; rfl
    · obtain ⟨p, ps, e⟩ := spl_ne h r
      rw [e] at ih
      rw [List.cons_append, spl_miss c ih, spl_miss c e]; rfl
theorem spl_snoc {h l : Int} (c : ¬ l = h) : ∀ (xs : List Int) (P : List (List Int)) (p : List Int), spl h xs = P ++ [p] → spl h (xs ++ [l]) = P ++ [p ++ [l]]
  | [], P, p, e => by
    have e : [[]] = P ++ [p] := e
    cases P with
    | nil => cases e; exact spl_miss c rfl
    | cons q P => injection e with _ e; cases P <;> cases e
  | x :: r, P, p, e => by
    obtain ⟨q, qs, eq⟩ := spl_ne h r
    by_cases d : x = h
    · subst d
      rw [spl_hit] at e
      rw [List.cons_append, spl_hit]
      cases P with
      | nil => injection e with _ e; rw [eq] at e; cases e
      | cons y P =>
        injection e with e1 e2
        rw [spl_snoc c r P p e2, e1]; rfl
    · rw [spl_miss d eq] at e
      cases P with
      | nil =>
        injection e with e1 e2
        subst e2
        have := spl_snoc c r [] q eq
        rw [List.cons_append, spl_miss d this, ← e1]; rfl
      | cons y P =>
        injection e with e1 e2
        have := spl_snoc c r (q :: P) p (by rw [eq, e2]; rfl)
        rw [List.cons_append, spl_miss d this, ← e1]; rfl
/-- what lies ahead of the pieces behind P, and behind those ahead of S -/
def pre (h : Int) (P : List (List Int)) : List Int := P.flatMap fun q => q ++ [h]
def suf (h : Int) (S : List (List Int)) : List Int := S.flatMap fun q => h :: q
theorem pre_cons {h q P} : pre h (q :: P) = q ++ [h] ++ pre h P := rfl
theorem suf_cons {h q P} : suf h (q :: P) = h :: q ++ suf h P := rfl
theorem pre_snoc {h q} (P : List (List Int)) : pre h (P ++ [q]) = pre h P ++ (q ++ [h]) := by
  unfold pre; rw [List.flatMap_append]; simp
theorem spl_at (h : Int) : ∀ (ls : List Int) (P : List (List Int)) (p : List Int) (S : List (List Int)), spl h ls = P ++ p :: S → ls = pre h P ++ p ++ suf h S
  | [], P, p, S, e => by
    have e : [[]] = P ++ p :: S := e
    cases P with
    | nil => cases e; rfl
    | cons q P => injection e with _ e; cases P <;> cases e
  | x :: r, P, p, S, e => by
    obtain ⟨q, T, eq⟩ := spl_ne h r
    by_cases d : x = h
    · subst d
      rw [spl_hit] at e
      cases P with
      | nil =>
        injection e with e1 e2
        subst e1
        have := spl_at x r [] q T eq
        rw [← e2, eq, suf_cons]
        show x :: r = [] ++ [] ++ (x :: q ++ suf x T)
        rw [this]; rfl
      | cons y P =>
        injection e with e1 e2
        subst e1
        have := spl_at x r P p S e2
        rw [pre_cons]
        conv => lhs; rw [this]
        simp
    · rw [spl_miss d eq] at e
      cases P with
      | nil =>
        injection e with e1 e2
        subst e1 e2
        have := spl_at h r [] q T eq
        conv => lhs; rw [this]
        simp [pre]
      | cons y P =>
        injection e with e1 e2
        subst e1
        have := spl_at h r (q :: P) p S (by rw [eq, e2]; rfl)
        conv => lhs; rw [this]
        simp [pre]
theorem spl_no (h : Int) : ∀ (ls : List Int) (p : List Int), p ∈ spl h ls → ∀ l ∈ p, l ∈ ls ∧ l ≠ h
  | [], p, hp, l, hl => by
    have : p = [] := by simpa [spl] using hp
    subst this; cases hl
  | x :: r, p, hp, l, hl => by
    obtain ⟨q, T, eq⟩ := spl_ne h r
    by_cases d : x = h
    · subst d
      rw [spl_hit] at hp
      rcases List.mem_cons.mp hp with e | hp
      · subst e; cases hl
      · have := spl_no x r p hp l hl
        exact ⟨List.mem_cons_of_mem _ this.1, this.2⟩
    · rw [spl_miss d eq] at hp
      rcases List.mem_cons.mp hp with e | hp
      · subst e
        rcases List.mem_cons.mp hl with e | hl
        · subst e; exact ⟨List.mem_cons_self, d⟩
        · have := spl_no h r q (by rw [eq]; exact List.mem_cons_self) l hl
          exact ⟨List.mem_cons_of_mem _ this.1, this.2⟩
      · have := spl_no h r p (by rw [eq]; exact List.mem_cons_of_mem _ hp) l hl
        exact ⟨List.mem_cons_of_mem _ this.1, this.2⟩
theorem get_split {α : Type} {l : List α} {k : Nat} {a : α} (h : l[k]? = some a) : l = l.take k ++ a :: l.drop (k + 1) := by
  obtain ⟨hk, e⟩ := List.getElem?_eq_some_iff.mp h
  rw [← e, List.getElem_cons_drop, List.take_append_drop]
/-- the length of the pieces ahead of place k, with the levels behind each of them -/
def off (h : Int) (ps : List (List Int)) (k : Nat) : Nat := (pre h (ps.take k)).length
theorem off_zero {h ps} : off h ps 0 = 0 := rfl
theorem off_succ {h : Int} {ps : List (List Int)} {k : Nat} {p : List Int} (e : ps[k]? = some p) : off h ps (k + 1) = off h ps k + p.length + 1 := by
  unfold off
  rw [List.take_succ, e]
  show (pre h (ps.take k ++ [p])).length = _
  rw [pre_snoc, List.length_append, List.length_append]; simp; omega
theorem off_mono {h : Int} {ps : List (List Int)} {k m : Nat} (hk : k ≤ m) (hm : m ≤ ps.length) : off h ps k ≤ off h ps m := by
  induction hk with
  | refl => exact Nat.le_refl _
  | @step m hk ih =>
    have hm' : m < ps.length := hm
    have h1 := off_succ (h := h) (List.getElem?_eq_getElem hm')
    have h2 := ih (by omega)
    show off h ps k ≤ off h ps (m + 1)
    omega
theorem off_all {h : Int} {ls : List Int} : off h (spl h ls) (spl h ls).length = ls.length + 1 := by
  have key : ∀ (ps : List (List Int)), ps ≠ [] → ∃ P p, ps = P ++ [p] := fun ps hn => ⟨ps.dropLast, ps.getLast hn, (List.dropLast_concat_getLast hn).symm⟩
  obtain ⟨q, T, eq⟩ := spl_ne h ls
  obtain ⟨P, p, e⟩ := key (spl h ls) (by rw [eq]; simp)
  have e2 := spl_at h ls P p [] e
  have e3 : (pre h P).length + p.length = ls.length := by
    conv => rhs; rw [e2]
    simp [suf]
  unfold off
  rw [List.take_length, e, pre_snoc]
  simp
  omega
/-- a place of the row and its piece -/
def InPiece (h : Int) (ls : List Int) (s : Nat) (k j : Nat) : Prop := ∃ p, (spl h ls)[k]? = some p ∧ j ≤ p.length ∧ s = off h (spl h ls) k + j
theorem piece_get {h : Int} {ls : List Int} {k : Nat} {p : List Int} (e : (spl h ls)[k]? = some p) : (∀ m, m < p.length → ls[off h (spl h ls) k + m]? = p[m]?) ∧ (k + 1 < (spl h ls).length → ls[off h (spl h ls) k + p.length]? = some h) := by
  have e2 := spl_at h ls _ _ _ (get_split e)
  have eo : off h (spl h ls) k = (pre h ((spl h ls).take k)).length := rfl
  rw [eo]
  constructor
  · intro m hm
    conv => lhs; arg 1; rw [e2]
    rw [List.append_assoc, List.getElem?_append_right (by omega), List.getElem?_append_left (by omega)]
    congr 1; omega
  · intro hk
    conv => lhs; arg 1; rw [e2]
    rw [List.append_assoc, List.getElem?_append_right (by omega), List.getElem?_append_right (by omega)]
    obtain ⟨q, hq⟩ : ∃ q, (spl h ls)[k + 1]? = some q := ⟨_, List.getElem?_eq_getElem hk⟩
    have : (spl h ls).drop (k + 1) = q :: (spl h ls).drop (k + 2) := by
      obtain ⟨hk2, e3⟩ := List.getElem?_eq_some_iff.mp hq
      rw [← e3, List.getElem_cons_drop]
    rw [this, suf_cons]
    rw [show (pre h ((spl h ls).take k)).length + p.length - (pre h ((spl h ls).take k)).length - p.length = 0 by omega]
    rfl
theorem gap_same {h : Int} {ls p : List Int} {k i j : Nat} {g : Int} (e : (spl h ls)[k]? = some p) (hi : i ≤ p.length) (hj : j ≤ p.length) (hg : IsGap p (min i j) (max i j) g) :
    IsGap ls (min (off h (spl h ls) k + i) (off h (spl h ls) k + j)) (max (off h (spl h ls) k + i) (off h (spl h ls) k + j)) g := by
  have key := (piece_get e).1
  obtain ⟨g0, g1, g2⟩ := hg
  refine ⟨g0, fun m z a b em => ?_, ?_⟩
  · have := key (m - off h (spl h ls) k) (by omega)
    rw [show off h (spl h ls) k + (m - off h (spl h ls) k) = m by omega, em] at this
    exact g1 _ _ (by omega) (by omega) this.symm
  · rcases g2 with g2 | ⟨m, a, b, em⟩
    · exact .inl g2
    · exact .inr ⟨off h (spl h ls) k + m, by omega, by omega, by rw [key m (by omega), em]⟩
theorem gap_level {h : Int} {ls : List Int} {lo hi m : Nat} (h0 : 0 ≤ h) (hb : ∀ l ∈ ls, l ≤ h) (a : lo ≤ m) (b : m < hi) (e : ls[m]? = some h) : IsGap ls lo hi h :=
  ⟨h0, fun m z _ _ e => hb z (List.mem_of_getElem? e), .inr ⟨m, a, b, e⟩⟩
theorem gap_other {h : Int} {ls : List Int} {s t k j k' j' : Nat} (h0 : 0 ≤ h) (hb : ∀ l ∈ ls, l ≤ h) (a : InPiece h ls s k j) (b : InPiece h ls t k' j') (n : k ≠ k') : IsGap ls (min s t) (max s t) h := by
  have key : ∀ {s t k j k' j' : Nat}, InPiece h ls s k j → InPiece h ls t k' j' → k < k' → ∃ m, s ≤ m ∧ m < t ∧ ls[m]? = some h := by
    rintro s t k j k' j' ⟨p, e, hj, rfl⟩ ⟨p', e', hj', rfl⟩ hk
    have hk' := (List.getElem?_eq_some_iff.mp e').1
    refine ⟨off h (spl h ls) k + p.length, by omega, ?_, (piece_get e).2 (by omega)⟩
    have h1 := off_succ (h := h) e
    have h2 := off_mono (h := h) (ps := spl h ls) (k := k + 1) (m := k') (by omega) (by omega)
    omega
  by_cases c : k < k'
  · obtain ⟨m, m1, m2, m3⟩ := key a b c
    exact gap_level h0 hb (m := m) (by omega) (by omega) m3
  · obtain ⟨m, m1, m2, m3⟩ := key b a (by omega)
    exact gap_level h0 hb (m := m) (by omega) (by omega) m3
theorem gapI_of {ls : List Int} {u w g : Int} (hb : ∀ l ∈ ls, 1 ≤ l) (hu : 0 ≤ u) (hw : 0 ≤ w) (h : IsGap ls (min u.toNat w.toNat) (max u.toNat w.toNat) g) : gapI ls u w = g := (isGap_gapI hb hu hw).one h
theorem gap_rev {ls : List Int} {lo hi : Nat} {g : Int} (hh : hi ≤ ls.length) (h : IsGap ls lo hi g) : IsGap ls.reverse (ls.length - hi) (ls.length - lo) g := by
  obtain ⟨g0, g1, g2⟩ := h
  refine ⟨g0, fun m z a b e => ?_, ?_⟩
  · have hm : m < ls.length := by
      have := (List.getElem?_eq_some_iff.mp e).1
      rwa [List.length_reverse] at this
    rw [List.getElem?_reverse hm] at e
    exact g1 _ _ (by omega) (by omega) e
  · rcases g2 with g2 | ⟨m, a, b, e⟩
    · exact .inl g2
    · refine .inr ⟨ls.length - 1 - m, by omega, by omega, ?_⟩
      rw [List.getElem?_reverse (by omega)]
      rw [show ls.length - 1 - (ls.length - 1 - m) = m by omega, e]
theorem gapI_rev {ls : List Int} {u w : Int} (hb : ∀ l ∈ ls, 1 ≤ l) (hu : 0 ≤ u ∧ u ≤ ls.length) (hw : 0 ≤ w ∧ w ≤ ls.length) : gapI ls.reverse (ls.length - u) (ls.length - w) = gapI ls u w := by
  refine gapI_of (fun l hl => hb l (List.mem_reverse.mp hl)) (by omega) (by omega) ?_
  have := gap_rev (by omega) (isGap_gapI hb hu.1 hw.1)
  have e1 : min (((ls.length : Int) - u).toNat) (((ls.length : Int) - w).toNat) = ls.length - max u.toNat w.toNat := by omega
  have e2 : max (((ls.length : Int) - u).toNat) (((ls.length : Int) - w).toNat) = ls.length - min u.toNat w.toNat := by omega
  rw [e1, e2]
  exact this
theorem cnt_rev (lv : Int) (l : List Int) : cnt lv l.reverse = cnt lv l := by unfold cnt; rw [List.filter_reverse, List.length_reverse]
theorem cn_rev {ls : List Int} {lv : Int} {u : Nat} (hu : u ≤ ls.length) : cn ls.reverse lv (ls.length - u) = cnt lv (ls.drop u) := by
  unfold cn
  rw [List.take_reverse, cnt_rev]
  congr 2
  omega
theorem cat_tup {K : PySem.W.Frag} {H : Hp} {a b : Addr} {xs ys : List V} {Q : VK} (ha : H a = some (.tup xs)) (hb : H b = some (.tup ys)) (hz : xs.length + ys.length ≤ 10000) (k : ∀ p H', Same H H' → H' p = some (.tup (xs ++ ys)) → Q (.ref p) H') : rCatA K (.ref a) (.ref b) H Q :=
  ⟨a, b, xs, ys, rfl, rfl, SqT.of ha, SqT.of hb, (by rw [sizeLine_eq]; omega), fun e => k b H (Same.refl _) (by rw [e]; exact hb), fun _ e => k a H (Same.refl _) (by rw [e, List.append_nil]; exact ha), fun _ _ p hp => k p _ (same_new hp) upd_same⟩
/-- places a to b of the row -/
def cut (ls : List Int) (a b : Nat) : List Int := (ls.drop a).take (b - a)
theorem cut_full {ls : List Int} : cut ls 0 ls.length = ls := by unfold cut; simp
theorem cut_end {ls : List Int} {a : Nat} : cut ls a ls.length = ls.drop a := by
  unfold cut; rw [List.take_of_length_le]; rw [List.length_drop]; exact Nat.le_refl _
theorem cut_one {ls : List Int} {a : Nat} : cut ls a a = [] := by unfold cut; simp
theorem cut_snoc {ls : List Int} {a b : Nat} {l : Int} (hab : a ≤ b) (e : ls[b]? = some l) : cut ls a (b + 1) = cut ls a b ++ [l] := by
  unfold cut
  rw [show b + 1 - a = (b - a) + 1 by omega, List.take_succ, List.getElem?_drop, show a + (b - a) = b by omega, e]
  rfl
theorem sIx_nat {n d a : Nat} (h : a ≤ n) : HT.sIx n d (some (a : Int)) = a := by
  unfold HT.sIx
  simp only []
  rw [if_neg (by omega)]; omega
theorem cutV_nat {ls : List Int} {a b : Nat} (hb : b ≤ ls.length) (ha : a ≤ ls.length) : cutV (ls.map V.int) (some (a : Int)) (some (b : Int)) = (cut ls a b).map V.int := by
  unfold cutV cut
  rw [sIx_nat (by rw [List.length_map]; omega), sIx_nat (by rw [List.length_map]; omega), List.map_take, List.map_drop]
theorem sl_cut {K : PySem.W.Frag} {H : Hp} {tl : Addr} {ls : List Int} {a b : Nat} {Q : VK} (hT : H tl = some (.tup (ls.map V.int))) (hab : a ≤ b) (hb : b ≤ ls.length)
    (k : ∀ p H', Same H H' → H' p = some (.tup ((cut ls a b).map V.int)) → Q (.ref p) H') : rSlA K (.ref tl) (some (a : Int)) (some (b : Int)) H Q := by
  refine ⟨tl, _, rfl, SqT.of hT, fun ⟨e1, e2⟩ => ?_, fun _ p hp => k p _ (same_new hp) (by rw [upd_same, cutV_nat hb (by omega)])⟩
  rw [sIx_nat (by rw [List.length_map]; omega)] at e1
  rw [sIx_nat (by rw [List.length_map]; omega), List.length_map] at e2
  subst e1 e2
  exact k tl H (Same.refl _) (by rw [cut_full]; exact hT)
theorem sl_tail {K : PySem.W.Frag} {H : Hp} {tl : Addr} {ls : List Int} {a : Nat} {Q : VK} (hT : H tl = some (.tup (ls.map V.int))) (ha : a ≤ ls.length)
    (k : ∀ p H', Same H H' → H' p = some (.tup ((ls.drop a).map V.int)) → Q (.ref p) H') : rSlA K (.ref tl) (some (a : Int)) none H Q := by
  have ec : cutV (ls.map V.int) (some (a : Int)) none = (ls.drop a).map V.int := by
    unfold cutV
    rw [sIx_nat (by rw [List.length_map]; omega)]
    show ((ls.map V.int).drop a).take ((ls.map V.int).length - a) = _
    rw [List.take_of_length_le (by rw [List.length_drop]; exact Nat.le_refl _), List.map_drop]
  refine ⟨tl, _, rfl, SqT.of hT, fun ⟨e1, e2⟩ => ?_, fun _ p hp => k p _ (same_new hp) (by rw [upd_same, ec])⟩
  rw [sIx_nat (by rw [List.length_map]; omega)] at e1
  subst e1
  exact k tl H (Same.refl _) (by rw [List.drop_zero]; exact hT)
/-- the places of the level h below i -/
def mks (h : Int) (ls : List Int) (i : Nat) : List Nat := (List.range i).filter fun k => decide (ls[k]? = some h)
theorem mks_succ {h : Int} {ls : List Int} {i : Nat} : mks h ls (i + 1) = mks h ls i ++ if ls[i]? = some h then [i] else [] := by
  unfold mks
  rw [List.range_succ, List.filter_append]
  congr 1
  by_cases c : ls[i]? = some h
  · rw [if_pos c, List.filter_cons_of_pos (by simp [c])]; rfl
  · rw [if_neg c, List.filter_cons_of_neg (by simp [c])]; rfl
theorem mks_lt {h : Int} {ls : List Int} {i m : Nat} (hm : m ∈ mks h ls i) : m < i := by
  unfold mks at hm
  exact List.mem_range.mp (List.mem_filter.mp hm).1
def stF (ls : List Int) (a : List (List Int) × Nat) (m : Nat) : List (List Int) × Nat := (a.1 ++ [cut ls a.2 m], m + 1)
theorem stF_le {ls : List Int} {n : Nat} : ∀ (l : List Nat) (a : List (List Int) × Nat), a.2 ≤ n → (∀ m ∈ l, m < n) → (l.foldl (stF ls) a).2 ≤ n
  | [], _, h, _ => h
  | m :: r, a, _, h => stF_le r _ (h m List.mem_cons_self) fun k hk => h k (List.mem_cons_of_mem _ hk)
theorem fold_spl {h : Int} {ls : List Int} : ∀ i, i ≤ ls.length → spl h (ls.take i) = ((mks h ls i).foldl (stF ls) ([], 0)).1 ++ [cut ls ((mks h ls i).foldl (stF ls) ([], 0)).2 i]
  | 0, _ => rfl
  | i + 1, hi => by
    have ih := fold_spl (h := h) (ls := ls) i (by omega)
    have le := stF_le (ls := ls) (n := i) (mks h ls i) ([], 0) (Nat.zero_le _) (fun m hm => mks_lt hm)
    have el : ls[i]? = some ls[i] := List.getElem?_eq_getElem (by omega)
    have et : ls.take (i + 1) = ls.take i ++ [ls[i]] := by rw [List.take_succ, el]; rfl
    rw [mks_succ, et, List.foldl_append]
    by_cases c : ls[i]? = some h
    · rw [if_pos c]
      have e : ls[i] = h := by rw [el] at c; injection c
      rw [e, spl_cat, ih]
      show _ ++ [[]] = (((mks h ls i).foldl (stF ls) ([], 0)).1 ++ [cut ls ((mks h ls i).foldl (stF ls) ([], 0)).2 i]) ++ [cut ls (i + 1) (i + 1)]
      rw [cut_one]
    · rw [if_neg c]
      have e : ¬ ls[i] = h := fun q => c (by rw [el, q])
      rw [spl_snoc e _ _ _ ih]
      show _ = ((mks h ls i).foldl (stF ls) ([], 0)).1 ++ [cut ls ((mks h ls i).foldl (stF ls) ([], 0)).2 (i + 1)]
      rw [cut_snoc le el]
theorem fold_all {h : Int} {ls : List Int} : ((mks h ls ls.length ++ [ls.length]).foldl (stF ls) ([], 0)).1 = spl h ls := by
  have := fold_spl (h := h) (ls := ls) ls.length (Nat.le_refl _)
  rw [List.take_length] at this
  rw [List.foldl_append, this]
  rfl
/-- lists of tuples in the heap -/
def PartsAt (H : Hp) (a : Addr) (ps : List (List Int)) : Prop := ∃ ts : List Addr, H a = some (.lst (ts.map V.ref)) ∧ ts.length = ps.length ∧ ∀ (k : Nat) (t : Addr) (p : List Int), ts[k]? = some t → ps[k]? = some p → H t = some (.tup (p.map V.int))
theorem PartsAt.same {H H' a ps} (s : Same H H') (h : PartsAt H a ps) : PartsAt H' a ps := by
  obtain ⟨ts, h1, h2, h3⟩ := h
  exact ⟨ts, s _ _ h1, h2, fun k t p e1 e2 => s _ _ (h3 k t p e1 e2)⟩
theorem PartsAt.keep {H H' a ps q} (s : Keep q H H') (hq : ∃ l, H q = some (.lst l)) (n : a ≠ q) (h : PartsAt H a ps) : PartsAt H' a ps := by
  obtain ⟨ts, h1, h2, h3⟩ := h
  obtain ⟨l, hq⟩ := hq
  exact ⟨ts, s _ n _ h1, h2, fun k t p e1 e2 => s _ (ne_of (h3 k t p e1 e2) hq (by intro z; cases z)) _ (h3 k t p e1 e2)⟩
theorem PartsAt.push {H D ps q p} (h : PartsAt H D ps) (hq : H q = some (.tup (p.map V.int))) : ∃ xs, H D = some (.lst xs) ∧ xs.length = ps.length ∧ PartsAt (upd H D (.lst (xs ++ [.ref q]))) D (ps ++ [p]) := by
  obtain ⟨ts, h1, h2, h3⟩ := h
  refine ⟨_, h1, by rw [List.length_map, h2], ts ++ [q], by rw [upd_same, List.map_append]; rfl, by rw [List.length_append, List.length_append, h2]; rfl, fun k t r e1 e2 => ?_⟩
  have key : H t = some (.tup (r.map V.int)) := by
    by_cases c : k < ts.length
    · rw [List.getElem?_append_left c] at e1
      rw [List.getElem?_append_left (by omega)] at e2
      exact h3 k t r e1 e2
    · rw [List.getElem?_append_right (by omega)] at e1
      rw [List.getElem?_append_right (by omega)] at e2
      have : k = ts.length := by
        have := (List.getElem?_eq_some_iff.mp e1).1
        simp at this; omega
      subst this
      rw [Nat.sub_self] at e1
      rw [h2, Nat.sub_self] at e2
      cases e1; cases e2
      exact hq
  rw [upd_ne (ne_of key h1 (by intro z; cases z))]
  exact key
theorem parts_nil {H : Hp} {D : Addr} (h : H D = some (.lst [])) : PartsAt H D [] := ⟨[], h, rfl, fun k t p e _ => by simp at e⟩
def tupD (p : List Int) : Dt := .tup (p.map Dt.int)
theorem ats_of {H : Hp} : ∀ {ts : List Addr} {ps : List (List Int)}, ts.length = ps.length → (∀ p ∈ ps, p.length ≤ 100000) → (∀ (k : Nat) (t : Addr) (p : List Int), ts[k]? = some t → ps[k]? = some p → H t = some (.tup (p.map V.int))) → Ats H (ts.map V.ref) (ps.map tupD)
  | [], [], _, _, _ => .nil
  | t :: ts, p :: ps, hl, hz, h => .cons (.tup (h 0 t p rfl rfl) (ats_ints H p) (by rw [List.length_map]; exact hz p List.mem_cons_self)) (ats_of (by simpa using hl) (fun q hq => hz q (List.mem_cons_of_mem _ hq)) fun k t' p' e1 e2 => h (k + 1) t' p' (by simpa using e1) (by simpa using e2))
  | [], _ :: _, hl, _, _ => by simp at hl
  | _ :: _, [], hl, _, _ => by simp at hl
theorem PartsAt.at {H a ps} (h : PartsAt H a ps) (hz : ps.length ≤ 100000) (hp : ∀ p ∈ ps, p.length ≤ 100000) : At H (.ref a) (.lst (ps.map tupD)) := by
  obtain ⟨ts, h1, h2, h3⟩ := h
  exact .lst h1 (ats_of h2 hp h3) (by rw [List.length_map, h2]; exact hz)
theorem deps_parts : ∀ ps : List (List Int), deps (ps.map tupD) ≤ 1
  | [] => Nat.zero_le _
  | p :: ps => by
    rw [List.map_cons, deps]
    have : dep (tupD p) = 1 := by show deps (p.map Dt.int) + 1 = 1; rw [deps_ints]
    have := deps_parts ps
    omega
theorem tupD_inj {p q : List Int} (h : tupD p = tupD q) : p = q := by
  unfold tupD at h
  injection h with h
  exact ats_ints_eq h
theorem PartsAt.get {H a ps} (h : PartsAt H a ps) {k : Nat} {p : List Int} (e : ps[k]? = some p) : ∃ t xs, H a = some (.lst xs) ∧ xs.length = ps.length ∧ xs[k]? = some (.ref t) ∧ H t = some (.tup (p.map V.int)) := by
  obtain ⟨ts, h1, h2, h3⟩ := h
  have hk : k < ts.length := by rw [h2]; exact (List.getElem?_eq_some_iff.mp e).1
  exact ⟨ts[k], _, h1, by rw [List.length_map, h2], by rw [List.getElem?_map, List.getElem?_eq_getElem hk]; rfl, h3 k _ p (List.getElem?_eq_getElem hk) e⟩
theorem PartsAt.len {H a ps} (h : PartsAt H a ps) : ∃ xs, H a = some (.lst xs) ∧ xs.length = ps.length := by
  obtain ⟨ts, h1, h2, _⟩ := h
  exact ⟨_, h1, by rw [List.length_map, h2]⟩
theorem spl_len (h : Int) : ∀ ls, (spl h ls).length ≤ ls.length + 1
  | [] => Nat.le_refl _
  | l :: r => by
    have := spl_len h r
    obtain ⟨q, T, eq⟩ := spl_ne h r
    by_cases d : l = h
    · subst d; rw [spl_hit]; simp; exact this
    · rw [spl_miss d eq]; rw [eq] at this; simp at this ⊢; omega
theorem spl_plen {h : Int} {ls p : List Int} (hp : p ∈ spl h ls) : p.length ≤ ls.length := by
  obtain ⟨P, S, e⟩ := List.append_of_mem hp
  have := spl_at h ls P p S e
  conv => rhs; rw [this]
  simp; omega
end LR

set_option Elab.async false
set_option maxRecDepth 100000
set_option linter.all false
set_option maxHeartbeats 4000000
/-! sets of tuples of ints: asked, added to, made empty; sorted of a tuple of such -/
namespace LR
open PySem PySem.Spec PyProof.Rows L2
theorem nth_dum (m : Nat) : ∀ (n : Nat) (p : SetTable.Probe), p.dummy = none → (nth m p n).dummy = none
  | 0, _, h => h
  | n + 1, p, h => nth_dum m n _ (by unfold adv; split <;> exact h)
section
variable {P : Program} {w : World} {A : Around} {E : Value → Shared → Prop} {s : Shared} {a : Addr} {L : List (Addr × List Int)} {es : Array (Int × Value)} {ep : Nat} {t : SetTable}
/-- the search that adds nothing, from the c-th place of the way on -/
theorem seek (R : SetTR P w s.heap a L es ep t) {x : Addr} {k : List Int} (hx : IsT P w s.heap k x) (hu : A.units < cLine) {K : Nat} {p0 : SetTable.Probe} (start : t.probeStart (thash P w k) = p0) (d0 : p0.dummy = none)
    (lim : K < 10 * SetTable.turns t.mask) (stop : (nth t.mask p0 K).j ∉ t.place.toList) (full : ∀ c, c < K → (nth t.mask p0 c).j ∈ t.place.toList) {Q : SetFound → Shared → Prop}
    (yes : k ∈ L.map (·.2) → ∀ i, Q (.there (some i)) s) (no : k ∉ L.map (·.2) → ∀ j, Q (.free j false) s) :
    ∀ (f c : Nat) (st : Option SetTable.Probe), st.getD p0 = nth t.mask p0 c → c ≤ K → K - c < f →
      (∀ (i : Nat) q, L[i]? = some q → q.2 = k → ∃ d, c ≤ d ∧ d < K ∧ t.place.toList[i]? = some (nth t.mask p0 d).j) →
      wpAny (model P w) A (setSearchFrom a (.ref x) (thash P w k) false f st) Q E s := by
  intro f
  induction f with
  | zero => intro c st _ _ z _; omega
  | succ f ih =>
    intro c st hst cK lt left
    obtain ⟨ob, hob, _, dob⟩ := R.ob
    have to : ∀ q, nth t.mask (nth t.mask p0 c) q = nth t.mask p0 (c + q) := fun q => (nth_add t.mask c p0 q).symm
    have hashOf : ∀ (i : Nat) q, L[i]? = some q → (es[i]?.map (·.1)).getD 0 = thash P w q.2 := fun i q e => by rw [R.entry e]; rfl
    have gs := go_spec t R.tab.ris R.tab.dm (fun i => (es[i]?.map (·.1)).getD 0) (thash P w k) (10 * SetTable.turns t.mask) (K - c) (nth t.mask p0 c) (nth_dum _ _ _ d0) (by omega)
      (fun q hq => by rw [to]; exact full _ (by omega)) (by rw [to, Nat.add_sub_cancel' cK]; exact stop)
    rw [setSearchFrom_succ]
    refine wpAny_bind (wpAny_setState_of hob dob R.fits ?_)
    show wpAny _ _ (if t.gaveWay = true then _ else _) _ _ _
    refine wp_if_neg R.gw ?_
    simp only [start, hst]
    rcases gs with ⟨q, i, q1, pi, hi, before, pr⟩ | ⟨before, pr⟩
    · rw [show t.probe (fun i => (es[i]?.map (·.1)).getD 0) (thash P w k) (nth t.mask p0 c) = _ from pr]
      rw [to] at pi
      have il : i < L.length := by
        have z1 := (List.getElem?_eq_some_iff.mp pi).1
        have z2 := R.tab.sz
        rw [List.length_map] at z2
        rw [Array.length_toList] at z1
        omega
      obtain ⟨e, he⟩ : ∃ e, L[i]? = some e := ⟨_, List.getElem?_eq_getElem il⟩
      have em := List.mem_of_getElem? he
      have main : wpAny (model P w) A (searchRest a (.ref x) (thash P w k) false f es t (nth t.mask p0 (c + q)).j i (nth t.mask p0 (c + (q + 1)))) Q E s := by
        unfold searchRest
        rw [R.entry he]
        refine wpAny_bind (wpAny_holding (wpAny_eqBool_tuple hu (R.tup e em) hx ?_))
        refine wpAny_bind (wpAny_setState_of hob dob R.fits ?_)
        refine wp_if_neg (by simp) ?_
        refine wpAny_bind (wpAny_pure ?_)
        rw [sameMem]
        have live : t.slot (nth t.mask p0 (c + q)).j = .live i := slot_live R.tab.ris pi
        simp only [if_true, live, R.entry he]
        refine wpAny_bind (wpAny_isSame_ref_self (wpAny_bind (wpAny_pure ?_)))
        simp only [if_true]
        by_cases same : e.2 = k
        · exact wp_if_pos (by simp [same]) (wpAny_pure (yes (List.mem_map.mpr ⟨e, em, same⟩) i))
        · refine wp_if_neg (by simp [same]) (ih (c + (q + 1)) _ rfl (by omega) (by omega) fun i' e' h1 h2 => ?_)
          obtain ⟨d, d1, d2, d3⟩ := left i' e' h1 h2
          refine ⟨d, ?_, d2, d3⟩
          apply Classical.byContradiction
          intro small
          by_cases at_ : d = c + q
          · have s1 := slot_live R.tab.ris d3
            rw [at_, live] at s1
            cases s1
            rw [he] at h1; cases h1
            exact same h2
          · refine before (d - c) i' (by omega) (by rw [to, Nat.add_sub_cancel' d1]; exact d3) ?_
            rw [hashOf i' e' h1, h2]
      rw [to, to]
      by_cases led : t.led = true
      · refine wp_if_neg (by rw [led]; decide) ?_
        exact wpAny_bind (wpAny_pure main)
      · refine wp_if_pos (by simpa using led) (wpAny_bind (seen_tup hx (fun y hy => ?_) (wp_if_neg (by decide) (wpAny_bind (wpAny_pure main)))))
        obtain ⟨v, hv, rfl⟩ := List.mem_map.mp hy
        have v2 : v ∈ es.toList := by
          simp at hv
          simpa using hv.1
        rw [R.rows] at v2
        obtain ⟨u, hu2, rfl⟩ := List.mem_map.mp v2
        exact ⟨u.2, u.1, rfl, R.tup u hu2⟩
    · rw [show t.probe (fun i => (es[i]?.map (·.1)).getD 0) (thash P w k) (nth t.mask p0 c) = _ from pr]
      refine wpAny_pure (no (fun hm => ?_) _)
      obtain ⟨e, em, ek⟩ := List.mem_map.mp hm
      obtain ⟨i, hi, ei⟩ := List.getElem_of_mem em
      have h1 : L[i]? = some e := by rw [List.getElem?_eq_getElem hi, ei]
      obtain ⟨d, d1, d2, d3⟩ := left i e h1 ek
      refine before (d - c) i (by omega) (by rw [to, Nat.add_sub_cancel' d1]; exact d3) ?_
      rw [hashOf i e h1, ek]
theorem find_t (R : SetTR P w s.heap a L es ep t) {x : Addr} {k : List Int} (hx : IsT P w s.heap k x) (hu : A.units < cLine) {Q : Option Nat → Shared → Prop}
    (yes : k ∈ L.map (·.2) → ∀ i, Q (some i) s) (no : k ∉ L.map (·.2) → Q none s) : wpAny (model P w) A (setFind a (.ref x) (thash P w k)) Q E s := by
  obtain ⟨ob, hob, _, dob⟩ := R.ob
  have room := R.room
  obtain ⟨K, lim, stop, full⟩ := R.tab.first (by rw [List.length_map]; omega) (thash P w k)
  have lim2 : K < 100000 := by
    have : SetTable.turns t.mask ≤ 142 := by
      unfold SetTable.turns
      rcases R.tab.mok with e | e | e <;> omega
    omega
  show wpAny (model P w) A (setFindIn a (.ref x) (thash P w k) (99999 + 1)) Q E s
  unfold setFindIn
  refine wpAny_bind (wpAny_setState_of hob dob R.fits (wp_if_neg (by simp [byScan, Value.scannable]) ?_))
  refine wpAny_bind ?_
  refine seek R hx hu (start_run t _) rfl lim stop full (fun m i => wpAny_pure (yes m i)) (fun m j => wpAny_pure (no m)) 100000 0 none rfl (Nat.zero_le _) (by omega) fun i q e ek => ?_
  have hi : (L.map fun p => thash P w p.2)[i]? = some (thash P w k) := by rw [List.getElem?_map, e, ← ek]; rfl
  have il : i < t.place.toList.length := by
    have z1 := (List.getElem?_eq_some_iff.mp e).1
    have z2 := R.tab.sz
    rw [List.length_map] at z2
    rw [Array.length_toList]; omega
  have pj := List.getElem?_eq_getElem il
  obtain ⟨d, d1, d2⟩ := R.tab.before stop hi pj
  exact ⟨d, Nat.zero_le _, d1, pj.trans (congrArg some d2.symm)⟩
end
section
variable {P : Program} {w : World} {A : Around} {E : Value → Shared → Prop} {s : Shared}
/-- the items of a list or a tuple, gathered -/
theorem gather {p : Addr} {T : String} {o : Obj} {vs : List Value} {n : Nat} {Q : List Value → Shared → Prop} (hT : T = "list" ∨ T = "tuple") (ho : s.heap.get? p = some o) (hc : o.cls = .type T) (hd : o.data = .seq vs.toArray n) (hz : vs.length ≤ sizeLine)
    (h : ∀ h', (∀ b u, s.heap.get? b = some u → h'.get? b = some u) → s.heap.objs.size ≤ h'.objs.size → Q vs { s with heap := h' }) : wpAny (model P w) A (collect (.ref p)) Q E s := by
  have new0 : (s.heap.push (seqObj "list" #[] 0)).get? s.heap.objs.size = some (seqObj "list" #[] 0) := Heap.get?_push_size _ rfl
  have old : (s.heap.push (seqObj "list" #[] 0)).get? p = some o := Heap.get?_push_of_some _ ho
  have keep : ∀ b u, s.heap.get? b = some u → ((s.heap.push (seqObj "list" #[] 0)).update s.heap.objs.size (Obj.mapSeq (· ++ vs.toArray))).get? b = some u := fun b u e =>
    (Heap.get?_update_other _ _ (Ne.symm (Nat.ne_of_lt (Heap.lt_size e)))).trans (Heap.get?_push_of_some _ e)
  unfold collect
  refine wpAny_bind (wpAny_runValue (codeAny_builtin entry_proto_collect' ?_))
  refine wpAny_bind (wpAny_newList (wpAny_pure ⟨Code.quiet_builtin _ (by decide +kernel), codeAny_builtin entry_list_iadd' ?_⟩))
  show wpAny (model P w) _ (Builtin.List.listExtendWith (.ref s.heap.objs.size) (.ref p) (.ref s.heap.objs.size)) _ _ { s with heap := s.heap.push (seqObj "list" #[] 0) }
  unfold Builtin.List.listExtendWith
  refine wpAny_bind (wpAny_typeOf (T := T) ⟨o, old, hc⟩ ?_)
  rw [if_pos (by rcases hT with rfl | rfl <;> simp)]
  refine wpAny_bind (listItems_at old hd (wpAny_bind (listItems_at (xs := #[]) (n := 0) new0 rfl ?_)))
  rw [if_neg (by simp)]
  refine wpAny_bind (listUpdate_at (xs := #[]) (n := 0) new0 rfl ?_ (Nat.zero_le _) (by show (#[] ++ vs.toArray).size ≤ sizeLine + 1; simp only [Array.size_append, List.size_toArray, List.length_nil]; omega))
  refine wpAny_pure (wpAny_bind (wpAny_load (get?_update_seq new0 _) ?_))
  show wpAny (model P w) _ (pure ((#[] : Array Value) ++ vs.toArray).toList) Q E _
  rw [show ((#[] : Array Value) ++ vs.toArray).toList = vs by simp]
  exact wpAny_pure (h _ keep (by rw [Heap.size_update, size_push']; omega))
/-- sorted(xs) of a list or a tuple of tuples of ints -/
theorem sorted_seq {p : Addr} {T : String} {o : Obj} {vs : List Value} {n d : Nat} {B : Int} {Q : Value → Shared → Prop} (hT : T = "list" ∨ T = "tuple") (ho : s.heap.get? p = some o) (hc : o.cls = .type T) (hd : o.data = .seq vs.toArray n) (h64 : vs.length < 64) (hd1 : 1 ≤ d) (x : TS.TupsOk s.heap d B vs)
    (h : ∀ h' q (out : Array Value) c, (∀ b u, s.heap.get? b = some u → h'.get? b = some u) → h'.get? q = some (seqObj "list" out c) → s.heap.objs.size ≤ q → out.toList.Perm vs → out.toList.Pairwise (fun u v => TS.code B (TS.intsOf s.heap u) ≤ TS.code B (TS.intsOf s.heap v)) → Q (.ref q) { s with heap := h' }) :
    wpAny (model P w) A (call (.builtin "sorted") [.ref p]) Q E s := by
  refine Calls.call_function_entry kind_sorted plain_sorted entry_sorted (args_sorted1 _) ?_
  unfold Builtin.«sorted»
  refine wpAny_bind (m := checkCount "sorted" 1 1 _) (wpAny_pure (wpAny_bind (gather hT ho hc hd (by rw [sizeLine_eq]; omega) fun h1 k1 z1 => wpAny_bind (wpAny_newList ?_ (by rw [sizeLine_eq]; omega)))))
  have at1 : (h1.push (seqObj "list" vs.toArray 0)).get? h1.objs.size = some (seqObj "list" vs.toArray 0) := Heap.get?_push_size _ rfl
  have k2 : ∀ b u, s.heap.get? b = some u → (h1.push (seqObj "list" vs.toArray 0)).get? b = some u := fun b u e => Heap.get?_push_of_some _ (k1 b u e)
  have x2 : TS.TupsOk (h1.push (seqObj "list" vs.toArray 0)) d B vs := x.keeps fun b u e _ => k2 b u e
  refine wpAny_bind (wpAny_holding (TS.call_sort_tups (s := { s with heap := h1.push (seqObj "list" vs.toArray 0) }) at1 h64 hd1 x2 fun out o1 o2 => ?_))
  obtain ⟨c, hcq⟩ := sortedHeap_at (vs := vs) (out := out) at1
  refine wpAny_pure ⟨_, rfl, h _ h1.objs.size out c (fun b u e => ?_) hcq z1 o1 ?_⟩
  · have lt := Heap.lt_size (k1 b u e)
    rw [sortedHeap_old (Nat.ne_of_lt lt) (by rw [size_push']; exact Nat.lt_succ_of_lt lt)]
    exact k2 b u e
  · refine List.Pairwise.imp_of_mem (fun {u v} mu mv le => ?_) o2
    have same : ∀ v ∈ out.toList, TS.intsOf (h1.push (seqObj "list" vs.toArray 0)) v = TS.intsOf s.heap v := fun v mv => by
      obtain ⟨ns, tn, _⟩ := x v (o1.mem_iff.mp mv)
      rw [tn.ints, (tn.keeps fun b u e _ => k2 b u e).ints]
    rw [← same u mu, ← same v mv]
    exact le
end
section
variable {X : Cx}
/-- set() that will hold tuples of ints -/
def rSet0T (P : Program) (w : World) : List V → Hp → VK → Prop := fun xs H Q => xs = [] ∧ ∀ p, H p = none → Q (.ref p) (upd H p (SetTO P w p []))
theorem cr_set0T : CallR X (.type "set") (rSet0T X.prog X.w) := by
  intro pins s σ H xs us Q I r h
  obtain ⟨rfl, q⟩ := h
  cases r
  refine setR_new fun _ => ?_
  exact ⟨.ref _, _, I.laid (t' := s.toks) (fun b u e => Heap.get?_push_of_some _ e) (Nat.le_refl _) (setTO_new (setTR_fresh (w := X.w) (P := X.prog) (Heap.get?_push_size _ rfl)).t0), rfl, q _ (I.hok.fresh (Nat.le_refl _))⟩
theorem setT_full {pins : List (Addr × Obj)} {σ : L2.St} {H : Hp} {s : Shared} (I : Inv X pins σ H s) {a : Addr} {L : List (Addr × List Int)} (ha : H a = some (SetTO X.prog X.w a L)) (hL : ∀ p ∈ L, SqT X.K H p.1 (p.2.map V.int)) : ∃ es ep t, SetTR X.prog X.w s.heap a L es ep t :=
  SetT0.full (I.hok a _ ha).1 fun p m => I.isT (hL p m)
/-- x in a, x a tuple of ints, a a set of such -/
def rInT (K : PySem.W.Frag) (P : Program) (w : World) : R2 := fun x y H Q => ∃ (b a : Addr) (k : List Int) (L : List (Addr × List Int)), x = V.ref b ∧ y = V.ref a ∧ SqT K H b (k.map V.int) ∧ H a = some (SetTO P w a L) ∧ (∀ p ∈ L, SqT K H p.1 (p.2.map V.int)) ∧ Q (.bl (decide (k ∈ L.map (·.2)))) H
theorem or_inT (hu : X.A.units + 64 < cLine) : OpR X (compareOp .In) (rInT X.K X.prog X.w) := by
  intro pins s σ H x y v u Q I rx ry h
  obtain ⟨b, a, k, L, rfl, rfl, hb, ha, hL, q⟩ := h
  cases rx
  cases ry
  obtain ⟨es, ep, t, R⟩ := setT_full I ha hL
  obtain ⟨ob, hob, hex, hd⟩ := R.ob
  have isSet : s.TypeIs (.ref a) "set" := ⟨ob, hob, hex.1⟩
  show wpAny (model X.prog X.w) X.A (do return Value.bool (← contains (.ref a) (.ref b))) _ _ s
  refine wpAny_bind ?_
  unfold contains
  try with_reducible refine wpAny_holding ?_
  refine wpAny_bind (wpAny_specialOf isSet F.slot_set_contains.lookup ?_)
  show wpAny _ _ (if (some (Value.builtin "set.__contains__") == some Value.none) = true then _ else _) _ _ s
  rw [if_neg (by rw [beq_builtin_none]; exact Bool.false_ne_true)]
  refine wpAny_bind (wpAny_callSpecialUnlessNone?_slot (name := Str.ofString "__contains__") isSet F.slot_set_contains (wpAny_call_entry F.slot_set_contains isSet entry_set_contains ?_ (F.args_set_contains_2 _ _)))
  unfold Builtin.«frozenset.__contains__» Builtin.Frozenset.oneOther
  simp only [List.isEmpty_nil, bind_assoc]
  unfold Builtin.Frozenset.addrOf Builtin.Frozenset.withSetAsKey setContains
  refine wpAny_bind (wpAny_pure (wpAny_bind (wpAny_pure (wpAny_bind (wpAny_tryCatch (wpAny_holding ?_))))))
  have small : X.A.in1.units < cLine := by show X.A.units + 1 < cLine; omega
  refine wpAny_bind (wpAny_pyHash_tuple small (I.isT hb) ?_)
  have R2 : SetTR X.prog X.w ({ s with toks := s.toks + (k.length + 1) } : Shared).heap a L es ep t := R
  have fin : ∀ r : Bool, r = decide (k ∈ L.map (·.2)) → EP X pins σ Q (Value.bool r) { s with toks := s.toks + (k.length + 1) } := fun r e => ⟨.bl r, H, I.tok _, rfl, by rw [e]; exact q⟩
  refine wpAny_bind (find_t R2 (I.isT hb) small (fun m i => wpAny_pure ?_) fun m => wpAny_pure ?_)
  · exact wpAny_pure ⟨_, rfl, wpAny_truthy_bool (wpAny_pure (fin true (decide_eq_true m).symm))⟩
  · exact wpAny_pure ⟨_, rfl, wpAny_truthy_bool (wpAny_pure (fin false (decide_eq_false m).symm))⟩
/-- a.add(x) -/
def rAddT (K : PySem.W.Frag) (P : Program) (w : World) : V → List V → Hp → VK → Prop := fun x xs H Q => ∃ (a b : Addr) (k : List Int) (L : List (Addr × List Int)), x = V.ref a ∧ xs = [V.ref b] ∧ SqT K H b (k.map V.int) ∧ H a = some (SetTO P w a L) ∧ (∀ p ∈ L, SqT K H p.1 (p.2.map V.int)) ∧ L.length + 1 < 64 ∧
  ∀ L', (k ∈ L.map (·.2) → L' = L) → (k ∉ L.map (·.2) → L'.Perm ((b, k) :: L)) → Q .non (upd H a (SetTO P w a L'))
theorem mt_addT (hu : X.A.units + 64 < cLine) : MtR X "set.add" (rAddT X.K X.prog X.w) := by
  intro pins s σ H x xs v us Q I rx rxs h
  obtain ⟨a, b, k, L, rfl, rfl, hb, ha, hL, few, q⟩ := h
  cases rx
  obtain rfl := Vals.ref1 rxs
  obtain ⟨es, ep, t, R⟩ := setT_full I ha hL
  obtain ⟨ob, hob, hex, hd⟩ := R.ob
  refine wpAny_call_entry F.slot_set_add ⟨ob, hob, hex.1⟩ F.entry_set_add ?_ (F.args_set_add_2 _ _)
  unfold Builtin.«set.add» Builtin.Frozenset.oneOther
  simp only [List.isEmpty_nil, bind_assoc]
  unfold Builtin.Frozenset.addrOf setAdd
  have small : X.A.in1.units < cLine := by show X.A.units + 1 < cLine; omega
  refine wpAny_bind (wpAny_pure (wpAny_bind (wpAny_pure (wpAny_bind (wpAny_holding (wpAny_bind (wpAny_pyHash_tuple small (I.isT hb) ?_)))))))
  refine add_at (s := { s with toks := s.toks + (k.length + 1) }) R (I.isT hb) small few fun r h' L' es' ep' t' sb R' e1 e2 => ?_
  have he : ∃ u, h'.get? a = some u := by
    obtain ⟨o, ho, _⟩ := R'.ob
    exact ⟨o, ho⟩
  exact wpAny_pure ⟨_, rfl, .non, _, I.write (e := a) (t' := s.toks + (k.length + 1)) (by rw [ha]; trivial) (.inl rfl) (fun b u hb hu => (sb.2 b hb).trans hu) he (setTO_new R'.t0), rfl, q L' e1 e2⟩
/-- sorted(xs), xs a list or a tuple of tuples of ints -/
def rSortQ (K : PySem.W.Frag) (d : Nat) (B : Int) : List V → Hp → VK → Prop := fun vs H Q => ∃ (a : Addr) (xs : List V), vs = [V.ref a] ∧ (SqL K H a xs ∨ SqT K H a xs) ∧ xs.length < 64 ∧ (∀ x ∈ xs, ∃ ns, TupI K H x ns ∧ ns.length = d ∧ TS.Bd B ns) ∧
  ∀ (ys : List V) (p : Addr), ys.Perm xs → ys.Pairwise (fun x y => ∀ n m, TupI K H x n → TupI K H y m → TS.code B n ≤ TS.code B m) → H p = none → Q (.ref p) (upd H p (.lst ys))
theorem cr_sortQ {d : Nat} {B : Int} (hd : 1 ≤ d) : CallR X (.builtin "sorted") (rSortQ X.K d B) := by
  intro pins s σ H vs us Q I r h
  obtain ⟨a, xs, rfl, hs, h64, hx, q⟩ := h
  obtain rfl := Vals.ref1 r
  have main : ∀ (its : List Value) (T : String) (o : Obj) (n : Nat), Vals xs its → xs.length ≤ sizeLine → (T = "list" ∨ T = "tuple") → s.heap.get? a = some o → o.cls = .type T → o.data = .seq its.toArray n → wpAny (model X.prog X.w) X.A (call (.builtin "sorted") [.ref a]) (EP X pins σ Q) X.xe s := by
    intro its T o n rv hz hT ho hc hdt
    obtain ⟨e1, e2⟩ := bkV_refs rv fun x m => by
      obtain ⟨ns, ⟨t, e, _⟩, _⟩ := hx x m
      exact ⟨t, e⟩
    refine sorted_seq (d := d) (B := B) hT ho hc hdt (by rw [← rv.length]; exact h64) hd (fun v hv => ?_) fun h' p out c keep at_ big o1 o2 => ?_
    · obtain ⟨t, rfl⟩ := e2 v hv
      obtain ⟨ns, ⟨t', e, ht⟩, hn, hb⟩ := hx (V.ref t) (by rw [e1]; exact List.mem_map.mpr ⟨_, hv, rfl⟩)
      cases e
      exact ⟨ns, tupI_raw I ht, hn, hb⟩
    · have o3 : ∀ u ∈ out.toList, ∃ a, u = Value.ref a := fun u hu => e2 u (o1.mem_iff.mp hu)
      have perm : (out.toList.map bkV).Perm xs := by rw [e1]; exact o1.map bkV
      have fresh : H p = none := I.hok.fresh big
      refine ⟨.ref p, upd H p (.lst (out.toList.map bkV)), I.laid (t' := s.toks) keep big ⟨by rw [perm.length_eq]; exact hz, out.toList, c, bkV_vals o3, at_⟩, rfl, q _ _ perm ?_ fresh⟩
      rw [List.pairwise_map]
      refine List.Pairwise.imp (fun {u v} le n m hn hm => ?_) o2
      obtain ⟨t1, q1, w1⟩ := hn
      obtain ⟨t2, q2, w2⟩ := hm
      rw [bkV_ref q1, bkV_ref q2, (tupI_raw I w1).ints, (tupI_raw I w2).ints] at le
      exact le
  rcases hs with hs | hs
  · obtain ⟨its, rv, pl, hz⟩ := I.list hs
    obtain ⟨o, ho, hc, n, hdt⟩ := pl.isList
    exact main its "list" o n rv hz (.inl rfl) ho hc hdt
  · obtain ⟨its, rv, pl, hz⟩ := I.tuple hs
    obtain ⟨o, ho, hc, n, hdt⟩ := pl
    exact main its "tuple" o n rv hz (.inr rfl) ho hc hdt
def tAddT (K : PySem.W.Frag) (P : Program) (w : World) (to : TE) (t : TA) : TE := fun σ H Q => to σ H fun x H1 => (∃ a L, x = V.ref a ∧ H1 a = some (SetTO P w a L)) ∧ t σ H1 fun xs H2 => rAddT K P w x xs H2 Q
theorem pe_addT {o e : Expr} {es : List Expr} {to : TE} {t : TA} {apos cpos : Pos} (hu : X.A.units + 64 < cLine) (ho : PE X o to) (ha : PA X (e :: es) t) (base : attributeBase o "add" X.env (eval o X.env) = eval o X.env := by rfl)
    (few : ((backTo cpos (starEach (e :: es) X.env)).all (fun x => !x.1) && (backToKw cpos (keywordEach [] X.env)).all (fun x => x.1.isSome) && decide ((e :: es).length + ([] : List Keyword).length + (if ([] : List Keyword).isEmpty then 0 else 1) < 30)) = true := by rfl)
    (line : (apos.endLine == cpos.line) = true := by rfl) (star : starEach (e :: es) X.env = (false, eval e X.env) :: starEach es X.env := by rfl) (plain : (backTo cpos (starEach es X.env)).any (·.1) = false := by rfl) :
    PE X (.Call (.Attribute o "add" apos) (e :: es) [] cpos) (tAddT X.K X.prog X.w to t) := by
  refine ⟨fun pins s σ H Q I h => wpAny_Call_method_late base few line rfl (thn (ho.run pins s σ H _ I h) fun v s1 ⟨x, H1, I1, r1, ⟨a, L, ex, hL⟩, q1⟩ => ?_)⟩
  subst ex
  cases r1
  have S0 : SetT0 X.prog X.w s1.heap a L := (I1.hok a _ hL).1
  obtain ⟨_, _, _, ⟨ob, hob, hex, hd⟩, _⟩ := S0.ex
  refine ⟨"set", "set.add", F.plainAttrs_set, F.slot_set_add, F.type_set_add, ⟨ob, hob, hex.1⟩, (fun b e => by injection e with e; subst e; exact ⟨ob, hob, hex.2.1⟩), ?_⟩
  have args := ha.run cpos pins s1 σ H1 _ I1 q1
  rw [star] at args ⊢
  refine Calls.callWith_builtin (by show (false || (backTo cpos (starEach es X.env)).any (·.1)) = false; rw [plain]; rfl) (Calls.evalArgs_plain (thn args fun us s2 ⟨vs, H2, I2, r2, q2⟩ => ?_))
  exact mt_addT hu pins s2 σ H2 (.ref a) vs (.ref a) us Q I2 rfl r2 q2
end
end LR

set_option Elab.async false
set_option maxRecDepth 100000
set_option linter.all false
set_option maxHeartbeats 4000000
/-! webs: edges as rows of three ints -/
namespace LR
open PySem PySem.Spec PyProof.Rows L2
theorem Room.u65 {k : Nat} {A : Around} (r : Room k A) : A.units + 65 < cLine := by have := r.un; omega
theorem b_sorted : bootBuiltins "sorted" = some (.builtin "sorted") := by decide +kernel
theorem b_set : bootBuiltins "set" = some (.type "set") := by decide +kernel
/-- an edge in range -/
def EdgeOk (h n : Int) (e : List Int) : Prop := ∃ s r t, e = [s, r, t] ∧ (0 ≤ s ∧ s < n) ∧ (0 ≤ r ∧ r ≤ 2 * h) ∧ (0 ≤ t ∧ t < n)
/-- the order of edges -/
def elt (e f : List Int) : Prop := ∃ s r t s' r' t', e = [s, r, t] ∧ f = [s', r', t'] ∧ (s < s' ∨ (s = s' ∧ (r < r' ∨ (r = r' ∧ t < t'))))
theorem code3 (s r t : Int) : TS.code 64 [s, r, t] = s * 4096 + (r * 64 + t) := by
  show s * 64 ^ 2 + (r * 64 ^ 1 + (t * 64 ^ 0 + 0)) = _
  rw [show (64 : Int) ^ 2 = 4096 by decide, show (64 : Int) ^ 1 = 64 by decide, show (64 : Int) ^ 0 = 1 by decide]
  omega
theorem elt_code {h n : Int} {e f : List Int} (hh : h ≤ 3) (hn : n ≤ 9) (a : EdgeOk h n e) (b : EdgeOk h n f) (le : TS.code 64 e ≤ TS.code 64 f) (ne : e ≠ f) : elt e f := by
  obtain ⟨s, r, t, rfl, hs, hr, ht⟩ := a
  obtain ⟨s', r', t', rfl, hs', hr', ht'⟩ := b
  rw [code3, code3] at le
  refine ⟨s, r, t, s', r', t', rfl, rfl, ?_⟩
  by_cases c1 : s < s'
  · exact .inl c1
  have c2 : s = s' := by omega
  refine .inr ⟨c2, ?_⟩
  by_cases c3 : r < r'
  · exact .inl c3
  have c4 : r = r' := by omega
  refine .inr ⟨c4, ?_⟩
  by_cases c5 : t < t'
  · exact c5
  have c6 : t = t' := by omega
  subst c2 c4 c6
  exact absurd rfl ne
theorem edge_bd {h n : Int} {e : List Int} (hh : h ≤ 3) (hn : n ≤ 9) (a : EdgeOk h n e) : e.length = 3 ∧ TS.Bd 64 e := by
  obtain ⟨s, r, t, rfl, hs, hr, ht⟩ := a
  refine ⟨rfl, fun m hm => ?_⟩
  rcases List.mem_cons.mp hm with q | hm
  · subst q; omega
  rcases List.mem_cons.mp hm with q | hm
  · subst q; omega
  rcases List.mem_cons.mp hm with q | hm
  · subst q; omega
  cases hm
/-- at these addresses lie these tuples -/
def RowsH (H : Hp) (ts : List Addr) (es : List (List Int)) : Prop := ts.length = es.length ∧ ∀ (k : Nat) (t : Addr) (e : List Int), ts[k]? = some t → es[k]? = some e → H t = some (.tup (e.map V.int))
theorem RowsH.same {H H' ts es} (s : Same H H') (h : RowsH H ts es) : RowsH H' ts es := ⟨h.1, fun k t e a b => s _ _ (h.2 k t e a b)⟩
theorem RowsH.keep {H H' ts es q} (s : Keep q H H') (hq : ∃ l, H q = some (.lst l)) (h : RowsH H ts es) : RowsH H' ts es := by
  obtain ⟨l, hq⟩ := hq
  exact ⟨h.1, fun k t e a b => s _ (ne_of (h.2 k t e a b) hq (by intro z; cases z)) _ (h.2 k t e a b)⟩
theorem RowsH.nil {H : Hp} : RowsH H [] [] := ⟨rfl, fun k t e a _ => by simp at a⟩
theorem RowsH.snoc {H ts es t e} (h : RowsH H ts es) (ht : H t = some (.tup (e.map V.int))) : RowsH H (ts ++ [t]) (es ++ [e]) := by
  refine ⟨by rw [List.length_append, List.length_append, h.1]; rfl, fun k t' e' a b => ?_⟩
  by_cases c : k < ts.length
  · rw [List.getElem?_append_left c] at a
    rw [List.getElem?_append_left (by have := h.1; omega)] at b
    exact h.2 k t' e' a b
  · rw [List.getElem?_append_right (by omega)] at a
    rw [List.getElem?_append_right (by have := h.1; omega), ← h.1] at b
    have : k = ts.length := by
      have := (List.getElem?_eq_some_iff.mp a).1
      simp at this; omega
    subst this
    rw [Nat.sub_self] at a b
    cases a; cases b
    exact ht
theorem RowsH.get {H ts es} (h : RowsH H ts es) {k : Nat} {e : List Int} (a : es[k]? = some e) : ∃ t, ts[k]? = some t ∧ H t = some (.tup (e.map V.int)) := by
  have hk : k < ts.length := by rw [h.1]; exact (List.getElem?_eq_some_iff.mp a).1
  exact ⟨_, List.getElem?_eq_getElem hk, h.2 k _ e (List.getElem?_eq_getElem hk) a⟩
theorem RowsH.getT {H ts es} (h : RowsH H ts es) {k : Nat} {t : Addr} (a : ts[k]? = some t) : ∃ e, es[k]? = some e ∧ H t = some (.tup (e.map V.int)) := by
  have hk : k < es.length := by rw [← h.1]; exact (List.getElem?_eq_some_iff.mp a).1
  exact ⟨_, List.getElem?_eq_getElem hk, h.2 k t _ a (List.getElem?_eq_getElem hk)⟩
theorem RowsH.ats {H ts es} (h : RowsH H ts es) (hz : ∀ e ∈ es, e.length ≤ 100000) : Ats H (ts.map V.ref) (es.map tupD) := ats_of h.1 hz h.2
def unI : V → Int
  | .int i => i
  | _ => 0
def unR : V → Addr
  | .ref a => a
  | _ => 0
def rowH (H : Hp) (t : Addr) : List Int := match H t with
  | some (.tup xs) => xs.map unI
  | _ => []
theorem rowH_of {H : Hp} {t : Addr} {e : List Int} (h : H t = some (.tup (e.map V.int))) : rowH H t = e := by
  unfold rowH
  rw [h]
  show (e.map V.int).map unI = e
  rw [List.map_map]
  exact List.map_id' e
theorem RowsH.rows {H ts es} (h : RowsH H ts es) : es = ts.map (rowH H) := by
  apply List.ext_getElem?
  intro k
  rw [List.getElem?_map]
  cases a : ts[k]? with
  | none =>
    have : ts.length ≤ k := List.getElem?_eq_none_iff.mp a
    rw [h.1] at this
    rw [List.getElem?_eq_none_iff.mpr this]; rfl
  | some t =>
    obtain ⟨e, b, c⟩ := h.getT a
    rw [b]
    show some e = some (rowH H t)
    rw [rowH_of c]
theorem RowsH.of {H ts es} (h : RowsH H ts es) {us : List Addr} (hu : ∀ u ∈ us, u ∈ ts) : RowsH H us (us.map (rowH H)) := by
  refine ⟨by rw [List.length_map], fun k t e a b => ?_⟩
  rw [List.getElem?_map, a] at b
  cases b
  have hm := hu t (List.mem_of_getElem? a)
  obtain ⟨j, hj⟩ := List.mem_iff_getElem?.mp hm
  obtain ⟨e, _, c⟩ := h.getT hj
  rw [rowH_of c]; exact c
/-- what sorted leaves: the same addresses in another order -/
theorem RowsH.perm {H ts es} (h : RowsH H ts es) {ys : List V} (p : ys.Perm (ts.map V.ref)) : ∃ us, ys = us.map V.ref ∧ us.Perm ts ∧ RowsH H us (us.map (rowH H)) ∧ (us.map (rowH H)).Perm es := by
  have e1 : (ts.map V.ref).map unR = ts := by rw [List.map_map]; exact List.map_id' ts
  have p1 : (ys.map unR).Perm ts := by have := p.map unR; rwa [e1] at this
  have e2 : ys = (ys.map unR).map V.ref := by
    rw [List.map_map]
    refine (List.map_congr_left (fun y hy => ?_)).trans (List.map_id' ys) |>.symm
    obtain ⟨t, _, rfl⟩ := List.mem_map.mp (p.mem_iff.mp hy)
    rfl
  refine ⟨ys.map unR, e2, p1, h.of fun u hu => p1.mem_iff.mp hu, ?_⟩
  have := p1.map (rowH H)
  rwa [← h.rows] at this
/-- a web of height h, n nodes and these edges stands at x; ss: its edges in order -/
def WebAt (C : Addr) (H : Hp) (x : Addr) (h n : Int) (ss : List (List Int)) : Prop := ∃ dx te us, H x = some (.ins C dx [("height", .int h), ("size", .int n), ("edges", .ref te)]) ∧ H te = some (.tup (us.map V.ref)) ∧ RowsH H us ss
theorem WebAt.same {C H H' x h n ss} (s : Same H H') (a : WebAt C H x h n ss) : WebAt C H' x h n ss := by
  obtain ⟨dx, te, us, h1, h2, h3⟩ := a
  exact ⟨dx, te, us, s _ _ h1, s _ _ h2, h3.same s⟩
theorem WebAt.keep {C H H' x h n ss q} (s : Keep q H H') (hq : ∃ l, H q = some (.lst l)) (a : WebAt C H x h n ss) : WebAt C H' x h n ss := by
  obtain ⟨dx, te, us, h1, h2, h3⟩ := a
  obtain ⟨l, hl⟩ := id hq
  exact ⟨dx, te, us, s _ (ne_of h1 hl (by intro z; cases z)) _ h1, s _ (ne_of h2 hl (by intro z; cases z)) _ h2, h3.keep s hq⟩
/-- edges e of the web in the drawn order, ss in ascending order -/
def Ordered (h n : Int) (es ss : List (List Int)) : Prop := (∀ e ∈ es, EdgeOk h n e) ∧ es.Nodup ∧ ss.Perm es ∧ ss.Pairwise elt
theorem dp_rows {K : PySem.W.Frag} {H : Hp} : ∀ {ts : List Addr} {es : List (List Int)}, ts.length = es.length → (∀ (k : Nat) (t : Addr) (e : List Int), ts[k]? = some t → es[k]? = some e → H t = some (.tup (e.map V.int))) → DpAll K H (ts.map V.ref) (es.map fun e => PyData.tuple (e.map PyData.int))
  | [], [], _, _ => .nil
  | t :: ts, e :: es, hl, h => .cons (.tup (SqT.of (h 0 t e rfl rfl)) (dp_intsW e)) (dp_rows (by simpa using hl) fun k t' e' a b => h (k + 1) t' e' (by simpa using a) (by simpa using b))
  | [], _ :: _, hl, _ => by simp at hl
  | _ :: _, [], hl, _ => by simp at hl
where
  dp_intsW {K : PySem.W.Frag} {H : Hp} : ∀ l : List Int, DpAll K H (l.map V.int) (l.map PyData.int)
    | [] => .nil
    | i :: r => .cons (.int i) (dp_intsW r)
def edgeP (e : List Int) : PyData := .tuple (e.map PyData.int)
theorem eqv_intsW : ∀ l m : List Int, PyData.eqvAll (l.map PyData.int) (m.map PyData.int) = decide (l = m)
  | [], [] => by simp [PyData.eqvAll]
  | i :: r, [] => by simp [PyData.eqvAll]
  | [], i :: r => by simp [PyData.eqvAll]
  | i :: r, j :: t => by
    rw [List.map_cons, List.map_cons, PyData.eqvAll, eqv_intsW r t]
    by_cases c : i = j <;> simp [PyData.eqv, c]
theorem eqv_edge (e f : List Int) : PyData.eqv (edgeP e) (edgeP f) = decide (e = f) := by
  unfold edgeP
  rw [PyData.eqv, eqv_intsW]
theorem lay_ints : ∀ l : List Int, PyData.canLayAll0 (l.map PyData.int) = true
  | [] => rfl
  | i :: r => by rw [List.map_cons]; simp [PyData.canLayAll0, PyData.canLay0, lay_ints r]
theorem lay_edges : ∀ es : List (List Int), PyData.canLayAll0 (es.map edgeP) = true
  | [] => rfl
  | e :: r => by rw [List.map_cons]; simp [PyData.canLayAll0, PyData.canLay0, edgeP, lay_edges r, lay_ints]
theorem depth_edges : ∀ es : List (List Int), PyData.depthAll (es.map edgeP) ≤ 1
  | [] => Nat.zero_le _
  | e :: r => by
    have := depth_edges r
    rw [List.map_cons]
    simp [PyData.depthAll, PyData.depth, edgeP, depth_ints]
    omega
theorem shaped_edge (e : List Int) : SeqAt.shaped (edgeP e) = true := by
  unfold SeqAt.shaped edgeP
  rw [Bool.and_eq_true]
  exact ⟨by simp [PyData.canLay0, lay_ints], decide_eq_true (by simp [PyData.depth, depth_ints])⟩
theorem shaped_edges (es : List (List Int)) : SeqAt.shaped (.list (es.map edgeP)) = true := by
  unfold SeqAt.shaped
  rw [Bool.and_eq_true]
  refine ⟨by simp [PyData.canLay0, lay_edges], decide_eq_true ?_⟩
  have := depth_edges es
  simp [PyData.depth]; omega
theorem any_edge (es : List (List Int)) (e : List Int) : ((es.map edgeP).any fun z => PyData.eqv z (edgeP e)) = decide (e ∈ es) := by
  rw [List.any_map, Bool.eq_iff_iff, List.any_eq_true, decide_eq_true_eq]
  constructor
  · rintro ⟨f, hf, he⟩
    have : PyData.eqv (edgeP f) (edgeP e) = true := he
    rw [eqv_edge, decide_eq_true_eq] at this
    subst this; exact hf
  · intro he
    exact ⟨e, he, by show PyData.eqv (edgeP e) (edgeP e) = true; rw [eqv_edge]; simp⟩
theorem RowsH.dp {K : PySem.W.Frag} {H ts es} (h : RowsH H ts es) {a : Addr} (ha : H a = some (.lst (ts.map V.ref))) : Dp K H (.ref a) (.list (es.map edgeP)) := .lst (SqL.of ha) (dp_rows h.1 h.2)
theorem dp_edge {K : PySem.W.Frag} {H : Hp} {t : Addr} {e : List Int} (h : H t = some (.tup (e.map V.int))) : Dp K H (.ref t) (edgeP e) := .tup (SqT.of h) (dp_rows.dp_intsW e)
theorem eqv_edges : ∀ es : List (List Int), PyData.eqvAll (es.map edgeP) (es.map edgeP) = true
  | [] => by simp [PyData.eqvAll]
  | e :: r => by
    rw [List.map_cons, PyData.eqvAll, eqv_edges r, eqv_edge]; simp
theorem nodup_take {α : Type} {es : List α} (nd : es.Nodup) {i : Nat} {e : α} (h : es[i]? = some e) : e ∉ es.take i := by
  intro hm
  have := get_split h
  rw [this] at nd
  exact (List.nodup_append.mp nd).2.2 e hm e List.mem_cons_self rfl
theorem take_mem {α : Type} {es : List α} {i : Nat} {e k : α} (h : es[i]? = some e) : k ∈ es.take (i + 1) ↔ k = e ∨ k ∈ es.take i := by
  rw [List.take_succ, h]
  show k ∈ es.take i ++ [e] ↔ _
  rw [List.mem_append, List.mem_singleton]
  exact Or.comm
end LR

set_option Elab.async false
set_option maxRecDepth 100000
set_option linter.all false
set_option maxHeartbeats 4000000
/-! super().m(..) where a def of the program is meant -/
namespace LR
open PySem PySem.Spec PyProof.Rows L2
/-- the def that super().m means in the class at D, for an instance of the class at C -/
structure SupTo (P : Program) (w : World) (K : PySem.W.Frag) (mg : Str → Option Value) (base : Heap) (CX : CXT) (k : Nat) (C D : Addr) (m : Str) (sp : Sp) : Prop where
  ex : ∃ (f : Addr) (fd : FuncData) (ps : List Str), PySem.W.ks_superIn K C D m = some (some (.ref f)) ∧ PySem.W.typeIn K (.ref f) = some (.type "function") ∧ PySem.W.fnIn K f = true ∧ FnOk P w K mg base CX k f fd ps sp ∧ Binds K fd ps []
  sub : PySem.W.mroIn K C (.ref D) = some true
  at_ : (m == ("__class__" : Str)) = false
structure SupAt (K : PySem.W.Frag) (C D : Addr) (m qual name : Str) (st : Stmt) (ps : List Str) : Prop where
  ex : ∃ (f : Addr) (fd : FuncData), PySem.W.ks_superIn K C D m = some (some (.ref f)) ∧ PySem.W.typeIn K (.ref f) = some (.type "function") ∧ PySem.W.fnIn K f = true ∧ Fun K name qual st f fd ∧ Binds K fd ps []
  sub : PySem.W.mroIn K C (.ref D) = some true
  at_ : (m == ("__class__" : Str)) = false
def tSupM (C : Addr) (i : Nat) (sp : Sp) (E : XK) (ta : TA) : TE := fun σ H Q => ∃ (x dx : Addr) (fs : List (Str × V)), σ[i]? = some (some (.ref x)) ∧ H x = some (.ins C dx fs) ∧ ta σ H fun vs H1 => sp (.ref x :: vs) H1 Q E
section
variable {X : Cx} {body : List Stmt} {f cc cda D C : Addr} {fd : FuncData} {me m : Str} {p0 p1 pos apos : Pos} {i k j : Nat} {e : Expr} {es : List Expr} {ta : TA} {pl : Sem Bool} {sp : Sp} {CX : CXT} {E : XK}
theorem ne_supM (S : SupIn X.prog X.K X.mg f cc cda D fd me) (T : SupTo X.prog X.w X.K X.mg X.base CX k C D m sp) (hr : Room j X.A) (hk : k ≤ j) (hx : Passes CX X E) (ha : PA X (e :: es) ta)
    (hi : X.N[i]? = some me := by rfl) (hka : X.env.kindOf me = some .local := by rfl)
    (hks : X.env.kindOf "super" = some .globalImplicit := by rfl) (hkc : X.env.kindOf "__class__" = some .free := by rfl) (hfu : X.env.func = some f := by rfl) (hco : X.env.code = .ref cda := by rfl) (hcl : X.env.cells.lookup ("__class__" : Str) = some cc := by rfl)
    (hst : starEach (e :: es) X.env = (false, eval e X.env) :: starEach es X.env := by rfl) (hpl : (backTo pos (starEach es X.env)).any (·.1) = false := by rfl)
    (ht : eval (.Call (.Attribute (.Call (.Name "super" p0) [] [] p1) m apos) (e :: es) [] pos) X.env = (do
      let ov ← attributeBase (.Call (.Name "super" p0) [] [] p1) m X.env (eval (.Call (.Name "super" p0) [] [] p1) X.env)
      standAt apos.atName
      let (f, first) ← holding [ov] (getMethod ov m pl)
      callWith pos f first (backTo pos (starEach (e :: es) X.env)) []) := by rfl) :
    NE X body (.Call (.Attribute (.Call (.Name "super" p0) [] [] p1) m apos) (e :: es) [] pos) (tSupM C i sp E ta) := by
  refine ⟨fun pins s σ H Q I h => ?_⟩
  obtain ⟨x, dx, fs, hσ, hxI, q⟩ := h
  obtain ⟨g, fd2, ps2, sIn, sTy, sFn, F, sB⟩ := T.ex
  obtain ⟨mA, J0, _⟩ := ins_get I.hok hxI
  obtain ⟨od, J0, _⟩ := J0.look
  refine PySem.ks_wpAt_MethodCall (pl := pl) (super_base S I J0.at_ J0.cls (fun c z => ?_) T.sub hi hσ hka hks hkc hfu hco hcl T.at_ (fun so h' hso J k2 => ?_)) ht
  · have := J0.no
    unfold PySem.W.notCls at this
    rw [z] at this
    cases this
  have KX := J.kIn
  obtain ⟨mB, J1, _⟩ := ins_get J.hok hxI
  obtain ⟨od2, IA, _⟩ := J1.look
  cases hc : PySem.W.clsIn X.K C with
  | none => unfold PySem.W.ks_superIn at sIn; rw [hc] at sIn; cases sIn
  | some cd =>
    unfold PySem.W.ks_superIn at sIn
    rw [hc] at sIn
    obtain ⟨ofn, hofn, hcfn⟩ : ∃ ofn, h'.get? g = some ofn ∧ ofn.cls = .type "function" := by
      have t1 : (X.K.lookup g).map (·.cls) = some (.type "function") := sTy
      cases z : X.K.lookup g with
      | none => rw [z] at t1; cases t1
      | some ofn => rw [z] at t1; exact ⟨ofn, KX _ _ z, Option.some.inj t1⟩
    obtain ⟨hh, gg, d, t, os⟩ := s
    refine PySem.ks_wpAny_getMethod_super hso (PySem.W.looks_opaque KX S.any) (l₀ := cd.mro) (fun A Q E s k q => wpAny_bind ((PySem.W.looks_clsIn KX hc) A _ E s k (wpAny_pure q))) rfl KX sIn hofn hcfn (PySem.W.ks_ne KX IA hc) T.at_ ?_
    have J2 := pin_newA (t' := t + 1) J (fun b u z => Heap.get?_push_of_some (PySem.W.methodObj (.ref g) (.ref x)) z) (Nat.le_refl _) (Heap.get?_push_at rfl rfl) (fun v z => by cases z)
    have hq := ClX.pin_at J2
    have hL : h'.objs.size ≠ X.env.locals := (J2.pin (h'.objs.size, PySem.W.methodObj (.ref g) (.ref x)) (List.mem_append_right _ List.mem_cons_self)).2.2.1
    refine PySem.W.callWith_M (K := X.K) (h₀ := X.base) (first := []) I.ok.mod.kin (news_at hL (ClX.base_none J (Nat.le_refl _)) hq) List.mem_cons_self sFn (thn (ha.run pos _ _ σ H _ J2 q) fun us s3 ⟨vs, H1, I3, rv, q1⟩ => ⟨⟨ClX.pin_at I3, I3.kIn⟩, ?_⟩) hst hpl
    have z : wpAny (model X.prog X.w) X.A (call (.ref h'.objs.size) us) (EP X ((h'.objs.size, PySem.W.methodObj (.ref g) (.ref x)) :: (so, PySem.W.ks_superObj D x C) :: pins) σ Q) X.xe s3 :=
      wpAny_call (PySem.W.method_call (ClX.pin_at I3) (codeAny_mono (F.run X.A X.stack s3 H1 ⟨.ref x :: us, []⟩ (.ref x :: us) (.ref x :: vs) Q E (hr.mono hk) I3.env0 ?_ (.cons rfl rv) q1) fun r s' hq' => ?_))
    · refine thn z fun v s4 hh => ?_
      obtain ⟨y, H4, I4, ry, q4⟩ := hh
      exact ⟨y, H4, ClX.unpin (ClX.unpin I4), ry, q4⟩
    · have hl := F.len _ _ _ _ q1
      have rl : (Value.ref x :: us).length = ps2.length := by rw [← hl, List.length_cons, List.length_cons, rv.length]
      have b := sB s3 (.ref x :: us) I3.kIn (by rw [List.append_nil]; exact rl)
      rw [List.append_nil] at b
      exact b
    · cases r with
      | error e => exact hx _ σ _ _ e s' I3 hq'
      | ok fl =>
        cases fl with
        | ret u => exact I3.after hq'
        | next => exact hq'.elim
        | brk => exact hq'.elim
        | cont => exact hq'.elim
end
structure MakInC (P : Program) (K : PySem.W.Frag) (mg : Str → Option Value) (x : Str) (C : Addr) (qual : Str) (st : Stmt) (ps : List Str) : Prop where
  ini : ∃ (f cc cda : Addr) (fd : FuncData), SupIn P K mg f cc cda C fd "self" ∧ Mk K C f ∧ mg x = some (.ref C) ∧ Binds K fd ps [] ∧
    ∃ (oc : Value) (od an : Option Addr) (kV doc pm ct : Value) (osl : Array (Option Value)), fd = PySem.W.ksFn "__init__" qual (defArgs st) (defBody st) (defScope st) .none kV doc pm an (.ref cda) ct cc ∧ K.lookup f = some ⟨oc, od, .func fd, osl⟩ ∧ PySem.W.codeIn K (.ref cda) qual = true
structure MetInC (P : Program) (K : PySem.W.Frag) (mg : Str → Option Value) (C : Addr) (m qual : Str) (st : Stmt) (ps : List Str) : Prop where
  ini : ∃ (f cc cda : Addr) (fd : FuncData), SupIn P K mg f cc cda C fd "self" ∧ Meth K C m f ∧ Binds K fd ps [] ∧
    ∃ (oc : Value) (od an : Option Addr) (kV doc pm ct : Value) (osl : Array (Option Value)), fd = PySem.W.ksFn m qual (defArgs st) (defBody st) (defScope st) .none kV doc pm an (.ref cda) ct cc ∧ K.lookup f = some ⟨oc, od, .func fd, osl⟩ ∧ PySem.W.codeIn K (.ref cda) qual = true
section
variable {P : Program} {w : World} {K : PySem.W.Frag} {mg : Str → Option Value} {base : Heap}
theorem MakInC.mak {x qual : Str} {C : Addr} {st : Stmt} {N ps : List Str} {k : Nat} {sp : Sp} (D : MakInC P K mg x C qual st ps) (S : CScope N ps (defScope st)) (len : ∀ vs H Q E, sp vs H Q E → vs.length = ps.length)
    (hbody : ∀ (f cc cda : Addr) (fd : FuncData) (A : Around) (outer : List Env) (s : Shared) (H : Hp) (vs : List V) (Q : VK) (E : XK), SupIn P K mg f cc cda C fd "self" → Room k (A.deeper (PySem.W.ksEnv qual (defScope st) s.heap.objs.size f (.ref cda) cc)) → sp vs H Q E →
      ∃ t, NSs (cxC CX0 P w K mg base N qual (defScope st) f (.ref cda) cc A outer s H E) (defBody st) (defBody st) t ∧ t { nx := fun _ H' => Q .non H', rt := Q } (L2.start N vs) H) : Mak P w K mg base (k + 1) x C sp := by
  obtain ⟨f, cc, cda, fd, S1, M, hm, b, oc, od, an, kV, doc, pm, ct, osl, rfl, lk, hcd⟩ := D.ini
  obtain ⟨cl, cld, csl, hcell⟩ := S1.cell
  exact ⟨f, _, ps, M, fn_ofC lk hcell hcd S len (fun A outer s H vs Q E hr h => hbody f cc cda _ A outer s H vs Q E S1 hr h), hm, b⟩
theorem MetInC.met {m qual : Str} {C : Addr} {st : Stmt} {N ps : List Str} {k : Nat} {sp : Sp} (c : Cls K C) (D : MetInC P K mg C m qual st ps) (S : CScope N ps (defScope st)) (len : ∀ vs H Q E, sp vs H Q E → vs.length = ps.length)
    (hbody : ∀ (f cc cda : Addr) (fd : FuncData) (A : Around) (outer : List Env) (s : Shared) (H : Hp) (vs : List V) (Q : VK) (E : XK), SupIn P K mg f cc cda C fd "self" → Room k (A.deeper (PySem.W.ksEnv qual (defScope st) s.heap.objs.size f (.ref cda) cc)) → sp vs H Q E →
      ∃ t, NSs (cxC CX0 P w K mg base N qual (defScope st) f (.ref cda) cc A outer s H E) (defBody st) (defBody st) t ∧ t { nx := fun _ H' => Q .non H', rt := Q } (L2.start N vs) H) : Met P w K mg base (k + 1) C m sp := by
  obtain ⟨f, cc, cda, fd, S1, M, b, oc, od, an, kV, doc, pm, ct, osl, rfl, lk, hcd⟩ := D.ini
  obtain ⟨cl, cld, csl, hcell⟩ := S1.cell
  exact ⟨f, _, ps, c, M, fn_ofC lk hcell hcd S len (fun A outer s H vs Q E hr h => hbody f cc cda _ A outer s H vs Q E S1 hr h), b⟩
theorem SupAt.to {m qual name : Str} {C D : Addr} {st : Stmt} {N ps : List Str} {k : Nat} {sp : Sp} (T : SupAt K C D m qual name st ps) (S : FnScope N ps (defScope st)) (len : ∀ vs H Q E, sp vs H Q E → vs.length = ps.length)
    (hbody : ∀ (f : Addr) (cdv : Value) (A : Around) (outer : List Env) (s : Shared) (H : Hp) (vs : List V) (Q : VK) (E : XK), Room k (A.deeper (envOfC qual (defScope st) s.heap.objs.size f cdv)) → sp vs H Q E →
      ∃ t, PSs (cxOf CX0 P w K mg base N qual (defScope st) f cdv A outer s H E).nox (defBody st) t ∧ t { nx := fun _ H' => Q .non H', rt := Q } (L2.start N vs) H) : SupTo P w K mg base CX0 (k + 1) C D m sp := by
  obtain ⟨f, fd, s1, s2, s3, F, b⟩ := T.ex
  exact ⟨⟨f, fd, ps, s1, s2, s3, F.ok S len (hbody f), b⟩, T.sub, T.at_⟩
end
end LR

set_option Elab.async false
set_option maxRecDepth 100000
set_option linter.all false
set_option maxHeartbeats 4000000
/-! games: a web with owners; true stands for A -/
namespace LR
open PySem PySem.Spec PyProof.Rows L2
theorem op_notInK {X : Cx} {K : PySem.W.Frag} (hk : X.K = K) : OpR X (compareOp .NotIn) (rIn K true) := hk ▸ op_notIn_seq
theorem op_inK {X : Cx} {K : PySem.W.Frag} (hk : X.K = K) : OpR X (compareOp .In) (rIn K false) := hk ▸ op_in_seq
theorem b_any : bootBuiltins "any" = some (.builtin "any") := by decide +kernel
theorem b_all : bootBuiltins "all" = some (.builtin "all") := by decide +kernel
def ltr (b : Bool) : Nat := if b then 65 else 66
def strO (os : List Bool) : Str := ⟨(os.map ltr).toArray⟩
theorem strO_len (os : List Bool) : (strO os).length = os.length := by
  show (strO os).cps.size = _
  unfold strO
  simp
theorem strO_get {os : List Bool} {i : Nat} {b : Bool} (h : os[i]? = some b) : (strO os).cps[i]? = some (ltr b) := by
  unfold strO
  simp [h]
theorem strO_getN {os : List Bool} {i : Nat} {c : Nat} (h : (strO os).cps[i]? = some c) : ∃ b, os[i]? = some b ∧ c = ltr b := by
  have h : (os.map ltr)[i]? = some c := by
    have h1 : (os.map ltr).toArray[i]? = some c := h
    rwa [List.getElem?_toArray] at h1
  rw [List.getElem?_map] at h
  obtain ⟨b, h1, h2⟩ := Option.map_eq_some_iff.mp h
  exact ⟨b, h1, h2.symm⟩
theorem strO_snoc (os : List Bool) (b : Bool) : strO os ++ (⟨#[ltr b]⟩ : Str) = strO (os ++ [b]) := by
  show (⟨(strO os).cps ++ #[ltr b]⟩ : Str) = _
  unfold strO
  simp
def GameAt (C : Addr) (H : Hp) (x : Addr) (h : Int) (os : List Bool) (ss : List (List Int)) : Prop := ∃ dx te us, H x = some (.ins C dx [("height", .int h), ("size", .int os.length), ("edges", .ref te), ("owners", .str (strO os))]) ∧ H te = some (.tup (us.map V.ref)) ∧ RowsH H us ss
theorem GameAt.same {C H H' x h n ss} (s : Same H H') (a : GameAt C H x h n ss) : GameAt C H' x h n ss := by
  obtain ⟨dx, te, us, h1, h2, h3⟩ := a
  exact ⟨dx, te, us, s _ _ h1, s _ _ h2, h3.same s⟩
theorem GameAt.keep {C H H' x h n ss q} (s : Keep q H H') (hq : ∃ l, H q = some (.lst l)) (a : GameAt C H x h n ss) : GameAt C H' x h n ss := by
  obtain ⟨dx, te, us, h1, h2, h3⟩ := a
  obtain ⟨l, hl⟩ := id hq
  exact ⟨dx, te, us, s _ (ne_of h1 hl (by intro z; cases z)) _ h1, s _ (ne_of h2 hl (by intro z; cases z)) _ h2, h3.keep s hq⟩
end LR

set_option Elab.async false
set_option maxRecDepth 100000
set_option linter.all false
set_option maxHeartbeats 4000000
/-! a walk by one plan until a node comes again; x in t for tuples of data -/
namespace LR
open PySem PySem.Spec PyProof.Rows L2
def rNotInT (K : PySem.W.Frag) : R2 := fun x y H Q => ∃ d ds, Dp K H x d ∧ Dp K H y (.tuple ds) ∧ SeqAt.shaped d = true ∧ SeqAt.shaped (.tuple ds) = true ∧ Q (.bl (!ds.any fun z => PyData.eqv z d)) H
theorem op_notInT {X : Cx} (hu : X.A.units + 65 < cLine) : OpR X (compareOp .NotIn) (rNotInT X.K) := by
  intro pins s σ H x y v u Q I rx ry h
  obtain ⟨d, ds, hd, he, sd, se, q⟩ := h
  obtain ⟨as, r1⟩ := Dp.reads I d x v hd rx
  obtain ⟨bs, r2⟩ := Dp.reads I (.tuple ds) y u he ry
  exact SeqAt.notIn_tuple_reads r2 r1 (SeqAt.canLay_of_shaped se) (SeqAt.canLay_of_shaped sd) (room_in_shaped sd hu) ⟨.bl _, H, I, rfl, q⟩
theorem shaped_edgesT (es : List (List Int)) : SeqAt.shaped (.tuple (es.map edgeP)) = true := by
  unfold SeqAt.shaped
  rw [Bool.and_eq_true]
  refine ⟨by simp [PyData.canLay0, lay_edges], decide_eq_true ?_⟩
  have := depth_edges es
  simp [PyData.depth]; omega
theorem RowsH.dpT {K : PySem.W.Frag} {H ts es} (h : RowsH H ts es) {a : Addr} (ha : H a = some (.tup (ts.map V.ref))) : Dp K H (.ref a) (.tuple (es.map edgeP)) := .tup (SqT.of ha) (dp_rows h.1 h.2)
theorem pe_bmK {X : Cx} {K : PySem.W.Frag} {T name id : String} {r : V → List V → Hp → VK → Prop} {o e : Expr} {es : List Expr} {to : TE} {t : TA} {cpos apos : Pos} (hk : X.K = K) (pa : PlainAttrs T) (slot : Slot T name id) (hty : typeOf (.builtin id) = pure (.type "method_descriptor")) (hm : MtR X id r) (ho : PE X o to) (ha : PA X (e :: es) t)
    (hbase : attributeBase o name X.env (eval o X.env) = eval o X.env := by rfl)
    (hfew : ((backTo cpos (starEach (e :: es) X.env)).all (fun x => !x.1) && (backToKw cpos (keywordEach [] X.env)).all (fun x => x.1.isSome)
      && decide ((e :: es).length + ([] : List Keyword).length + (if ([] : List Keyword).isEmpty then 0 else 1) < 30)) = true := by rfl)
    (hline : (apos.endLine == cpos.line) = true := by rfl) (hs : starEach (e :: es) X.env = (false, eval e X.env) :: starEach es X.env := by rfl) (hplain : (backTo cpos (starEach es X.env)).any (·.1) = false := by rfl) :
    PE X (.Call (.Attribute o name apos) (e :: es) [] cpos) (tBM K T r to t) := by
  subst hk
  exact pe_bm pa slot hty hm ho ha hbase hfew hline hs hplain
/-- an entry of a plan: none or three ints -/
def EntH (H : Hp) (x : V) (e : Option (List Int)) : Prop := (x = .non ∧ e = none) ∨ ∃ t r, x = .ref t ∧ e = some r ∧ H t = some (.tup (r.map V.int)) ∧ r.length = 3
def PlanH (H : Hp) (ps : List V) (pe : List (Option (List Int))) : Prop := ps.length = pe.length ∧ ∀ (k : Nat) (x : V) (e : Option (List Int)), ps[k]? = some x → pe[k]? = some e → EntH H x e
theorem EntH.same {H H' x e} (s : Same H H') (h : EntH H x e) : EntH H' x e := by
  rcases h with h | ⟨t, r, h1, h2, h3, h4⟩
  · exact .inl h
  · exact .inr ⟨t, r, h1, h2, s _ _ h3, h4⟩
theorem EntH.keep {H H' x e q} (s : Keep q H H') (hq : ∃ l, H q = some (.lst l)) (h : EntH H x e) : EntH H' x e := by
  obtain ⟨l, hq⟩ := hq
  rcases h with h | ⟨t, r, h1, h2, h3, h4⟩
  · exact .inl h
  · exact .inr ⟨t, r, h1, h2, s _ (ne_of h3 hq (by intro z; cases z)) _ h3, h4⟩
theorem PlanH.same {H H' ps pe} (s : Same H H') (h : PlanH H ps pe) : PlanH H' ps pe := ⟨h.1, fun k x e a b => (h.2 k x e a b).same s⟩
theorem PlanH.keep {H H' ps pe q} (s : Keep q H H') (hq : ∃ l, H q = some (.lst l)) (h : PlanH H ps pe) : PlanH H' ps pe := ⟨h.1, fun k x e a b => (h.2 k x e a b).keep s hq⟩
theorem PlanH.get {H ps pe} (h : PlanH H ps pe) {k : Nat} (l : k < pe.length) : ∃ x, ps[k]? = some x ∧ EntH H x (pe.getD k none) := by
  have l2 : k < ps.length := by rw [h.1]; exact l
  exact ⟨ps[k], List.getElem?_eq_getElem l2, by rw [List.getD_eq_getElem?_getD, List.getElem?_eq_getElem l]; exact h.2 k _ _ (List.getElem?_eq_getElem l2) (List.getElem?_eq_getElem l)⟩
theorem PlanH.nil {H : Hp} : PlanH H [] [] := ⟨rfl, fun k x e a _ => by simp at a⟩
theorem PlanH.snoc {H ps pe x e} (h : PlanH H ps pe) (hx : EntH H x e) : PlanH H (ps ++ [x]) (pe ++ [e]) := by
  refine ⟨by rw [List.length_append, List.length_append, h.1]; rfl, fun k y f a b => ?_⟩
  by_cases c : k < ps.length
  · rw [List.getElem?_append_left c] at a
    rw [List.getElem?_append_left (by have := h.1; omega)] at b
    exact h.2 k y f a b
  · rw [List.getElem?_append_right (by omega)] at a
    rw [List.getElem?_append_right (by have := h.1; omega), ← h.1] at b
    have : k = ps.length := by
      have := (List.getElem?_eq_some_iff.mp a).1
      simp at this; omega
    subst this
    rw [Nat.sub_self] at a b
    cases a; cases b
    exact hx
def entP : Option (List Int) → PyData
  | none => .none
  | some r => edgeP r
theorem EntH.dp {K : PySem.W.Frag} {H x e} (h : EntH H x e) : Dp K H x (entP e) := by
  rcases h with ⟨rfl, rfl⟩ | ⟨t, r, rfl, rfl, h3, h4⟩
  · exact .non
  · exact dp_edge h3
theorem shaped_ent (e : Option (List Int)) : SeqAt.shaped (entP e) = true := by
  cases e with
  | none => decide
  | some r => exact shaped_edge r
theorem any_ent (es : List (List Int)) (e : Option (List Int)) : ((es.map edgeP).any fun z => PyData.eqv z (entP e)) = decide (∃ r, e = some r ∧ r ∈ es) := by
  cases e with
  | none =>
    rw [Bool.eq_iff_iff, decide_eq_true_eq, List.any_eq_true]
    constructor
    · rintro ⟨z, hz, q⟩
      obtain ⟨r, _, rfl⟩ := List.mem_map.mp hz
      cases q
    · rintro ⟨r, h, _⟩; cases h
  | some r =>
    show ((es.map edgeP).any fun z => PyData.eqv z (edgeP r)) = _
    rw [any_edge]
    simp
def entD : Option (List Int) → Dt
  | none => .non
  | some r => tupD r
/-- the next node by the plan, where its entry is an edge out of v -/
def nxt (es : List (List Int)) (pe : List (Option (List Int))) (v : Nat) : Option Nat := match pe.getD v none with
  | none => none
  | some r => if r ∈ es ∧ r.head? = some (v : Int) then some (r.getD 2 0).toNat else none
theorem nxt_none0 {es : List (List Int)} {pe : List (Option (List Int))} {v : Nat} (e : pe.getD v none = none) : nxt es pe v = none := by
  unfold nxt; rw [e]
theorem nxt_noneR {es : List (List Int)} {pe : List (Option (List Int))} {v : Nat} {r : List Int} (e : pe.getD v none = some r) (q : ¬ (r ∈ es ∧ r.head? = some (v : Int))) : nxt es pe v = none := by
  unfold nxt; rw [e]; exact if_neg q
theorem nxt_someR {es : List (List Int)} {pe : List (Option (List Int))} {v : Nat} {r : List Int} (e : pe.getD v none = some r) (q : r ∈ es ∧ r.head? = some (v : Int)) : nxt es pe v = some (r.getD 2 0).toNat := by
  unfold nxt; rw [e]; exact if_pos q
theorem nxt_row {es : List (List Int)} {pe : List (Option (List Int))} {v : Nat} (q : nxt es pe v ≠ none) : ∃ r, pe.getD v none = some r ∧ r ∈ es ∧ r.head? = some (v : Int) ∧ nxt es pe v = some (r.getD 2 0).toNat := by
  cases z : pe.getD v none with
  | none => exact absurd (nxt_none0 z) q
  | some r =>
    by_cases c : r ∈ es ∧ r.head? = some (v : Int)
    · exact ⟨r, rfl, c.1, c.2, nxt_someR z c⟩
    · exact absurd (nxt_noneR z c) q
def run (f : Nat → Option Nat) : Nat → List Nat → List Nat
  | 0, l => l
  | k + 1, l => match f (l.getLastD 0) with
    | none => l
    | some g => if g ∈ l then l ++ [g] else run f k (l ++ [g])
theorem run_succ {f : Nat → Option Nat} {k : Nat} {l : List Nat} {v : Nat} : run f (k + 1) (l ++ [v]) = match f v with
    | none => l ++ [v]
    | some g => if g ∈ l ++ [v] then (l ++ [v]) ++ [g] else run f k ((l ++ [v]) ++ [g]) := by
  show (match f ((l ++ [v]).getLastD 0) with | none => _ | some g => _) = _
  rw [List.getLastD_concat]
theorem nodup_snoc {l : List Nat} {c : Nat} (nd : l.Nodup) (cn : c ∉ l) : (l ++ [c]).Nodup := by
  rw [List.nodup_append]
  refine ⟨nd, by simp, fun x hx y hy e => ?_⟩
  have : y = c := by simpa using hy
  subst this; subst e; exact cn hx
theorem lt_snoc {l : List Nat} {c n : Nat} (lt : ∀ x ∈ l, x < n) (hc : c < n) : ∀ x ∈ l ++ [c], x < n := fun x hx => by
  rcases List.mem_append.mp hx with z | z
  · exact lt x z
  · have : x = c := by simpa using z
    subst this; exact hc
theorem nodup_lt {n : Nat} {l : List Nat} (nd : l.Nodup) (h : ∀ v ∈ l, v < n) : l.length ≤ n := by
  have := nd.length_le_of_subset (l₂ := List.range n) (fun v hv => List.mem_range.mpr (h v hv))
  rwa [List.length_range] at this
theorem nxt_lt {h : Int} {n : Nat} {es : List (List Int)} {pe : List (Option (List Int))} {v g : Nat} (ok : ∀ e ∈ es, EdgeOk h n e) (q : nxt es pe v = some g) : g < n := by
  unfold nxt at q
  cases z : pe.getD v none with
  | none => rw [z] at q; cases q
  | some r =>
    rw [z] at q
    simp only at q
    by_cases c : r ∈ es ∧ r.head? = some (v : Int)
    · rw [if_pos c] at q
      cases q
      obtain ⟨s, r', t, rfl, _, _, ht⟩ := ok r c.1
      show t.toNat < n
      omega
    · rw [if_neg c] at q; cases q
theorem RowsH.take {H : Hp} {ts : List Addr} {es : List (List Int)} (h : RowsH H ts es) (j : Nat) : RowsH H (ts.take j) (es.take j) := by
  refine ⟨by rw [List.length_take, List.length_take, h.1], fun k t e a b => ?_⟩
  rw [List.getElem?_take] at a b
  by_cases c : k < j
  · rw [if_pos c] at a b; exact h.2 k t e a b
  · rw [if_neg c] at a; cases a
theorem RowsH.drop {H : Hp} {ts : List Addr} {es : List (List Int)} (h : RowsH H ts es) (j : Nat) : RowsH H (ts.drop j) (es.drop j) := by
  refine ⟨by rw [List.length_drop, List.length_drop, h.1], fun k t e a b => ?_⟩
  rw [List.getElem?_drop] at a b
  exact h.2 _ t e a b
def natV (v : Nat) : V := .int v
theorem flat_nats (l : List Nat) : (l.map natV).all flatV = true := by
  rw [List.all_map, List.all_eq_true]
  intro _ _; rfl
theorem inV_nats (i : Nat) (l : List Nat) : inV (natV i) (l.map natV) = decide (i ∈ l) := by
  unfold inV
  rw [List.any_map, Bool.eq_iff_iff, List.any_eq_true, decide_eq_true_eq]
  constructor
  · rintro ⟨j, hj, he⟩
    have : ((j : Int) == (i : Int)) = true := he
    rw [beq_iff_eq] at this
    have : j = i := by omega
    subst this; exact hj
  · intro h
    exact ⟨i, h, by show ((i : Int) == (i : Int)) = true; simp⟩
/-- the first place of u -/
def fix (u : Nat) : List Nat → Nat
  | [] => 0
  | x :: r => if x = u then 0 else fix u r + 1
theorem fix_at {u : Nat} : ∀ {l : List Nat}, u ∈ l → l[fix u l]? = some u
  | x :: r, h => by
    unfold fix
    by_cases c : x = u
    · subst c; rw [if_pos rfl]; rfl
    · rw [if_neg c, List.getElem?_cons_succ]
      exact fix_at ((List.mem_cons.mp h).resolve_left fun e => c e.symm)
theorem fix_lt {u : Nat} {l : List Nat} (h : u ∈ l) : fix u l < l.length := (List.getElem?_eq_some_iff.mp (fix_at h)).1
theorem fix_no {u : Nat} : ∀ {l : List Nat} {m z : Nat}, m < fix u l → l[m]? = some z → z ≠ u
  | [], m, z, h, _ => absurd h (Nat.not_lt_zero _)
  | x :: r, m, z, h, e => by
    unfold fix at h
    by_cases c : x = u
    · rw [if_pos c] at h; exact absurd h (Nat.not_lt_zero _)
    · rw [if_neg c] at h
      cases m with
      | zero => cases e; exact c
      | succ m => rw [List.getElem?_cons_succ] at e; exact fix_no (by omega) e
theorem fix_app {u : Nat} {l m : List Nat} (h : u ∈ l) : fix u (l ++ m) = fix u l := by
  induction l with
  | nil => cases h
  | cons x r ih =>
    rw [List.cons_append]
    unfold fix
    by_cases c : x = u
    · rw [if_pos c, if_pos c]
    · rw [if_neg c, if_neg c, ih ((List.mem_cons.mp h).resolve_left fun e => c e.symm)]
theorem ixn1 {l : List Nat} {u : Nat} (h : u ∈ l) : (l.map natV)[fix u l]? = some (natV u) := by
  rw [List.getElem?_map, fix_at h]; rfl
theorem ixn2 {u : Nat} : eqV (natV u) (natV u) = true := by
  show ((u : Int) == (u : Int)) = true; simp
theorem ixn3 {l : List Nat} {u : Nat} : ∀ (m : Nat) (z' : V), m < fix u l → (l.map natV)[m]? = some z' → eqV z' (natV u) = false := fun m z hm hz => by
  rw [List.getElem?_map] at hz
  obtain ⟨y, hy, rfl⟩ := Option.map_eq_some_iff.mp hz
  show ((y : Int) == (u : Int)) = false
  have := fix_no hm hy
  rw [beq_eq_false_iff_ne]; omega
theorem ix_nats {K : PySem.W.Frag} {H : Hp} {a : Addr} {l : List Nat} {u : Nat} {Q : VK} (ha : H a = some (.lst (l.map natV))) (h : u ∈ l) (q : Q (.int (fix u l : Nat)) H) : rIndex K (.ref a) [natV u] H Q := by
  refine ⟨a, _, natV u, fix u l, natV u, rfl, rfl, SqL.of ha, rfl, flat_nats l, ?_, ?_, fun m z hm hz => ?_, q⟩
  · rw [List.getElem?_map, fix_at h]; rfl
  · show ((u : Int) == (u : Int)) = true; simp
  · rw [List.getElem?_map] at hz
    obtain ⟨y, hy, rfl⟩ := Option.map_eq_some_iff.mp hz
    show ((y : Int) == (u : Int)) = false
    have := fix_no hm hy
    rw [beq_eq_false_iff_ne]; omega
theorem cut_from {xs : List V} {a : Nat} (h : a ≤ xs.length) : cutV xs (some (a : Int)) none = xs.drop a := by
  unfold cutV
  rw [sIx_nat h]
  show (xs.drop a).take (xs.length - a) = _
  rw [List.take_of_length_le (by rw [List.length_drop]; exact Nat.le_refl _)]
theorem cut_to {xs : List V} {b : Nat} (h : b ≤ xs.length) : cutV xs none (some (b : Int)) = xs.take b := by
  unfold cutV
  rw [sIx_nat h]
  show (xs.drop 0).take (b - 0) = _
  rfl
theorem cut_mid {xs : List V} {a b : Nat} (ha : a ≤ xs.length) (hb : b ≤ xs.length) : cutV xs (some (a : Int)) (some (b : Int)) = (xs.drop a).take (b - a) := by
  unfold cutV
  rw [sIx_nat ha, sIx_nat hb]
/-- the rows that the plan has for these nodes -/
def wr (pe : List (Option (List Int))) (l : List Nat) : List (List Int) := l.map fun v => (pe.getD v none).getD []
end LR

set_option Elab.async false
set_option maxRecDepth 100000
set_option linter.all false
set_option maxHeartbeats 4000000
namespace LR
open PySem PySem.Spec PyProof.Rows L2
def topS (i : Nat) : Stmt := PySem.Challenge.pw_ladderreach_k14_play_of_one_plan.main.body.getD i (.Pass ⟨0, 0, 0, 0⟩)
abbrev s_check_count : Stmt := topS 18
abbrev N_check_count : List Str := ["count", "most"]
theorem sc_check_count : FnScope N_check_count ["count", "most"] (defScope s_check_count) := ⟨rfl, rfl, rfl, by decide +kernel, rfl, by decide +kernel, by decide +kernel⟩
abbrev s_check_height : Stmt := topS 17
abbrev N_check_height : List Str := ["height"]
theorem sc_check_height : FnScope N_check_height ["height"] (defScope s_check_height) := ⟨rfl, rfl, rfl, by decide +kernel, rfl, by decide +kernel, by decide +kernel⟩
abbrev s_check_node : Stmt := topS 19
abbrev N_check_node : List Str := ["size", "node"]
theorem sc_check_node : FnScope N_check_node ["size", "node"] (defScope s_check_node) := ⟨rfl, rfl, rfl, by decide +kernel, rfl, by decide +kernel, by decide +kernel⟩
abbrev s_wanting : Stmt := topS 21
abbrev N_wanting : List Str := ["rank"]
theorem sc_wanting : FnScope N_wanting ["rank"] (defScope s_wanting) := ⟨rfl, rfl, rfl, by decide +kernel, rfl, by decide +kernel, by decide +kernel⟩
abbrev s_play : Stmt := topS 23
abbrev N_play : List Str := ["game", "plan", "start", "visited", "walk", "node", "first", "cycle", "edge"]
theorem sc_play : FnScope N_play ["game", "plan", "start"] (defScope s_play) := ⟨rfl, rfl, rfl, by decide +kernel, rfl, by decide +kernel, by decide +kernel⟩
abbrev s__check_edges : Stmt := topS 26
abbrev N__check_edges : List Str := ["height", "size", "edges", "seen", "index", "edge", "source", "rank", "target"]
theorem sc__check_edges : FnScope N__check_edges ["height", "size", "edges"] (defScope s__check_edges) := ⟨rfl, rfl, rfl, by decide +kernel, rfl, by decide +kernel, by decide +kernel⟩
abbrev s__check_owners : Stmt := topS 29
abbrev N__check_owners : List Str := ["owners", "owner"]
theorem sc__check_owners : FnScope N__check_owners ["owners"] (defScope s__check_owners) := ⟨rfl, rfl, rfl, by decide +kernel, rfl, by decide +kernel, by decide +kernel⟩
abbrev s__check_dead_ends : Stmt := topS 30
abbrev N__check_dead_ends : List Str := ["size", "edges", "sources", "edge", "node"]
theorem sc__check_dead_ends : FnScope N__check_dead_ends ["size", "edges"] (defScope s__check_dead_ends) := ⟨rfl, rfl, rfl, by decide +kernel, rfl, by decide +kernel, by decide +kernel⟩
abbrev s_pool : Stmt := topS 32
abbrev N_pool : List Str := ["script", "k", "cell"]
theorem sc_pool : FnScope N_pool ["script", "k"] (defScope s_pool) := ⟨rfl, rfl, rfl, by decide +kernel, rfl, by decide +kernel, by decide +kernel⟩
abbrev s_draw : Stmt := topS 33
abbrev N_draw : List Str := ["pool", "many", "value", "mixed"]
theorem sc_draw : FnScope N_draw ["pool", "many"] (defScope s_draw) := ⟨rfl, rfl, rfl, by decide +kernel, rfl, by decide +kernel, by decide +kernel⟩
abbrev s_owners : Stmt := topS 34
abbrev N_owners : List Str := ["pool", "size", "letters", "index"]
theorem sc_owners : FnScope N_owners ["pool", "size"] (defScope s_owners) := ⟨rfl, rfl, rfl, by decide +kernel, rfl, by decide +kernel, by decide +kernel⟩
abbrev s_number : Stmt := topS 35
abbrev N_number : List Str := ["value"]
theorem sc_number : FnScope N_number ["value"] (defScope s_number) := ⟨rfl, rfl, rfl, by decide +kernel, rfl, by decide +kernel, by decide +kernel⟩
abbrev s_same : Stmt := topS 36
abbrev N_same : List Str := ["answer", "due", "k"]
theorem sc_same : FnScope N_same ["answer", "due"] (defScope s_same) := ⟨rfl, rfl, rfl, by decide +kernel, rfl, by decide +kernel, by decide +kernel⟩
abbrev s_ring_edges : Stmt := topS 37
abbrev N_ring_edges : List Str := ["pool", "height", "size", "edges", "node", "index", "rank", "goal", "edge"]
theorem sc_ring_edges : FnScope N_ring_edges ["pool", "height", "size"] (defScope s_ring_edges) := ⟨rfl, rfl, rfl, by decide +kernel, rfl, by decide +kernel, by decide +kernel⟩
abbrev s_any_edges : Stmt := topS 38
abbrev N_any_edges : List Str := ["pool", "height", "size", "edges", "node", "index", "edge"]
theorem sc_any_edges : FnScope N_any_edges ["pool", "height", "size"] (defScope s_any_edges) := ⟨rfl, rfl, rfl, by decide +kernel, rfl, by decide +kernel, by decide +kernel⟩
abbrev s_good_plan : Stmt := topS 39
abbrev N_good_plan : List Str := ["pool", "edges", "size", "plan", "node", "out", "edge"]
theorem sc_good_plan : FnScope N_good_plan ["pool", "edges", "size"] (defScope s_good_plan) := ⟨rfl, rfl, rfl, by decide +kernel, rfl, by decide +kernel, by decide +kernel⟩
abbrev s_spoilt_plan : Stmt := topS 40
abbrev N_spoilt_plan : List Str := ["pool", "height", "plan", "size", "spoilt", "many", "index", "node"]
theorem sc_spoilt_plan : FnScope N_spoilt_plan ["pool", "height", "plan"] (defScope s_spoilt_plan) := ⟨rfl, rfl, rfl, by decide +kernel, rfl, by decide +kernel, by decide +kernel⟩
abbrev s_strange_plan : Stmt := topS 41
abbrev N_strange_plan : List Str := ["pool", "height", "plan", "size", "strange", "node", "entry", "parts", "place", "far"]
theorem sc_strange_plan : FnScope N_strange_plan ["pool", "height", "plan"] (defScope s_strange_plan) := ⟨rfl, rfl, rfl, by decide +kernel, rfl, by decide +kernel, by decide +kernel⟩
abbrev s_wrong_entry : Stmt := topS 42
abbrev N_wrong_entry : List Str := ["edges", "plan", "node"]
theorem sc_wrong_entry : FnScope N_wrong_entry ["edges", "plan", "node"] (defScope s_wrong_entry) := ⟨rfl, rfl, rfl, by decide +kernel, rfl, by decide +kernel, by decide +kernel⟩
abbrev s_line : Stmt := topS 43
abbrev N_line : List Str := ["edges", "plan", "node", "line", "move", "goal"]
theorem sc_line : FnScope N_line ["edges", "plan", "node"] (defScope s_line) := ⟨rfl, rfl, rfl, by decide +kernel, rfl, by decide +kernel, by decide +kernel⟩
abbrev s_walked : Stmt := topS 44
abbrev N_walked : List Str := ["plan", "line", "first", "cycle", "node", "greatest", "edge"]
theorem sc_walked : FnScope N_walked ["plan", "line"] (defScope s_walked) := ⟨rfl, rfl, rfl, by decide +kernel, rfl, by decide +kernel, by decide +kernel⟩
abbrev s_refusal : Stmt := topS 45
abbrev N_refusal : List Str := ["game", "plan", "node", "found", "e", "other"]
theorem sc_refusal : FnScope N_refusal ["game", "plan", "node"] (defScope s_refusal) := ⟨rfl, rfl, rfl, by decide +kernel, rfl, by decide +kernel, by decide +kernel⟩
abbrev s_played : Stmt := topS 46
abbrev N_played : List Str := ["game", "edges", "plan", "node", "passed", "due", "line", "last", "turn", "answer"]
theorem sc_played : FnScope N_played ["game", "edges", "plan", "node"] (defScope s_played) := ⟨rfl, rfl, rfl, by decide +kernel, rfl, by decide +kernel, by decide +kernel⟩
abbrev s_law : Stmt := topS 47
abbrev N_law : List Str := ["script", "pool", "height", "size", "letters", "edges", "game", "good", "plans", "far", "plan", "node"]
theorem sc_law : FnScope N_law ["script"] (defScope s_law) := ⟨rfl, rfl, rfl, by decide +kernel, rfl, by decide +kernel, by decide +kernel⟩
abbrev s_W_init : Stmt := inClass (topS 25) 2
abbrev N_W_init : List Str := ["self", "height", "size", "edges"]
theorem sc_W_init : FnScope N_W_init ["self", "height", "size", "edges"] (defScope s_W_init) := ⟨rfl, rfl, rfl, by decide +kernel, rfl, by decide +kernel, by decide +kernel⟩
abbrev s_W_out : Stmt := inClass (topS 25) 4
abbrev N_W_out : List Str := ["self", "node", "edge"]
theorem sc_W_out : FnScope N_W_out ["self", "node"] (defScope s_W_out) := ⟨rfl, rfl, rfl, by decide +kernel, rfl, by decide +kernel, by decide +kernel⟩
abbrev s_G_init : Stmt := inClass (topS 28) 0
abbrev N_G_init : List Str := ["self", "height", "owners", "edges"]
theorem csc_G_init : CScope N_G_init ["self", "height", "owners", "edges"] (defScope s_G_init) := ⟨rfl, rfl, rfl, by decide +kernel, rfl, by decide +kernel, by decide +kernel, by decide +kernel⟩
abbrev s_G_out : Stmt := inClass (topS 28) 3
abbrev N_G_out : List Str := ["self", "node"]
theorem csc_G_out : CScope N_G_out ["self", "node"] (defScope s_G_out) := ⟨rfl, rfl, rfl, by decide +kernel, rfl, by decide +kernel, by decide +kernel, by decide +kernel⟩
abbrev s_NoSuchNode_init : Stmt := inClass (topS 12) 0
abbrev N_NoSuchNode_init : List Str := ["self", "node"]
theorem csc_NoSuchNode_init : CScope N_NoSuchNode_init ["self", "node"] (defScope s_NoSuchNode_init) := ⟨rfl, rfl, rfl, by decide +kernel, rfl, by decide +kernel, by decide +kernel, by decide +kernel⟩
abbrev s_BadPlan_init : Stmt := inClass (topS 13) 0
abbrev N_BadPlan_init : List Str := ["self", "node"]
theorem csc_BadPlan_init : CScope N_BadPlan_init ["self", "node"] (defScope s_BadPlan_init) := ⟨rfl, rfl, rfl, by decide +kernel, rfl, by decide +kernel, by decide +kernel, by decide +kernel⟩
structure Cs where
  Web : Addr
  Game : Addr
  NoSuchNode : Addr
  BadPlan : Addr
  OutOfRange : Addr
  LadderreachError : Addr
  GameError : Addr
  BadPlacement : Addr
  Misfit : Addr
structure Txt (P : Program) (K : PySem.W.Frag) (mg : Str → Option Value) (ζ : Cs) : Prop where
  n_len : mg "len" = none
  n_abs : mg "abs" = none
  n_isinstance : mg "isinstance" = none
  n_int : mg "int" = none
  n_bool : mg "bool" = none
  n_str : mg "str" = none
  n_list : mg "list" = none
  n_tuple : mg "tuple" = none
  n_range : mg "range" = none
  n_enumerate : mg "enumerate" = none
  n_set : mg "set" = none
  n_sorted : mg "sorted" = none
  n_any : mg "any" = none
  n_max : mg "max" = none
  n_ValueError : mg "ValueError" = none
  objc : ObjC K
  d_check_count : DefIn K mg "check_count" s_check_count ["count", "most"]
  d_check_height : DefIn K mg "check_height" s_check_height ["height"]
  d_check_node : DefIn K mg "check_node" s_check_node ["size", "node"]
  d_wanting : DefIn K mg "wanting" s_wanting ["rank"]
  d_play : DefIn K mg "play" s_play ["game", "plan", "start"]
  d__check_edges : DefIn K mg "_check_edges" s__check_edges ["height", "size", "edges"]
  d__check_owners : DefIn K mg "_check_owners" s__check_owners ["owners"]
  d__check_dead_ends : DefIn K mg "_check_dead_ends" s__check_dead_ends ["size", "edges"]
  d_pool : DefIn K mg "_law_pool" s_pool ["script", "k"]
  d_draw : DefIn K mg "_law_draw" s_draw ["pool", "many"]
  d_owners : DefIn K mg "_law_owners" s_owners ["pool", "size"]
  d_number : DefIn K mg "_law_number" s_number ["value"]
  d_same : DefIn K mg "_law_same" s_same ["answer", "due"]
  d_ring_edges : DefIn K mg "_law_ring_edges" s_ring_edges ["pool", "height", "size"]
  d_any_edges : DefIn K mg "_law_any_edges" s_any_edges ["pool", "height", "size"]
  d_good_plan : DefIn K mg "_law_good_plan" s_good_plan ["pool", "edges", "size"]
  d_spoilt_plan : DefIn K mg "_law_spoilt_plan" s_spoilt_plan ["pool", "height", "plan"]
  d_strange_plan : DefIn K mg "_law_strange_plan" s_strange_plan ["pool", "height", "plan"]
  d_wrong_entry : DefIn K mg "_law_wrong_entry" s_wrong_entry ["edges", "plan", "node"]
  d_line : DefIn K mg "_law_line" s_line ["edges", "plan", "node"]
  d_walked : DefIn K mg "_law_walked" s_walked ["plan", "line"]
  d_refusal : DefIn K mg "_law_refusal" s_refusal ["game", "plan", "node"]
  d_played : DefIn K mg "_law_played" s_played ["game", "edges", "plan", "node"]
  d_law : DefIn K mg "law" s_law ["script"]
  cl_Web : Cls K ζ.Web
  mg_Web : mg "Web" = some (.ref ζ.Web)
  na_Web_height : NoAttr K ζ.Web "height"
  na_Web_size : NoAttr K ζ.Web "size"
  na_Web_edges : NoAttr K ζ.Web "edges"
  mk_Web : MakIn K mg "Web" ζ.Web "Web.__init__" s_W_init ["self", "height", "size", "edges"]
  mt_W_out : MetIn K ζ.Web "out" "Web.out" s_W_out ["self", "node"]
  cv_Web_MOST_NODES : ∃ mc u, ClX.CRead K ζ.Web mc ∧ ClX.CVal K ζ.Web mc "MOST_NODES" (.int 9) u
  cv_Web_MOST_EDGES : ∃ mc u, ClX.CRead K ζ.Web mc ∧ ClX.CVal K ζ.Web mc "MOST_EDGES" (.int 63) u
  cl_Game : Cls K ζ.Game
  mg_Game : mg "Game" = some (.ref ζ.Game)
  na_Game_height : NoAttr K ζ.Game "height"
  na_Game_size : NoAttr K ζ.Game "size"
  na_Game_edges : NoAttr K ζ.Game "edges"
  na_Game_owners : NoAttr K ζ.Game "owners"
  mk_Game : MakInC P K mg "Game" ζ.Game "Game.__init__" s_G_init ["self", "height", "owners", "edges"]
  mt_G_out : MetInC P K mg ζ.Game "out" "Game.out" s_G_out ["self", "node"]
  su_Game_init : SupAt K ζ.Game ζ.Game "__init__" "Web.__init__" "__init__" s_W_init ["self", "height", "size", "edges"]
  su_Game_out : SupAt K ζ.Game ζ.Game "out" "Web.out" "out" s_W_out ["self", "node"]
  e_NoSuchNode : ErrIn P K mg "NoSuchNode" ζ.NoSuchNode "NoSuchNode.__init__" s_NoSuchNode_init "node"
  mg_NoSuchNode : mg "NoSuchNode" = some (.ref ζ.NoSuchNode)
  e_BadPlan : ErrIn P K mg "BadPlan" ζ.BadPlan "BadPlan.__init__" s_BadPlan_init "node"
  mg_BadPlan : mg "BadPlan" = some (.ref ζ.BadPlan)
  mg_OutOfRange : mg "OutOfRange" = some (.ref ζ.OutOfRange)
  mg_LadderreachError : mg "LadderreachError" = some (.ref ζ.LadderreachError)
  mg_GameError : mg "GameError" = some (.ref ζ.GameError)
  mg_BadPlacement : mg "BadPlacement" = some (.ref ζ.BadPlacement)
  mg_Misfit : mg "Misfit" = some (.ref ζ.Misfit)
  kit_NoSuchNode_OutOfRange : PySem.W.kitOne K (.ref ζ.NoSuchNode) (.ref ζ.OutOfRange) = some true
  kit_NoSuchNode_LadderreachError : PySem.W.kitOne K (.ref ζ.NoSuchNode) (.ref ζ.LadderreachError) = some true
  kit_NoSuchNode_ValueError : PySem.W.kitOne K (.ref ζ.NoSuchNode) (.type "ValueError") = some true
  kit_NoSuchNode_GameError : PySem.W.kitOne K (.ref ζ.NoSuchNode) (.ref ζ.GameError) = some false
  kit_BadPlan_OutOfRange : PySem.W.kitOne K (.ref ζ.BadPlan) (.ref ζ.OutOfRange) = some false
  kit_BadPlan_LadderreachError : PySem.W.kitOne K (.ref ζ.BadPlan) (.ref ζ.LadderreachError) = some true
  kit_BadPlan_ValueError : PySem.W.kitOne K (.ref ζ.BadPlan) (.type "ValueError") = some true
  kit_BadPlan_GameError : PySem.W.kitOne K (.ref ζ.BadPlan) (.ref ζ.GameError) = some false
  kit_BadPlan_BadPlacement : PySem.W.kitOne K (.ref ζ.BadPlan) (.ref ζ.BadPlacement) = some false
  kit_BadPlan_Misfit : PySem.W.kitOne K (.ref ζ.BadPlan) (.ref ζ.Misfit) = some false
  exm_NoSuchNode_NoSuchNode : PySem.W.exmOne K (.ref ζ.NoSuchNode) (.ref ζ.NoSuchNode) = some true
  exm_BadPlan_NoSuchNode : PySem.W.exmOne K (.ref ζ.BadPlan) (.ref ζ.NoSuchNode) = some false
  exm_BadPlan_BadPlan : PySem.W.exmOne K (.ref ζ.BadPlan) (.ref ζ.BadPlan) = some true
end LR

set_option Elab.async false
set_option maxRecDepth 100000
set_option linter.all false
set_option maxHeartbeats 4000000
namespace LR
open PySem PySem.Spec PyProof.Rows L2
section
variable {P : Program} {w : World} {K : PySem.W.Frag} {mg : Str → Option Value} {base : Heap} {ζ : Cs}
theorem err_NoSuchNode (T : Txt P K mg ζ) : ErrOk P w K mg base "NoSuchNode" ζ.NoSuchNode "node" := by
  refine T.e_NoSuchNode.ok csc_NoSuchNode_init (fun f cc cda fd A outer s H vs Q E S hr h => ⟨_, nss_cons (ns_expr (ne_supV (i := 0) S T.e_NoSuchNode.T T.e_NoSuchNode.sm T.e_NoSuchNode.mr T.e_NoSuchNode.sv (pa_cons (pe_joined (PJ.cons (pe_str) (PJ.cons (pe_fmt (pv 1)) (PJ.nil)))) pa_nil)))
   (nss_ps (pss_one (ps_ost (pv 0) (pv 1)))), ?_⟩)
  obtain ⟨a, v, rfl, ha, hv, kk⟩ := h
  refine ⟨a, rfl, ha, js_c (n := 0) (by decide) (Nat.zero_le _) (by decide +kernel) fun acc h => js_v (n := 1000) (by decide) h (log_small hv) (fun Q q => ⟨_, rfl, q⟩) fun acc h => ⟨by show 1 ≤ 1000; decide, ha, ?_⟩⟩
  exact ⟨_, rfl, _, rfl, a, ζ.NoSuchNode, rfl, T.e_NoSuchNode.T, T.e_NoSuchNode.no, .inl ⟨ha, kk⟩⟩
theorem err_BadPlan (T : Txt P K mg ζ) : ErrOk P w K mg base "BadPlan" ζ.BadPlan "node" := by
  refine T.e_BadPlan.ok csc_BadPlan_init (fun f cc cda fd A outer s H vs Q E S hr h => ⟨_, nss_cons (ns_expr (ne_supV (i := 0) S T.e_BadPlan.T T.e_BadPlan.sm T.e_BadPlan.mr T.e_BadPlan.sv (pa_cons (pe_joined (PJ.cons (pe_str) (PJ.cons (pe_fmt (pv 1)) (PJ.nil)))) pa_nil)))
   (nss_ps (pss_one (ps_ost (pv 0) (pv 1)))), ?_⟩)
  obtain ⟨a, v, rfl, ha, hv, kk⟩ := h
  refine ⟨a, rfl, ha, js_c (n := 0) (by decide) (Nat.zero_le _) (by decide +kernel) fun acc h => js_v (n := 1000) (by decide) h (log_small hv) (fun Q q => ⟨_, rfl, q⟩) fun acc h => ⟨by show 1 ≤ 1000; decide, ha, ?_⟩⟩
  exact ⟨_, rfl, _, rfl, a, ζ.BadPlan, rfl, T.e_BadPlan.T, T.e_BadPlan.no, .inl ⟨ha, kk⟩⟩
end
end LR

set_option Elab.async false
set_option maxRecDepth 100000
set_option linter.all false
set_option maxHeartbeats 4000000
namespace LR
open PySem PySem.Spec PyProof.Rows L2
section
variable {P : Program} {w : World} {K : PySem.W.Frag} {mg : Str → Option Value} {base : Heap} {ζ : Cs}
def spPool (K : PySem.W.Frag) : Sp := fun vs H Q _ => ∃ (a : Addr) (ns : List Int) (k : Nat), vs = [.ref a, .int k] ∧ SqL K H a (ns.map V.int) ∧ ∀ p x y z t, H p = none → Q (.ref p) (upd H p (.lst [.int x, .int y, .int z, .int t]))
theorem ok_pool (T : Txt P K mg ζ) : Cal P w K mg base 1 "_law_pool" (spPool K) := by
  refine T.d_pool.cal sc_pool (fun vs H Q E h => ?_) (fun f cdv A outer s H vs Q E hr h => ⟨_, pss_cons (ps_set (i := 2) sc_pool.nd rfl (Or.inl rfl) (pe_int))
 (pss_cons (ps_if (pt_cmpR op_lt (pv 1) (pe_callB call_len_seq (by rfl) T.n_len b_len (pa_cons (pv 0) (pa_nil))) (nomark _))
 (pss_one (ps_set (i := 2) sc_pool.nd rfl (Or.inl rfl) (pe_callB call_abs (by rfl) T.n_abs b_abs (pa_cons (pe_callTy call_int1 (by rfl) T.n_int b_int (pa_cons (pe_ix ix_list (pv 0) (pv 1) (fun _ _ => rfl)) (pa_nil))) (pa_nil)))))
 (pss_nil))
 (pss_cons (ps_if (pt_cmpR op_ge (pv 2) (pe_op op_pow (pe_int) (pe_int)) (nomark _))
 (pss_one (ps_ret (pe_lst (pa_cons (pe_int) (pa_cons (pv 2) (pa_cons (pe_int) (pa_cons (pe_op op_add (pv 1) (pe_int)) (pa_nil))))))))
 (pss_nil))
 (pss_one (ps_ret (pe_lst (pa_cons (pe_int) (pa_cons (pv 2) (pa_cons (pe_int) (pa_cons (pe_op op_add (pv 1) (pe_int)) (pa_nil)))))))))), ?_⟩)
  · obtain ⟨a, ns, k, rfl, _⟩ := h; rfl
  obtain ⟨a, ns, k, rfl, hS, kk⟩ := h
  refine ⟨_, rfl, _, rfl, a, _, rfl, .inl hS, _, _, rfl, rfl, _, rfl, ?_⟩
  refine ite2 (fun c => ?_) (fun _ => ?_)
  have hlt : k < ns.length := by
    have := of_decide_eq_true c
    rw [List.length_map] at this
    omega
  refine ⟨_, rfl, _, rfl, a, _, _, _, rfl, rfl, hS, atI_nat (v := V.int (ns[k])) (by rw [List.getElem?_map, List.getElem?_eq_getElem hlt]; rfl), .inl ⟨_, rfl, _, rfl, ?_⟩⟩
  all_goals
    refine ⟨_, rfl, _, _, rfl, rfl, ⟨by decide, by decide, by decide⟩, _, _, rfl, rfl, _, rfl, ?_⟩
    refine ite2 (fun _ => ?_) (fun _ => ?_)
    · exact ⟨_, rfl, _, rfl, _, _, rfl, rfl, by show 4 ≤ sizeLine; decide, fun p hp => kk p _ _ _ _ hp⟩
    · exact ⟨_, rfl, _, rfl, _, _, rfl, rfl, by show 4 ≤ sizeLine; decide, fun p hp => kk p _ _ _ _ hp⟩
end
end LR

set_option Elab.async false
set_option maxRecDepth 100000
set_option linter.all false
set_option maxHeartbeats 4000000
namespace LR
open PySem PySem.Spec PyProof.Rows L2
section
variable {P : Program} {w : World} {K : PySem.W.Frag} {mg : Str → Option Value} {base : Heap} {ζ : Cs}
def spDraw : Sp := fun vs H Q _ => ∃ (p : Addr) (many : Int), vs = [.ref p, .int many] ∧ IsPool H p ∧ 0 < many ∧ many < 1073741824 ∧ ∀ (v : Int) H', 0 ≤ v → v < many → Keep p H H' → IsPool H' p → Q (.int v) H'
theorem ok_draw (T : Txt P K mg ζ) : Cal P w K mg base 1 "_law_draw" spDraw := by
  refine T.d_draw.cal sc_draw (fun vs H Q E h => ?_) (fun f cdv A outer s H vs Q E hr h => ⟨_, pss_cons (ps_if (pt_cmpR op_eq (pe_ix ix_list (pv 0) (pe_int) (fun _ _ => rfl)) (pe_int) (nomark _))
 (pss_cons (ps_set (i := 2) sc_draw.nd rfl (Or.inl rfl) (pe_op op_mod (pe_callTy call_int1 (by rfl) T.n_int b_int (pa_cons (pe_ix ix_list (pv 0) (pe_int) (fun _ _ => rfl)) (pa_nil))) (pv 1)))
 (pss_cons (ps_asg (pe_op op_fdiv (pe_callTy call_int1 (by rfl) T.n_int b_int (pa_cons (pe_ix ix_list (pv 0) (pe_int) (fun _ _ => rfl)) (pa_nil))) (pv 1)) (pg_sub (pv 0) (pe_int) set_list))
 (pss_cons (ps_if (pt_cmpR op_eq (pe_ix ix_list (pv 0) (pe_int) (fun _ _ => rfl)) (pe_int) (nomark _))
 (pss_cons (ps_asg (pe_int) (pg_sub (pv 0) (pe_int) set_list))
 (pss_one (ps_asg (pv 2) (pg_sub (pv 0) (pe_int) set_list))))
 (pss_nil))
 (pss_one (ps_ret (pv 2))))))
 (pss_nil))
 (pss_cons (ps_asg (pe_op op_add (pe_ix ix_list (pv 0) (pe_int) (fun _ _ => rfl)) (pe_int)) (pg_sub (pv 0) (pe_int) set_list))
 (pss_cons (ps_set (i := 3) sc_draw.nd rfl (Or.inl rfl) (pe_op op_mod (pe_callTy call_int1 (by rfl) T.n_int b_int (pa_cons (pe_op op_add (pe_op op_add (pe_op op_add (pe_op op_mul (pe_ix ix_list (pv 0) (pe_int) (fun _ _ => rfl)) (pe_int)) (pe_op op_mul (pe_ix ix_list (pv 0) (pe_int) (fun _ _ => rfl)) (pe_int))) (pe_op op_mul (pe_ix ix_list (pv 0) (pe_int) (fun _ _ => rfl)) (pe_int))) (pe_int)) (pa_nil))) (pe_int)))
 (pss_cons (ps_set (i := 3) sc_draw.nd rfl (Or.inl rfl) (pe_op op_mod (pe_callTy call_int1 (by rfl) T.n_int b_int (pa_cons (pe_op op_add (pe_op op_add (pe_op op_mul (pv 3) (pv 3)) (pe_op op_mul (pe_ix ix_list (pv 0) (pe_int) (fun _ _ => rfl)) (pe_int))) (pe_ix ix_list (pv 0) (pe_int) (fun _ _ => rfl))) (pa_nil))) (pe_int)))
 (pss_cons (ps_set (i := 3) sc_draw.nd rfl (Or.inl rfl) (pe_op op_mod (pe_callTy call_int1 (by rfl) T.n_int b_int (pa_cons (pe_op op_add (pe_op op_mul (pv 3) (pv 3)) (pe_int)) (pa_nil))) (pe_int)))
 (pss_one (ps_ret (pe_op op_mod (pe_callTy call_int1 (by rfl) T.n_int b_int (pa_cons (pe_op op_fdiv (pv 3) (pe_int)) (pa_nil))) (pv 1)))))))), ?_⟩)
  · obtain ⟨a, ns, rfl, _⟩ := h; rfl
  obtain ⟨p, many, rfl, ⟨a, b, c, d, hp⟩, hm0, hm1, kk⟩ := h
  refine ⟨_, rfl, p, _, _, _, rfl, rfl, SqL.of hp, rfl, rfl, _, rfl, ?_⟩
  refine ite2 (fun _ => ?_) (fun _ => ?_)
  · refine ⟨_, rfl, p, _, _, _, rfl, rfl, SqL.of hp, rfl, .inl ⟨_, rfl, _, rfl, _, _, rfl, rfl, hm0, ?_⟩⟩
    refine ⟨_, rfl, p, _, _, _, rfl, rfl, SqL.of hp, rfl, .inl ⟨_, rfl, _, rfl, _, _, rfl, rfl, ⟨hm0, hm1⟩, _, rfl, p, _, _, _, rfl, rfl, hp, rfl, ?_⟩⟩
    refine ⟨_, rfl, p, _, _, _, rfl, rfl, SqL.of upd_same, rfl, rfl, _, rfl, ?_⟩
    refine ite2 (fun _ => ?_) (fun _ => ?_)
    · refine ⟨_, rfl, p, _, _, _, rfl, rfl, upd_same, rfl, ?_⟩
      refine ⟨_, rfl, _, rfl, p, _, _, _, rfl, rfl, upd_same, rfl, ?_⟩
      exact ⟨_, rfl, kk _ _ (Int.emod_nonneg _ (by omega)) (Int.emod_lt_of_pos _ hm0) (by rw [upd_upd, upd_upd]; exact Keep.refl.upd) (by rw [upd_upd, upd_upd]; exact IsPool.upd)⟩
    · exact ⟨_, rfl, kk _ _ (Int.emod_nonneg _ (by omega)) (Int.emod_lt_of_pos _ hm0) Keep.refl.upd IsPool.upd⟩
  · refine ⟨_, rfl, _, _, _, _, rfl, rfl, SqL.of hp, rfl, _, _, rfl, rfl, _, rfl, p, _, _, _, rfl, rfl, hp, rfl, ?_⟩
    refine ⟨_, rfl, _, _, _, _, rfl, rfl, SqL.of upd_same, rfl, _, _, rfl, rfl, .inr ⟨by decide, by decide⟩, _, rfl, _, _, _, _, rfl, rfl, SqL.of upd_same, rfl, _, _, rfl, rfl, .inr ⟨by decide, by decide⟩, _, _, rfl, rfl, _, rfl, _, _, _, _, rfl, rfl, SqL.of upd_same, rfl, _, _, rfl, rfl, .inr ⟨by decide, by decide⟩, _, _, rfl, rfl, _, _, rfl, rfl, .inl ⟨_, rfl, _, _, rfl, rfl, (by show (0:Int) < _; decide), ?_⟩⟩
    refine ⟨_, rfl, _, rfl, _, _, rfl, rfl, .inl ⟨Int.lt_of_lt_of_le (by decide) (Int.emod_nonneg _ (by decide)), Int.lt_trans (Int.emod_lt_of_pos _ (by decide)) (by decide)⟩, _, rfl, _, _, _, _, rfl, rfl, SqL.of upd_same, rfl, _, _, rfl, rfl, .inr ⟨by decide, by decide⟩, _, _, rfl, rfl, _, rfl, _, _, _, _, rfl, rfl, SqL.of upd_same, rfl, _, _, rfl, rfl, .inl ⟨_, rfl, _, _, rfl, rfl, (by show (0:Int) < _; decide), ?_⟩⟩
    refine ⟨_, rfl, _, rfl, _, _, rfl, rfl, .inl ⟨Int.lt_of_lt_of_le (by decide) (Int.emod_nonneg _ (by decide)), Int.lt_trans (Int.emod_lt_of_pos _ (by decide)) (by decide)⟩, _, _, rfl, rfl, .inl ⟨_, rfl, _, _, rfl, rfl, (by show (0:Int) < _; decide), ?_⟩⟩
    exact ⟨_, rfl, _, _, rfl, rfl, ⟨by decide, by decide⟩, .inl ⟨_, rfl, _, rfl, _, _, rfl, rfl, hm0, kk _ _ (Int.emod_nonneg _ (by omega)) (Int.emod_lt_of_pos _ hm0) Keep.refl.upd IsPool.upd⟩⟩
end
end LR

set_option Elab.async false
set_option maxRecDepth 100000
set_option linter.all false
set_option maxHeartbeats 4000000
namespace LR
open PySem PySem.Spec PyProof.Rows L2
section
variable {P : Program} {w : World} {K : PySem.W.Frag} {mg : Str → Option Value} {base : Heap} {ζ : Cs}
def spNumber : Sp := fun vs H Q _ => ∃ (x : V) (d : Dt), vs = [x] ∧ At H x d ∧ Q (.bl (isN d)) H
theorem ok_number (T : Txt P K mg ζ) : Cal P w K mg base 1 "_law_number" spNumber := by
  refine T.d_number.cal sc_number (fun vs H Q E h => ?_) (fun f cdv A outer s H vs Q E hr h => ⟨_, pss_one (ps_ret (pe_and (pe_callB call_isi (by rfl) T.n_isinstance b_isinstance (pa_cons (pv 0) (pa_cons (pe_bltn (v := .ty "int") (by rfl) T.n_int b_int rfl) (pa_nil)))) (pe_one (pe_not (pe_callB call_isi (by rfl) T.n_isinstance b_isinstance (pa_cons (pv 0) (pa_cons (pe_bltn (v := .ty "bool") (by rfl) T.n_bool b_bool rfl) (pa_nil)))))))), ?_⟩)
  · obtain ⟨x, d, rfl, _⟩ := h; rfl
  obtain ⟨x, d, rfl, a, kk⟩ := h
  refine ⟨_, rfl, _, _, _, _, _, rfl, .ty _, At.tyX a, kit_ty (kitI d), _, rfl, ite_b (fun c => ?_) (fun c => ?_)⟩
  · refine ⟨_, rfl, _, _, _, _, _, rfl, .ty _, At.tyX a, kit_ty (kitBo d), _, rfl, ?_⟩
    have e : (!isB d) = isN d := by cases d <;> first | rfl | cases c
    rw [e]; exact kk
  · have e : isN d = false := by cases d <;> first | rfl | cases c
    rw [← e]; exact kk
end
end LR

set_option Elab.async false
set_option maxRecDepth 100000
set_option linter.all false
set_option maxHeartbeats 4000000
namespace LR
open PySem PySem.Spec PyProof.Rows L2
section
variable {P : Program} {w : World} {K : PySem.W.Frag} {mg : Str → Option Value} {base : Heap} {ζ : Cs}
def spHeight : Sp := fun vs H Q _ => ∃ h : Int, vs = [.int h] ∧ (h = 1 ∨ h = 2 ∨ h = 3) ∧ ∀ H', Same H H' → Q .non H'
theorem ok_height (T : Txt P K mg ζ) : Cal P w K mg base 1 "check_height" spHeight := by
  refine T.d_check_height.cal sc_check_height (fun vs H Q E h => ?_) (fun f cdv A outer s H vs Q E hr h => ⟨_, pss_one (ps_if (pt_cmpR op_notIn_seq (pv 0) (pe_tup (pa_cons (pe_int) (pa_cons (pe_int) (pa_cons (pe_int) (pa_nil))))) rfl)
 (pss_never)
 (pss_nil)), ?_⟩)
  · obtain ⟨h, rfl, _⟩ := h; rfl
  obtain ⟨h, rfl, hh, kk⟩ := h
  refine ⟨_, rfl, (by show 3 ≤ sizeLine; decide), fun t ht => ?_⟩
  refine ⟨t, _, rfl, .inr (SqT.of upd_same), rfl, rfl, _, rfl, ?_⟩
  rcases hh with rfl | rfl | rfl <;> exact iteF (kk _ (same_new ht))
end
end LR

set_option Elab.async false
set_option maxRecDepth 100000
set_option linter.all false
set_option maxHeartbeats 4000000
namespace LR
open PySem PySem.Spec PyProof.Rows L2
section
variable {P : Program} {w : World} {K : PySem.W.Frag} {mg : Str → Option Value} {base : Heap} {ζ : Cs}
/-- the answer is the due one, in kind and value -/
def spSame (n : Nat) : Sp := fun vs H Q _ => ∃ (x y : V) (a d : Dt), vs = [x, y] ∧ At H x a ∧ At H y d ∧ dep d < n ∧ ∀ b : Bool, (b = true ↔ a = d) → Q (.bl b) H
theorem at_seq {H : Hp} {p : Addr} {xs : List V} {K : PySem.W.Frag} {i : Nat} {v : V} {Q : VK} (h : SqL K H p xs ∨ SqT K H p xs) (e : xs[i]? = some v) (q : Q v H) : rIx K (.ref p) (.int i) H Q := by
  rcases h with h | h
  · exact .inl ⟨p, xs, i, v, rfl, rfl, h, atI_nat e, q⟩
  · exact .inr (.inl ⟨p, xs, i, v, rfl, rfl, h, atI_nat e, q⟩)
theorem ok_same (T : Txt P K mg ζ) (n : Nat) : Cal P w K mg base (n + 2) "_law_same" (spSame n) := by
  have c_number : Cal P w K mg base 1 "_law_number" spNumber := ok_number T
  induction n with
  | zero =>
    refine T.d_same.cal sc_same (fun vs H Q E h => ?_) (fun f cdv A outer s H vs Q E hr h => ?_)
    · obtain ⟨x, y, a, d, rfl, _⟩ := h; rfl
    · obtain ⟨x, y, a, d, rfl, _, _, hn, _⟩ := h
      exact absurd hn (Nat.not_lt_zero _)
  | succ n ih =>
  have c_same := ih
  refine T.d_same.cal sc_same (fun vs H Q E h => ?_) (fun f cdv A outer s H vs Q E hr h => ⟨_, pss_cons (ps_if (PW.pt (pw_or (pt_val (pe_callB call_isi (by rfl) T.n_isinstance b_isinstance (pa_cons (pv 1) (pa_cons (pe_bltn (v := .ty "list") (by rfl) T.n_list b_list rfl) (pa_nil))))) (pw_or1 (pt_val (pe_callB call_isi (by rfl) T.n_isinstance b_isinstance (pa_cons (pv 1) (pa_cons (pe_bltn (v := .ty "tuple") (by rfl) T.n_tuple b_tuple rfl) (pa_nil))))))))
 (pss_cons (ps_if (PW.pt (pw_and (pt_val (pe_callB call_isi (by rfl) T.n_isinstance b_isinstance (pa_cons (pv 1) (pa_cons (pe_bltn (v := .ty "list") (by rfl) T.n_list b_list rfl) (pa_nil))))) (pw_and1 (pt_not (pt_val (pe_callB call_isi (by rfl) T.n_isinstance b_isinstance (pa_cons (pv 0) (pa_cons (pe_bltn (v := .ty "list") (by rfl) T.n_list b_list rfl) (pa_nil)))))))))
 (pss_one (ps_ret (pe_bl)))
 (pss_nil))
 (pss_cons (ps_if (PW.pt (pw_and (pt_val (pe_callB call_isi (by rfl) T.n_isinstance b_isinstance (pa_cons (pv 1) (pa_cons (pe_bltn (v := .ty "tuple") (by rfl) T.n_tuple b_tuple rfl) (pa_nil))))) (pw_and1 (pt_not (pt_val (pe_callB call_isi (by rfl) T.n_isinstance b_isinstance (pa_cons (pv 0) (pa_cons (pe_bltn (v := .ty "tuple") (by rfl) T.n_tuple b_tuple rfl) (pa_nil)))))))))
 (pss_one (ps_ret (pe_bl)))
 (pss_nil))
 (pss_cons (ps_if (pt_cmpR op_ne (pe_callB call_len_seq (by rfl) T.n_len b_len (pa_cons (pv 0) (pa_nil))) (pe_callB call_len_seq (by rfl) T.n_len b_len (pa_cons (pv 1) (pa_nil))) (nomark _))
 (pss_one (ps_ret (pe_bl)))
 (pss_nil))
 (pss_cons (ps_for PassesOwn.never rfl (pi_range1 rfl T.n_range (pa_cons (pe_callB call_len_seq (by rfl) T.n_len b_len (pa_cons (pv 1) (pa_nil))) (pa_nil))) (pg_name (i := 2) sc_same.nd rfl (Or.inl rfl))
 (pss_one (ps_if (pt_not (pt_val (pe_c c_same hr (by first | decide | omega) (by rfl) (pa_cons (pe_ix ix_seq (pv 0) (pv 2) (fun _ _ => rfl)) (pa_cons (pe_ix ix_seq (pv 1) (pv 2) (fun _ _ => rfl)) (pa_nil))))))
 (pss_one (ps_ret (pe_bl)))
 (pss_nil))))
 (pss_one (ps_ret (pe_bl)))))))
 (pss_nil))
 (pss_cons (ps_if (pt_cmpR op_isN (pv 1) (pe_non) (nomark _))
 (pss_one (ps_ret (pe_cmpR op_isN (pv 0) (pe_non) (nomark _))))
 (pss_nil))
 (pss_cons (ps_if (pt_val (pe_callB call_isi (by rfl) T.n_isinstance b_isinstance (pa_cons (pv 1) (pa_cons (pe_bltn (v := .ty "bool") (by rfl) T.n_bool b_bool rfl) (pa_nil)))))
 (pss_one (ps_ret (pe_and (pe_callB call_isi (by rfl) T.n_isinstance b_isinstance (pa_cons (pv 0) (pa_cons (pe_bltn (v := .ty "bool") (by rfl) T.n_bool b_bool rfl) (pa_nil)))) (pe_one (pe_cmpR op_eq (pv 0) (pv 1) (nomark _))))))
 (pss_nil))
 (pss_cons (ps_if (pt_val (pe_callB call_isi (by rfl) T.n_isinstance b_isinstance (pa_cons (pv 1) (pa_cons (pe_bltn (v := .ty "int") (by rfl) T.n_int b_int rfl) (pa_nil)))))
 (pss_one (ps_ret (pe_and (pe_c c_number hr (by first | decide | omega) (by rfl) (pa_cons (pv 0) (pa_nil))) (pe_one (pe_cmpR op_eq (pv 0) (pv 1) (nomark _))))))
 (pss_nil))
 (pss_one (ps_ret (pe_and (pe_callB call_isi (by rfl) T.n_isinstance b_isinstance (pa_cons (pv 0) (pa_cons (pe_bltn (v := .ty "str") (by rfl) T.n_str b_str rfl) (pa_nil)))) (pe_one (pe_cmpR op_eq (pv 0) (pv 1) (nomark _))))))))), ?_⟩)
  · obtain ⟨x, y, a, d, rfl, _⟩ := h; rfl
  obtain ⟨x, y, a, d, rfl, ha, hd, hn, kk⟩ := h
  cases hd with
  | non =>
    refine ⟨_, rfl, _, _, _, _, _, rfl, .ty _, At.tyX .non, kit_ty (kitL _), _, rfl, iteF ⟨_, rfl, _, _, _, _, _, rfl, .ty _, At.tyX .non, kit_ty (kitU _), _, rfl, iteF ?_⟩⟩
    refine ⟨_, rfl, rfl, _, rfl, iteT ⟨_, rfl, rfl, kk _ ?_⟩⟩
    cases ha <;> simp
  | bl b =>
    refine ⟨_, rfl, _, _, _, _, _, rfl, .ty _, At.tyX (.bl _), kit_ty (kitL _), _, rfl, iteF ⟨_, rfl, _, _, _, _, _, rfl, .ty _, At.tyX (.bl _), kit_ty (kitU _), _, rfl, iteF ?_⟩⟩
    refine ⟨_, rfl, rfl, _, rfl, iteF ⟨_, rfl, _, _, _, _, _, rfl, .ty _, At.tyX (.bl _), kit_ty (kitBo _), _, rfl, iteT ?_⟩⟩
    refine ⟨_, rfl, _, _, _, _, _, rfl, .ty _, At.tyX ha, kit_ty (kitBo _), _, rfl, ite_b (fun c => ?_) (fun c => ?_)⟩
    · cases ha with
      | bl b' => exact ⟨_, rfl, _, rfl, rfl, kk _ (by simp)⟩
      | _ => cases c
    · refine kk _ ⟨fun z => (by cases z), fun z => ?_⟩
      subst z; cases c
  | int b =>
    refine ⟨_, rfl, _, _, _, _, _, rfl, .ty _, At.tyX (.int _), kit_ty (kitL _), _, rfl, iteF ⟨_, rfl, _, _, _, _, _, rfl, .ty _, At.tyX (.int _), kit_ty (kitU _), _, rfl, iteF ?_⟩⟩
    refine ⟨_, rfl, rfl, _, rfl, iteF ⟨_, rfl, _, _, _, _, _, rfl, .ty _, At.tyX (.int _), kit_ty (kitBo _), _, rfl, iteF ⟨_, rfl, _, _, _, _, _, rfl, .ty _, At.tyX (.int _), kit_ty (kitI _), _, rfl, iteT ?_⟩⟩⟩
    refine ⟨_, rfl, x, a, rfl, ha, _, rfl, ite_b (fun c => ?_) (fun c => ?_)⟩
    · cases ha with
      | int b' => exact ⟨_, rfl, _, rfl, rfl, kk _ (by simp)⟩
      | _ => cases c
    · refine kk _ ⟨fun z => (by cases z), fun z => ?_⟩
      subst z; cases c
  | str b =>
    refine ⟨_, rfl, _, _, _, _, _, rfl, .ty _, At.tyX (.str _), kit_ty (kitL _), _, rfl, iteF ⟨_, rfl, _, _, _, _, _, rfl, .ty _, At.tyX (.str _), kit_ty (kitU _), _, rfl, iteF ?_⟩⟩
    refine ⟨_, rfl, rfl, _, rfl, iteF ⟨_, rfl, _, _, _, _, _, rfl, .ty _, At.tyX (.str _), kit_ty (kitBo _), _, rfl, iteF ⟨_, rfl, _, _, _, _, _, rfl, .ty _, At.tyX (.str _), kit_ty (kitI _), _, rfl, iteF ?_⟩⟩⟩
    refine ⟨_, rfl, _, _, _, _, _, rfl, .ty _, At.tyX ha, kit_ty (kitS _), _, rfl, ite_b (fun c => ?_) (fun c => ?_)⟩
    · cases ha with
      | str b' => exact ⟨_, rfl, _, rfl, rfl, kk _ (by simp)⟩
      | _ => cases c
    · refine kk _ ⟨fun z => (by cases z), fun z => ?_⟩
      subst z; cases c
  | lst hq hs hz =>
    rename_i q ys ds
    have hdn : deps ds < n := by rw [dep] at hn; omega
    refine ⟨_, rfl, _, _, _, _, _, rfl, .ty _, At.tyX (At.lst hq hs hz), kit_ty (kitL _), _, rfl, iteT ?_⟩
    refine ⟨_, rfl, _, _, _, _, _, rfl, .ty _, At.tyX (At.lst hq hs hz), kit_ty (kitL _), _, rfl, iteT ?_⟩
    cases ha with
    | lst hp as az =>
      rename_i p xs as'
      refine ⟨_, rfl, _, _, _, _, _, rfl, .ty _, At.tyX (At.lst hp as az), kit_ty (kitL _), _, rfl, iteF ?_⟩
      refine ⟨_, rfl, _, _, _, _, _, rfl, .ty _, At.tyX (At.lst hq hs hz), kit_ty (kitU _), _, rfl, iteF (iteF ?_)⟩
      have hl1 := as.length; have hl2 := hs.length
      refine ⟨_, rfl, p, xs, rfl, .inl (SqL.of hp), _, rfl, q, ys, rfl, .inl (SqL.of hq), rfl, _, rfl, ?_⟩
      refine ite_b (fun c => ?_) (fun c => ?_)
      · refine kk _ ⟨fun z => (by cases z), fun z => ?_⟩
        cases z
        rw [hl1, hl2] at c; simp at c
      have hl : as'.length = ds.length := by
        rw [hl1, hl2] at c; simp at c; omega
      refine ⟨_, rfl, q, ys, rfl, .inl (SqL.of hq), _, rfl, by omega, by omega, ?_⟩
      refine for_range (lo := 0) (n := ys.length) (fun i σ H' => H' = H ∧ (∃ z, σ = [some (.ref p), some (.ref q), z]) ∧ as'.take i = ds.take i) ⟨rfl, ⟨_, rfl⟩, rfl⟩ ?_ ?_
      · rintro i σ H' hi ⟨rfl, ⟨z, rfl⟩, ht⟩
        have hi1 : i < as'.length := by omega
        have hi2 : i < ds.length := by omega
        obtain ⟨x, ex, ax⟩ := as.getD (List.getElem?_eq_getElem hi1)
        obtain ⟨y, ey, ay⟩ := hs.getD (List.getElem?_eq_getElem hi2)
        refine ⟨_, rfl, _, rfl, .inl ⟨ p, xs, _, _, rfl, rfl, SqL.of hp, (by rw [Int.zero_add]; exact atI_nat ex), _, rfl, _, rfl, .inl ⟨ q, ys, _, _, rfl, rfl, SqL.of hq, (by rw [Int.zero_add]; exact atI_nat ey), ?_⟩⟩⟩
        refine ⟨x, y, _, _, rfl, ax, ay, Nat.lt_of_le_of_lt (deps_mem (List.getElem_mem hi2)) hdn, fun b hb => ⟨_, rfl, ite_b (fun c => ?_) (fun c => ?_)⟩⟩
        · refine kk _ ⟨fun z => (by cases z), fun z => ?_⟩
          injection z with z
          have hbt := hb.mpr (List.getElem_of_eq z hi1)
          rw [hbt] at c; cases c
        · refine ⟨rfl, ⟨_, rfl⟩, ?_⟩
          have hbt : b = true := by cases b with
            | true => rfl
            | false => cases c
          rw [List.take_succ, List.take_succ, ht, List.getElem?_eq_getElem hi1, List.getElem?_eq_getElem hi2, hb.mp hbt]
      · rintro σ H' ⟨rfl, ⟨z, rfl⟩, ht⟩
        refine kk true ⟨fun _ => ?_, fun _ => rfl⟩
        rw [hl2, List.take_length, ← hl, List.take_length] at ht
        rw [ht]
    | non => exact ⟨_, rfl, _, _, _, _, _, rfl, .ty _, At.tyX .non, kit_ty (kitL _), _, rfl, iteT (kk _ ⟨fun z => (by cases z), fun z => (by cases z)⟩)⟩
    | bl _ => exact ⟨_, rfl, _, _, _, _, _, rfl, .ty _, At.tyX (.bl _), kit_ty (kitL _), _, rfl, iteT (kk _ ⟨fun z => (by cases z), fun z => (by cases z)⟩)⟩
    | int _ => exact ⟨_, rfl, _, _, _, _, _, rfl, .ty _, At.tyX (.int _), kit_ty (kitL _), _, rfl, iteT (kk _ ⟨fun z => (by cases z), fun z => (by cases z)⟩)⟩
    | str _ => exact ⟨_, rfl, _, _, _, _, _, rfl, .ty _, At.tyX (.str _), kit_ty (kitL _), _, rfl, iteT (kk _ ⟨fun z => (by cases z), fun z => (by cases z)⟩)⟩
    | tup h5 a5 z5 => exact ⟨_, rfl, _, _, _, _, _, rfl, .ty _, At.tyX (.tup h5 a5 z5), kit_ty (kitL _), _, rfl, iteT (kk _ ⟨fun z => (by cases z), fun z => (by cases z)⟩)⟩
  | tup hq hs hz =>
    rename_i q ys ds
    have hdn : deps ds < n := by rw [dep] at hn; omega
    refine ⟨_, rfl, _, _, _, _, _, rfl, .ty _, At.tyX (At.tup hq hs hz), kit_ty (kitL _), _, rfl, iteF ⟨_, rfl, _, _, _, _, _, rfl, .ty _, At.tyX (At.tup hq hs hz), kit_ty (kitU _), _, rfl, iteT ?_⟩⟩
    refine ⟨_, rfl, _, _, _, _, _, rfl, .ty _, At.tyX (At.tup hq hs hz), kit_ty (kitL _), _, rfl, iteF (iteF ⟨_, rfl, _, _, _, _, _, rfl, .ty _, At.tyX (At.tup hq hs hz), kit_ty (kitU _), _, rfl, iteT ?_⟩)⟩
    cases ha with
    | tup hp as az =>
      rename_i p xs as'
      refine ⟨_, rfl, _, _, _, _, _, rfl, .ty _, At.tyX (At.tup hp as az), kit_ty (kitU _), _, rfl, iteF ?_⟩
      have hl1 := as.length; have hl2 := hs.length
      refine ⟨_, rfl, p, xs, rfl, .inr (SqT.of hp), _, rfl, q, ys, rfl, .inr (SqT.of hq), rfl, _, rfl, ?_⟩
      refine ite_b (fun c => ?_) (fun c => ?_)
      · refine kk _ ⟨fun z => (by cases z), fun z => ?_⟩
        cases z
        rw [hl1, hl2] at c; simp at c
      have hl : as'.length = ds.length := by
        rw [hl1, hl2] at c; simp at c; omega
      refine ⟨_, rfl, q, ys, rfl, .inr (SqT.of hq), _, rfl, by omega, by omega, ?_⟩
      refine for_range (lo := 0) (n := ys.length) (fun i σ H' => H' = H ∧ (∃ z, σ = [some (.ref p), some (.ref q), z]) ∧ as'.take i = ds.take i) ⟨rfl, ⟨_, rfl⟩, rfl⟩ ?_ ?_
      · rintro i σ H' hi ⟨rfl, ⟨z, rfl⟩, ht⟩
        have hi1 : i < as'.length := by omega
        have hi2 : i < ds.length := by omega
        obtain ⟨x, ex, ax⟩ := as.getD (List.getElem?_eq_getElem hi1)
        obtain ⟨y, ey, ay⟩ := hs.getD (List.getElem?_eq_getElem hi2)
        refine ⟨_, rfl, _, rfl, .inr (.inl ⟨ p, xs, _, _, rfl, rfl, SqT.of hp, (by rw [Int.zero_add]; exact atI_nat ex), _, rfl, _, rfl, .inr (.inl ⟨ q, ys, _, _, rfl, rfl, SqT.of hq, (by rw [Int.zero_add]; exact atI_nat ey), ?_⟩)⟩)⟩
        refine ⟨x, y, _, _, rfl, ax, ay, Nat.lt_of_le_of_lt (deps_mem (List.getElem_mem hi2)) hdn, fun b hb => ⟨_, rfl, ite_b (fun c => ?_) (fun c => ?_)⟩⟩
        · refine kk _ ⟨fun z => (by cases z), fun z => ?_⟩
          injection z with z
          have hbt := hb.mpr (List.getElem_of_eq z hi1)
          rw [hbt] at c; cases c
        · refine ⟨rfl, ⟨_, rfl⟩, ?_⟩
          have hbt : b = true := by cases b with
            | true => rfl
            | false => cases c
          rw [List.take_succ, List.take_succ, ht, List.getElem?_eq_getElem hi1, List.getElem?_eq_getElem hi2, hb.mp hbt]
      · rintro σ H' ⟨rfl, ⟨z, rfl⟩, ht⟩
        refine kk true ⟨fun _ => ?_, fun _ => rfl⟩
        rw [hl2, List.take_length, ← hl, List.take_length] at ht
        rw [ht]
    | non => exact ⟨_, rfl, _, _, _, _, _, rfl, .ty _, At.tyX .non, kit_ty (kitU _), _, rfl, iteT (kk _ ⟨fun z => (by cases z), fun z => (by cases z)⟩)⟩
    | bl _ => exact ⟨_, rfl, _, _, _, _, _, rfl, .ty _, At.tyX (.bl _), kit_ty (kitU _), _, rfl, iteT (kk _ ⟨fun z => (by cases z), fun z => (by cases z)⟩)⟩
    | int _ => exact ⟨_, rfl, _, _, _, _, _, rfl, .ty _, At.tyX (.int _), kit_ty (kitU _), _, rfl, iteT (kk _ ⟨fun z => (by cases z), fun z => (by cases z)⟩)⟩
    | str _ => exact ⟨_, rfl, _, _, _, _, _, rfl, .ty _, At.tyX (.str _), kit_ty (kitU _), _, rfl, iteT (kk _ ⟨fun z => (by cases z), fun z => (by cases z)⟩)⟩
    | lst h5 a5 z5 => exact ⟨_, rfl, _, _, _, _, _, rfl, .ty _, At.tyX (.lst h5 a5 z5), kit_ty (kitU _), _, rfl, iteT (kk _ ⟨fun z => (by cases z), fun z => (by cases z)⟩)⟩
end
end LR

set_option Elab.async false
set_option maxRecDepth 100000
set_option linter.all false
set_option maxHeartbeats 4000000
namespace LR
open PySem PySem.Spec PyProof.Rows L2
section
variable {P : Program} {w : World} {K : PySem.W.Frag} {mg : Str → Option Value} {base : Heap} {ζ : Cs}
def spChkEdges (K : PySem.W.Frag) : Sp := fun vs H Q _ => ∃ (h n : Int) (a : Addr) (ts : List Addr) (es : List (List Int)), vs = [.int h, .int n, .ref a] ∧ Sq K H a (ts.map V.ref) ∧ RowsH H ts es ∧ (∀ e ∈ es, EdgeOk h n e) ∧ es.Nodup ∧ es.length ≤ 63 ∧ ∀ H', Same H H' → Q .non H'
theorem ok_chkedges (T : Txt P K mg ζ) : Cal P w K mg base 1 "_check_edges" (spChkEdges K) := by
  refine T.d__check_edges.cal sc__check_edges (fun vs H Q E h => ?_) (fun f cdv A outer s H vs Q E hr h => ⟨_, pss_cons (ps_set (i := 3) sc__check_edges.nd rfl (Or.inl rfl) (pe_callTy0 cr_set0T (by rfl) T.n_set b_set))
 (pss_one (ps_for PassesOwn.never rfl (pi_enumS (by rfl) T.n_enumerate (pa_cons (pv 2) (pa_nil))) (pg_tup rfl (pgs_cons (pg_name (i := 4) sc__check_edges.nd rfl (Or.inl rfl)) (pgs_cons (pg_name (i := 5) sc__check_edges.nd rfl (Or.inl rfl)) (pgs_nil))))
 (pss_cons (ps_asg (pv 5) (pg_tup rfl (pgs_cons (pg_name (i := 6) sc__check_edges.nd rfl (Or.inl rfl)) (pgs_cons (pg_name (i := 7) sc__check_edges.nd rfl (Or.inl rfl)) (pgs_cons (pg_name (i := 8) sc__check_edges.nd rfl (Or.inl rfl)) (pgs_nil))))))
 (pss_cons (ps_if (pt_not (PW.pt (pw_and (pt_chain op_le op_lt (pe_int) (pv 6) (pv 1) ) (pw_and (pt_chain op_le op_lt (pe_int) (pv 8) (pv 1) ) (pw_and1 (pt_chain op_le op_le (pe_int) (pv 7) (pe_op op_mul (pe_int) (pv 0)) ))))))
 (pss_never)
 (pss_nil))
 (pss_cons (ps_if (pt_cmpR (or_inT hr.units) (pv 5) (pv 3) rfl)
 (pss_never)
 (pss_nil))
 (pss_one (ps_expr (pe_addT hr.units (pv 3) (pa_cons (pv 5) pa_nil))))))))), ?_⟩)
  · obtain ⟨h, n, a, ts, es, rfl, _⟩ := h; rfl
  obtain ⟨h, n, a, ts, es, rfl, hS, hR, hok, hnd, hl, kk⟩ := h
  refine ⟨rfl, fun S hS0 => ?_⟩
  have s1 : Same H (upd H S (SetTO P w S [])) := same_new hS0
  have hS1 : (upd H S (SetTO P w S [])) S = some (SetTO P w S []) := upd_same
  refine ⟨_, rfl, a, rfl, hS.enum s1 fun J G W g1 g2 => for_it W (fun i σ H' => Same H H' ∧ (∃ L : List (Addr × List Int), H' S = some (SetTO P w S L) ∧ (∀ p ∈ L, H p.1 = some (.tup (p.2.map V.int))) ∧ L.length = i ∧ ∀ k, k ∈ L.map (·.2) ↔ k ∈ es.take i) ∧ ∃ z4 z5 z6 z7 z8 : Option V, σ = [some (.int h), some (.int n), some (.ref a), some (.ref S), z4, z5, z6, z7, z8]) ⟨s1, ⟨[], hS1, (fun p z => by cases z), rfl, fun k => by simp⟩, none, none, none, none, none, rfl⟩ (fun i σ H' _ h => g1 _ h.1) ?_ ?_⟩
  · rintro i x1 σ H2 H3 hi ⟨s2, ⟨L, hL, hLt, hLl, hLm⟩, z4, z5, z6, z7, z8, rfl⟩ ⟨t, x2, y2, rfl, ht, rfl, ex, ey⟩
    cases ex
    obtain ⟨te, ete, rfl⟩ : ∃ te, ts[i]? = some te ∧ y2 = .ref te := by
      have ey : (ts.map V.ref)[i]? = some y2 := ey
      rw [List.getElem?_map] at ey
      cases q : ts[i]? with
      | none => rw [q] at ey; cases ey
      | some te => rw [q] at ey; cases ey; exact ⟨te, rfl, rfl⟩
    obtain ⟨e, ee, he⟩ := hR.getT ete
    have eok := hok e (List.mem_of_getElem? ee)
    obtain ⟨s0, r0, t0, rfl, hs, hr0, ht0⟩ := eok
    refine ⟨t, _, rfl, SqT.of upd_same, rfl, _, _, rfl, _, _, rfl, rfl, ?_⟩
    have s3 := s2.new (o := .tup [.int (i : Nat), .ref te]) ht
    have hL3 := (same_new (o := .tup [.int (i : Nat), .ref te]) ht) _ _ hL
    generalize upd H2 t (.tup [.int (i : Nat), .ref te]) = H4 at s3 hL3 ⊢
    have he3 := s3 _ _ he
    have hS3 : H S = none := hS0
    refine ⟨_, rfl, te, _, rfl, SqT.of he3, rfl, _, _, rfl, _, _, rfl, _, _, rfl, rfl, ?_⟩
    have heS := SqT.of (K := K) he3
    have hLS : ∀ p ∈ L, SqT K H4 p.1 (p.2.map V.int) := fun p hp => SqT.of (s3 _ _ (hLt p hp))
    refine ⟨_, rfl, _, _, rfl, rfl, _, rfl, ite2 (fun _ => ?_) (fun c => absurd (decide_eq_true hs.1) c)⟩
    refine ⟨_, rfl, _, _, rfl, rfl, _, rfl, ite2 (fun _ => ?_) (fun c => absurd (decide_eq_true hs.2) c)⟩
    refine ⟨_, rfl, _, _, rfl, rfl, _, rfl, ite2 (fun _ => ?_) (fun c => absurd (decide_eq_true ht0.1) c)⟩
    refine ⟨_, rfl, _, _, rfl, rfl, _, rfl, ite2 (fun _ => ?_) (fun c => absurd (decide_eq_true ht0.2) c)⟩
    refine ⟨_, rfl, _, _, rfl, rfl, _, rfl, ite2 (fun _ => ?_) (fun c => absurd (decide_eq_true hr0.1) c)⟩
    refine ⟨_, rfl, _, _, rfl, rfl, .inl ⟨by decide, by decide⟩, _, _, rfl, rfl, _, rfl, ite2 (fun c => by rw [decide_eq_true hr0.2] at c; cases c) (fun _ => ?_)⟩
    have nin : [s0, r0, t0] ∉ L.map (·.2) := fun z => nodup_take hnd ee ((hLm _).mp z)
    refine ⟨_, rfl, _, rfl, te, S, [s0, r0, t0], L, rfl, rfl, heS, hL3, hLS, _, rfl, ite2 (fun c => absurd (of_decide_eq_true c) nin) (fun _ => ?_)⟩
    have li : i < ts.length := (List.getElem?_eq_some_iff.mp ete).1
    have := hR.1
    refine ⟨_, rfl, ⟨S, L, rfl, hL3⟩, _, rfl, S, te, [s0, r0, t0], L, rfl, rfl, heS, hL3, hLS, by omega, fun L' _ e2 => ⟨fun b o q => ?_, ⟨L', upd_same, fun p hp => ?_, ?_, fun k => ?_⟩, _, _, _, _, _, rfl⟩⟩
    · rw [upd_ne (ne_of_none q hS3)]; exact s3 _ _ q
    · rcases List.mem_cons.mp ((e2 nin).mem_iff.mp hp) with q | q
      · subst q; exact he
      · exact hLt p q
    · rw [(e2 nin).length_eq, List.length_cons, hLl]
    · rw [((e2 nin).map (·.2)).mem_iff, take_mem ee, List.map_cons, List.mem_cons, hLm k]
  · rintro σ H' ⟨s2, _⟩
    exact kk _ s2
def spCount : Sp := fun vs H Q _ => ∃ c m : Int, vs = [.int c, .int m] ∧ 1 ≤ c ∧ c ≤ m ∧ Q .non H
theorem ok_count (T : Txt P K mg ζ) : Cal P w K mg base 1 "check_count" spCount := by
  refine T.d_check_count.cal sc_check_count (fun vs H Q E h => ?_) (fun f cdv A outer s H vs Q E hr h => ⟨_, pss_one (ps_if (pt_not (pt_chain op_le op_le (pe_int) (pv 0) (pv 1) ))
 (pss_never)
 (pss_nil)), ?_⟩)
  · obtain ⟨m, u, rfl, _⟩ := h; rfl
  obtain ⟨c, m, rfl, h1, h2, kk⟩ := h
  refine ⟨_, rfl, _, _, rfl, rfl, _, rfl, ite2 (fun _ => ?_) (fun q => absurd (decide_eq_true h1) q)⟩
  exact ⟨_, rfl, _, _, rfl, rfl, _, rfl, ite2 (fun q => by rw [decide_eq_true h2] at q; cases q) (fun _ => kk)⟩
def spWeb (C : Addr) : Sp := fun vs H Q _ => ∃ (x a dx : Addr) (h n : Int) (ts : List Addr) (es : List (List Int)), vs = [.ref x, .int h, .int n, .ref a] ∧ H x = some (.ins C dx []) ∧ (H a = some (.lst (ts.map V.ref)) ∨ H a = some (.tup (ts.map V.ref))) ∧ RowsH H ts es ∧ (h = 1 ∨ h = 2 ∨ h = 3) ∧ (1 ≤ n ∧ n ≤ 9) ∧ es.length ≤ 63 ∧ (∀ e ∈ es, EdgeOk h n e) ∧ es.Nodup ∧ ∀ H' ss, Keep x H H' → WebAt C H' x h n ss → ss.Perm es → ss.Pairwise elt → Q .non H'
theorem body_web (T : Txt P K mg ζ) {C : Addr} (cl : Cls K C) (na1 : NoAttr K C "height") (na2 : NoAttr K C "size") (na3 : NoAttr K C "edges") (f : Addr) (cdv : Value) (A : Around) (outer : List Env) (s : Shared) (H : Hp) (vs : List V) (Q : VK) (E : XK) (hr : Room 1 (A.deeper (envOfC "Web.__init__" (defScope s_W_init) s.heap.objs.size f cdv))) (h : spWeb C vs H Q E) :
    ∃ t, PSs (cxOf CX0 P w K mg base N_W_init "Web.__init__" (defScope s_W_init) f cdv A outer s H E).nox (defBody s_W_init) t ∧ t { nx := fun _ H' => Q .non H', rt := Q } (L2.start N_W_init vs) H := by
  have c_check_height : Cal P w K mg base 1 "check_height" spHeight := ok_height T
  have c_check_count : Cal P w K mg base 1 "check_count" spCount := ok_count T
  have c__check_edges : Cal P w K mg base 1 "_check_edges" (spChkEdges K) := ok_chkedges T
  refine ⟨_, pss_cons (ps_expr (pe_c c_check_height hr (by first | decide | omega) (by rfl) (pa_cons (pv 1) (pa_nil))))
 (pss_cons (ps_expr (pe_c c_check_count hr (by first | decide | omega) (by rfl) (pa_cons (pv 2) (pa_cons (ClX.pe_cval (pe_glob (v := .ref ζ.Web) (by rfl) T.mg_Web rfl)) (pa_nil)))))
 (pss_cons (ps_if (pt_cmpR op_gt (pe_callB call_len_seq (by rfl) T.n_len b_len (pa_cons (pv 3) (pa_nil))) (ClX.pe_cval (pe_glob (v := .ref ζ.Web) (by rfl) T.mg_Web rfl)) (nomark _))
 (pss_never)
 (pss_nil))
 (pss_cons (ps_expr (pe_c c__check_edges hr (by first | decide | omega) (by rfl) (pa_cons (pv 1) (pa_cons (pv 2) (pa_cons (pv 3) (pa_nil))))))
 (pss_cons (ps_fld (pv 0) (pv 1) rfl)
 (pss_cons (ps_fld (pv 0) (pv 2) rfl)
 (pss_one (ps_fld (pv 0) (pe_callTy call_tuple_of (by rfl) T.n_tuple b_tuple (pa_cons (pe_callB (cr_sortQ (d := 3) (B := 64) (by decide)) (by rfl) T.n_sorted b_sorted (pa_cons (pv 3) pa_nil)) (pa_nil))) rfl))))))), ?_⟩
  obtain ⟨x, a, dx, h, n, ts, es, rfl, hx, ha, hR, hh, hn, hl, hok, hnd, kk⟩ := h
  have hS : Sq K H a (ts.map V.ref) := by
    rcases ha with ha | ha
    · exact .inl (SqL.of ha)
    · exact .inr (SqT.of ha)
  have nax : a ≠ x := by
    rcases ha with ha | ha
    · exact ne_of ha hx (by intro z; cases z)
    · exact ne_of ha hx (by intro z; cases z)
  obtain ⟨mc, u, cr, cv⟩ := T.cv_Web_MOST_NODES
  obtain ⟨mc2, u2, cr2, cv2⟩ := T.cv_Web_MOST_EDGES
  refine ⟨_, rfl, h, rfl, hh, fun H1 s1 => ?_⟩
  refine ⟨_, rfl, ζ.Web, mc, _, u, rfl, cr, cv, n, 9, rfl, hn.1, hn.2, ?_⟩
  refine ⟨_, rfl, a, _, rfl, hS.same s1, ζ.Web, mc2, _, u2, rfl, cr2, cv2, _, _, rfl, rfl, _, rfl, ?_⟩
  rw [List.length_map, hR.1]
  refine ite2 (fun c => absurd (of_decide_eq_true c) (by omega)) (fun _ => ?_)
  refine ⟨_, rfl, _, rfl, _, rfl, h, n, a, ts, es, rfl, hS.same s1, hR.same s1, hok, hnd, hl, fun H2 s2 => ?_⟩
  have s02 := s1.trans s2
  have hx2 := s02 _ _ hx
  refine ⟨_, rfl, _, rfl, x, C, dx, _, rfl, hx2, cl, na1, (by show 0 < 1000; decide), ?_⟩
  have k3 : Keep x H (upd H2 x (.ins C dx (putF "height" (V.int h) []))) := s02.keep.upd
  refine ⟨_, rfl, _, rfl, x, C, dx, _, rfl, upd_same, cl, na2, (by show 1 < 1000; decide), ?_⟩
  rw [upd_upd]
  have k4 : Keep x H (upd H2 x (.ins C dx (putF "size" (V.int n) (putF "height" (V.int h) [])))) := s02.keep.upd
  have hx4 : (upd H2 x (.ins C dx (putF "size" (V.int n) (putF "height" (V.int h) [])))) x = some (.ins C dx (putF "size" (V.int n) (putF "height" (V.int h) []))) := upd_same
  generalize upd H2 x (.ins C dx (putF "size" (V.int n) (putF "height" (V.int h) []))) = H4 at k4 hx4 ⊢
  have hR4 : RowsH H4 ts es := ⟨hR.1, fun k t e a b => k4 _ (ne_of (hR.2 k t e a b) hx (by intro z; cases z)) _ (hR.2 k t e a b)⟩
  have hS4 := hS.keep k4 nax
  refine ⟨_, rfl, a, ts.map V.ref, rfl, hS4, (by rw [List.length_map, hR.1]; omega), fun y hy => ?_, fun ys p perm pw hp => ?_⟩
  · obtain ⟨t, ht, rfl⟩ := List.mem_map.mp hy
    obtain ⟨j, hj⟩ := List.mem_iff_getElem?.mp ht
    obtain ⟨e, ee, he⟩ := hR4.getT hj
    obtain ⟨b1, b2⟩ := edge_bd (by omega) hn.2 (hok e (List.mem_of_getElem? ee))
    exact ⟨e, ⟨t, rfl, SqT.of he⟩, b1, b2⟩
  obtain ⟨us, rfl, pu, hU, pss⟩ := hR4.perm perm
  have rowU : ∀ t ∈ us, TupI K H4 (.ref t) (rowH H4 t) := fun t ht => by
    obtain ⟨j, hj⟩ := List.mem_iff_getElem?.mp ht
    obtain ⟨e, _, he⟩ := hU.getT hj
    exact ⟨t, rfl, by rw [rowH_of he]; exact SqT.of he⟩
  have okU : ∀ t ∈ us, EdgeOk h n (rowH H4 t) := fun t ht => hok _ (pss.mem_iff.mp (List.mem_map.mpr ⟨t, ht, rfl⟩))
  have pw2 : (us.map (rowH H4)).Pairwise elt := by
    rw [List.pairwise_map]
    have nd3 := List.pairwise_map.mp (pss.nodup_iff.mpr hnd)
    have pw1 := List.pairwise_map.mp pw
    refine List.Pairwise.imp_of_mem (fun {u v} hu hv hw => ?_) (pw1.and nd3)
    exact elt_code (by omega) hn.2 (okU u hu) (okU v hv) (hw.1 _ _ (rowU u hu) (rowU v hv)) hw.2
  have npx : x ≠ p := ne_of_none hx4 hp
  refine ⟨p, _, rfl, .inl ⟨SqL.of upd_same, fun te hte => ?_⟩⟩
  have hx5 := (same_new (o := .lst (us.map V.ref)) hp) _ _ hx4
  have npt : x ≠ te := ne_of_none hx5 hte
  refine ⟨_, rfl, x, C, dx, _, rfl, (same_new hte) _ _ hx5, cl, na3, (by show 2 < 1000; decide), ?_⟩
  refine kk _ (us.map (rowH H4)) (((k4.new hp).new hte).upd) ⟨dx, te, us, ?_, ?_, ?_⟩ pss pw2
  · rw [upd_same]; rfl
  · rw [upd_ne npt.symm, upd_same]
  · refine ⟨hU.1, fun k t e a b => ?_⟩
    have := hU.2 k t e a b
    rw [upd_ne (ne_of this hx4 (by intro z; cases z)), upd_ne (ne_of_none ((same_new (o := .lst (us.map V.ref)) hp) _ _ this) hte), upd_ne (ne_of_none this hp)]
    exact this
theorem ok_web (T : Txt P K mg ζ) : Mak P w K mg base 2 "Web" ζ.Web (spWeb ζ.Web) :=
  T.mk_Web.mak sc_W_init (fun vs H Q E h => by obtain ⟨x, a, dx, h, n, ts, es, rfl, _⟩ := h; rfl) (fun f cdv A outer s H vs Q E hr h => body_web T T.cl_Web T.na_Web_height T.na_Web_size T.na_Web_edges f cdv A outer s H vs Q E hr h)
def spOut (C : Addr) : Sp := fun vs H Q _ => ∃ (x : Addr) (h n v : Int) (ss : List (List Int)), vs = [.ref x, .int v] ∧ WebAt C H x h n ss ∧ (∀ e ∈ ss, EdgeOk h n e) ∧ ss.length ≤ 63 ∧ (0 ≤ v ∧ v < n) ∧ ∀ H' b us, Same H H' → H' b = some (.tup (us.map V.ref)) → RowsH H' us (ss.filter fun e => decide (e.head? = some v)) → Q (.ref b) H'
def spNode : Sp := fun vs H Q _ => ∃ (m u : Int), vs = [.int m, .int u] ∧ 0 ≤ u ∧ u < m ∧ Q .non H
theorem ok_node (T : Txt P K mg ζ) : Cal P w K mg base 1 "check_node" spNode := by
  refine T.d_check_node.cal sc_check_node (fun vs H Q E h => ?_) (fun f cdv A outer s H vs Q E hr h => ⟨_, pss_one (ps_if (pt_not (pt_chain op_le op_lt (pe_int) (pv 1) (pv 0) ))
 (pss_never)
 (pss_nil)), ?_⟩)
  · obtain ⟨m, u, rfl, _⟩ := h; rfl
  obtain ⟨m, u, rfl, u0, u1, kk⟩ := h
  refine ⟨_, rfl, _, _, rfl, rfl, _, rfl, ?_⟩
  refine ite2 (fun c => ?_) (fun c => absurd (decide_eq_true u0) c)
  refine ⟨_, rfl, _, _, rfl, rfl, _, rfl, ?_⟩
  refine ite2 (fun c => ?_) (fun _ => kk)
  rw [decide_eq_true u1] at c; cases c
theorem ok_out (T : Txt P K mg ζ) : Met P w K mg base 2 ζ.Web "out" (spOut ζ.Web) := by
  have c_check_node : Cal P w K mg base 1 "check_node" spNode := ok_node T
  refine T.mt_W_out.met T.cl_Web sc_W_out (fun vs H Q E h => ?_) (fun f cdv A outer s H vs Q E hr h => ⟨_, pss_cons (ps_expr (pe_c c_check_node hr (by first | decide | omega) (by rfl) (pa_cons (pe_fld (pv 0) rfl) (pa_cons (pv 1) (pa_nil)))))
 (pss_one (ps_ret (pe_callTy call_tuple_of (by rfl) T.n_tuple b_tuple (pa_cons (pe_lc (own := [("edge", 2)]) (g := gName 2)  rfl sc_W_out.nd (pi_tup (pe_fld (pv 0) rfl)) (blkOk_by (N := N_W_out) (sc := defScope s_W_out) (by decide +kernel)) (fun _ _ _ _ _ => pg_name (i := 2) sc_W_out.nd rfl (Or.inl rfl)) (fun _ _ _ _ _ => pts_one (pt_cmpR op_eq (pe_ix (ix_tupK (K := K) rfl) (pv 2) pe_int (fun _ _ => rfl)) (pv 1) (nomark _))) (fun _ _ _ _ _ => pv 2)) (pa_nil))))), ?_⟩)
  · obtain ⟨x, h, n, v, ss, rfl, _⟩ := h; rfl
  obtain ⟨x, h, n, v, ss, rfl, WA, hok, hl, hv, kk⟩ := h
  obtain ⟨dx, te, us, h1, h2, h3⟩ := id WA
  refine ⟨_, rfl, x, ζ.Web, dx, _, _, rfl, h1, T.cl_Web, T.na_Web_size, rfl, _, rfl, _, v, rfl, hv.1, hv.2, ?_⟩
  refine ⟨_, rfl, x, ζ.Web, dx, _, _, rfl, h1, T.cl_Web, T.na_Web_edges, rfl, te, rfl, ⟨_, SqT.of h2⟩, fun D hD => ?_⟩
  refine lc_tup (K := K) (a := te) (xs := us.map V.ref) (fun i H' => Same H H' ∧ ∃ ws, H' D = some (.lst (ws.map V.ref)) ∧ RowsH H ws ((ss.take i).filter fun e => decide (e.head? = some v))) ⟨same_new hD, [], upd_same, RowsH.nil⟩ (fun i H' _ h => SqT.of (h.1 _ _ h2)) ?_ ?_
  · rintro i y H2 hy ⟨s2, ws, hD2, hW⟩
    rw [List.getElem?_map] at hy
    cases q : us[i]? with
    | none => rw [q] at hy; cases hy
    | some t =>
    rw [q] at hy; cases hy
    obtain ⟨e, ee, he⟩ := h3.getT q
    obtain ⟨s0, r0, t0, rfl, _⟩ := hok e (List.mem_of_getElem? ee)
    have et : ss.take (i + 1) = ss.take i ++ [[s0, r0, t0]] := by rw [List.take_succ, ee]; rfl
    refine ⟨rfl, _, rfl, t, _, _, _, rfl, rfl, SqT.of (s2 _ _ he), rfl, _, rfl, rfl, _, rfl, ?_⟩
    have em : decide (V.int s0 = V.int v) = decide (s0 = v) := by simp
    rw [em]
    refine ite_b (fun c => ?_) (fun c => ?_)
    · have wl : ws.length ≤ 63 := by
        have := List.length_filter_le (fun e : List Int => decide (e.head? = some v)) (ss.take i)
        rw [← hW.1, List.length_take] at this; omega
      have c1 : decide ([s0, r0, t0].head? = some v) = true := by simp; exact of_decide_eq_true c
      refine ⟨_, rfl, _, hD2, (by rw [List.length_map, sizeLine_eq]; omega), fun b o e => ?_, ws ++ [t], ?_, ?_⟩
      · rw [upd_ne (ne_of_none e hD)]; exact s2 _ _ e
      · rw [upd_same, List.map_append]; rfl
      · rw [et, List.filter_append, List.filter_cons, List.filter_nil, if_pos c1]
        exact hW.snoc he
    · have c1 : ¬ decide ([s0, r0, t0].head? = some v) = true := by
        intro z; simp at z; rw [decide_eq_true z] at c; cases c
      refine ⟨s2, ws, hD2, ?_⟩
      rw [et, List.filter_append, List.filter_cons, List.filter_nil, if_neg c1, List.append_nil]
      exact hW
  · rintro H2 ⟨s2, ws, hD2, hW⟩
    rw [List.length_map, h3.1, List.take_length] at hW
    refine ⟨D, _, rfl, .inl ⟨SqL.of hD2, fun b hb => ?_⟩⟩
    exact kk _ b ws (s2.new hb) upd_same ((hW.same s2).same (same_new hb))
end
end LR

set_option Elab.async false
set_option maxRecDepth 100000
set_option linter.all false
set_option maxHeartbeats 4000000
namespace LR
open PySem PySem.Spec PyProof.Rows L2
section
variable {P : Program} {w : World} {K : PySem.W.Frag} {mg : Str → Option Value} {base : Heap} {ζ : Cs}
def spChkOwn : Sp := fun vs H Q _ => ∃ os : List Bool, vs = [.str (strO os)] ∧ 1 ≤ os.length ∧ os.length ≤ 9 ∧ ∀ H', Same H H' → Q .non H'
theorem ok_chkown (T : Txt P K mg ζ) : Cal P w K mg base 1 "_check_owners" spChkOwn := by
  refine T.d__check_owners.cal sc__check_owners (fun vs H Q E h => ?_) (fun f cdv A outer s H vs Q E hr h => ⟨_, pss_cons (ps_if (pt_not (pt_chain op_le op_le (pe_int) (pe_callB call_len_str (by rfl) T.n_len b_len (pa_cons (pv 0) pa_nil)) (ClX.pe_cval (pe_glob (v := .ref ζ.Web) (by rfl) T.mg_Web rfl)) ))
 (pss_never)
 (pss_nil))
 (pss_one (ps_if (pt_val (pe_callB (cr_any rfl) (by rfl) T.n_any b_any (pa_cons (pe_lc (own := [("owner", 1)]) (g := gName 1) (tt := tYes)  rfl sc__check_owners.nd (pi_str (pv 0)) (blkOk_by (N := N__check_owners) (sc := defScope s__check_owners) (by decide +kernel)) (fun _ _ _ _ _ => pg_name (i := 1) sc__check_owners.nd rfl (Or.inl rfl)) (fun _ _ _ _ _ => pts_nil) (fun _ _ _ _ _ => pe_cmpR (op_notInK (K := K) rfl) (pv 1) (pe_tup (pa_cons (pe_str) (pa_cons (pe_str) (pa_nil)))) rfl)) (pa_nil))))
 (pss_never)
 (pss_nil))), ?_⟩)
  · obtain ⟨os, rfl, _⟩ := h; rfl
  obtain ⟨os, rfl, h1, h9, kk⟩ := h
  obtain ⟨mc, u, cr, cv⟩ := T.cv_Web_MOST_NODES
  have hle := strO_len os
  refine ⟨_, rfl, _, rfl, (by rw [hle, sizeLine_eq]; omega), _, _, rfl, rfl, _, rfl, ite2 (fun _ => ?_) (fun c => absurd (decide_eq_true (by rw [hle]; omega)) c)⟩
  refine ⟨ζ.Web, mc, _, u, rfl, cr, cv, _, _, rfl, rfl, _, rfl, ite2 (fun c => ?_) (fun _ => ?_)⟩
  · rw [hle, decide_eq_true (by omega)] at c; cases c
  refine ⟨_, rfl, _, rfl, fun D hD => ?_⟩
  have hsz : (strO os).cps.size = os.length := hle
  refine lc_it (walk_str (z := strO os)) (fun i H' => Same H H' ∧ ∃ bs : List Bool, H' D = some (.lst (bs.map V.bl)) ∧ bs.length = i ∧ bs.any id = false) ⟨same_new hD, [], upd_same, rfl, rfl⟩ (fun _ _ _ _ => trivial) ?_ ?_
  · rintro i x H2 H3 hi ⟨s2, bs, hD2, hbl, hba⟩ ⟨rfl, c, hc, rfl⟩
    obtain ⟨b, hb, rfl⟩ := strO_getN hc
    refine ⟨rfl, _, rfl, (by show 2 ≤ sizeLine; decide), fun t ht => ?_⟩
    refine ⟨t, _, rfl, .inr (SqT.of upd_same), rfl, rfl, bs.map V.bl, ?_, ?_, fun q o e => ?_, bs ++ [false], ?_, ?_, ?_⟩
    · exact (same_new ht) _ _ hD2
    · rw [List.length_map, sizeLine_eq]; omega
    · rw [upd_ne (ne_of_none e hD), upd_ne (ne_of_none (s2 _ _ e) ht)]; exact s2 _ _ e
    · rw [upd_same, List.map_append]
      cases b <;> rfl
    · rw [List.length_append, hbl]; rfl
    · rw [List.any_append, hba]; rfl
  · rintro H2 ⟨s2, bs, hD2, hbl, hba⟩
    refine ⟨_, bs, rfl, SqL.of hD2, _, rfl, ?_⟩
    rw [hba]
    exact iteF (kk _ s2)
def spDead : Sp := fun vs H Q _ => ∃ (n : Nat) (te : Addr) (us : List Addr) (ss : List (List Int)), vs = [.int n, .ref te] ∧ n ≤ 9 ∧ H te = some (.tup (us.map V.ref)) ∧ RowsH H us ss ∧ ss.length ≤ 63 ∧ (∀ e ∈ ss, e.length = 3) ∧ (∀ v : Nat, v < n → ∃ e ∈ ss, e.head? = some (v : Int)) ∧ ∀ H', Same H H' → Q .non H'
theorem inV_ints (i : Int) (l : List Int) : inV (.int i) (l.map V.int) = decide (i ∈ l) := by
  unfold inV
  rw [List.any_map, Bool.eq_iff_iff, List.any_eq_true, decide_eq_true_eq]
  constructor
  · rintro ⟨j, hj, he⟩
    have : (j == i) = true := he
    rw [beq_iff_eq] at this
    subst this; exact hj
  · intro h
    exact ⟨i, h, by show (i == i) = true; simp⟩
theorem flat_ints (l : List Int) : (l.map V.int).all flatV = true := by
  rw [List.all_map, List.all_eq_true]
  intro _ _; rfl
theorem ok_dead (T : Txt P K mg ζ) : Cal P w K mg base 1 "_check_dead_ends" spDead := by
  refine T.d__check_dead_ends.cal sc__check_dead_ends (fun vs H Q E h => ?_) (fun f cdv A outer s H vs Q E hr h => ⟨_, pss_cons (ps_setLc (i := 2) (own := [("edge", 3)]) (g := gName 3) (tt := tYes)  rfl sc__check_dead_ends.nd rfl rfl (sw_true rfl rfl rfl (by decide +kernel)) (pi_tup (pv 1)) (blkOk_by (N := N__check_dead_ends) (sc := defScope s__check_dead_ends) (by decide +kernel)) (fun _ _ _ _ _ => pg_name (i := 3) sc__check_dead_ends.nd rfl (Or.inl rfl)) (fun _ _ _ _ _ => pts_nil) (fun _ _ _ _ _ => pe_ix (ix_tupK (K := K) rfl) (pv 3) pe_int (fun _ _ => rfl)))
 (pss_one (ps_for PassesOwn.never rfl (pi_range1 rfl T.n_range (pa_cons (pv 0) (pa_nil))) (pg_name (i := 4) sc__check_dead_ends.nd rfl (Or.inl rfl))
 (pss_one (ps_if (pt_cmpR op_notIn_seq (pv 4) (pv 2) rfl)
 (pss_never)
 (pss_nil))))), ?_⟩)
  · obtain ⟨n, te, us, ss, rfl, _⟩ := h; rfl
  obtain ⟨n, te, us, ss, rfl, n9, ht, hR, hl, h3, hd, kk⟩ := h
  refine ⟨_, rfl, ⟨te, rfl, ⟨_, SqT.of ht⟩, fun D hD => ?_⟩⟩
  refine lc_tup (K := K) (a := te) (xs := us.map V.ref) (fun i H' => Same H H' ∧ H' D = some (.lst (((ss.take i).map fun e => e.headD 0).map V.int))) ⟨same_new hD, upd_same⟩ (fun i H' _ h => SqT.of (h.1 _ _ ht)) ?_ ?_
  · rintro i y H2 hy ⟨s2, hD2⟩
    rw [List.getElem?_map] at hy
    cases q : us[i]? with
    | none => rw [q] at hy; cases hy
    | some t =>
    rw [q] at hy; cases hy
    obtain ⟨e, ee, he⟩ := hR.getT q
    have e3 := h3 e (List.mem_of_getElem? ee)
    obtain ⟨s0, r0, t0, rfl⟩ : ∃ a b c, e = [a, b, c] := by
      match e, e3 with
      | [a, b, c], _ => exact ⟨a, b, c, rfl⟩
    have et : ss.take (i + 1) = ss.take i ++ [[s0, r0, t0]] := by rw [List.take_succ, ee]; rfl
    refine ⟨rfl, _, rfl, t, _, _, _, rfl, rfl, SqT.of (s2 _ _ he), rfl, _, hD2, ?_, fun b o e => ?_, ?_⟩
    · rw [List.length_map, List.length_map, List.length_take, sizeLine_eq]; omega
    · rw [upd_ne (ne_of_none e hD)]; exact s2 _ _ e
    · rw [upd_same, et, List.map_append, List.map_append]; rfl
  · rintro H2 ⟨s2, hD2⟩
    rw [List.length_map, hR.1, List.take_length] at hD2
    refine ⟨_, rfl, _, rfl, by omega, by omega, ?_⟩
    refine for_range (lo := 0) (n := ((n : Int)).toNat) (fun i σ H' => Same H H' ∧ (∃ l : List Int, H' D = some (.lst (l.map V.int)) ∧ ∀ v : Nat, v < n → (v : Int) ∈ l) ∧ ∃ z3 z4 : Option V, σ = [some (.int n), some (.ref te), some (.ref D), z3, z4]) ⟨s2, ⟨_, hD2, fun v hv => ?_⟩, none, none, rfl⟩ ?_ ?_
    · obtain ⟨e, he, hh⟩ := hd v hv
      refine List.mem_map.mpr ⟨e, he, ?_⟩
      cases e with
      | nil => cases hh
      | cons a r => cases hh; rfl
    · rintro i σ H3 hi ⟨s3, ⟨l, hl3, hm⟩, z3, z4, rfl⟩
      rw [Int.toNat_natCast] at hi
      refine ⟨_, rfl, _, rfl, D, _, rfl, .inl (SqL.of hl3), rfl, flat_ints l, _, rfl, ?_⟩
      have := inV_ints (0 + (i : Nat)) l
      rw [this, Int.zero_add, decide_eq_true (hm i hi)]
      exact iteF ⟨s3, ⟨l, hl3, hm⟩, _, _, rfl⟩
    · rintro σ H3 ⟨s3, _⟩
      exact kk _ s3
def spGame (C : Addr) : Sp := fun vs H Q _ => ∃ (x a dx : Addr) (h : Int) (os : List Bool) (ts : List Addr) (es : List (List Int)), vs = [.ref x, .int h, .str (strO os), .ref a] ∧ H x = some (.ins C dx []) ∧ (H a = some (.lst (ts.map V.ref)) ∨ H a = some (.tup (ts.map V.ref))) ∧ RowsH H ts es ∧ (h = 1 ∨ h = 2 ∨ h = 3) ∧ (1 ≤ os.length ∧ os.length ≤ 9) ∧ es.length ≤ 63 ∧ (∀ e ∈ es, EdgeOk h os.length e) ∧ es.Nodup ∧ (∀ v : Nat, v < os.length → ∃ e ∈ es, e.head? = some (v : Int)) ∧ ∀ H' ss, Keep x H H' → GameAt C H' x h os ss → ss.Perm es → ss.Pairwise elt → Q .non H'
theorem ok_game (T : Txt P K mg ζ) : Mak P w K mg base 3 "Game" ζ.Game (spGame ζ.Game) := by
  have c__check_owners : Cal P w K mg base 1 "_check_owners" spChkOwn := ok_chkown T
  have c__check_dead_ends : Cal P w K mg base 1 "_check_dead_ends" spDead := ok_dead T
  have su_init : SupTo P w K mg base CX0 2 ζ.Game ζ.Game "__init__" (spWeb ζ.Game) := T.su_Game_init.to sc_W_init (fun vs H Q E h => by obtain ⟨x, a, dx, h, n, ts, es, rfl, _⟩ := h; rfl) (fun f cdv A outer s H vs Q E hr h => body_web T T.cl_Game T.na_Game_height T.na_Game_size T.na_Game_edges f cdv A outer s H vs Q E hr h)
  refine T.mk_Game.mak csc_G_init (fun vs H Q E h => ?_) (fun f cc cda fd A outer s H vs Q E S hr h => ⟨_, nss_cons (ns_ps (ps_expr (pe_c c__check_owners hr (by first | decide | omega) (by rfl) (pa_cons (pv 2) (pa_nil)))))
 (nss_cons (ns_expr (ne_supM (i := 0) S su_init hr (by first | decide | omega) pass0 (pa_cons (pv 1) (pa_cons (pe_callB call_len_str (by rfl) T.n_len b_len (pa_cons (pv 2) pa_nil)) (pa_cons (pv 3) (pa_nil))))))
 (nss_cons (ns_ps (ps_fld (pv 0) (pv 2) rfl))
 (nss_one (ns_ps (ps_expr (pe_c c__check_dead_ends hr (by first | decide | omega) (by rfl) (pa_cons (pe_fld (pv 0) rfl) (pa_cons (pe_fld (pv 0) rfl) (pa_nil))))))))), ?_⟩)
  · obtain ⟨x, a, dx, h, os, ts, es, rfl, _⟩ := h; rfl
  obtain ⟨x, a, dx, h, os, ts, es, rfl, hx, ha, hR, hh, hn, hl, hok, hnd, hdd, kk⟩ := h
  refine ⟨_, rfl, os, rfl, hn.1, hn.2, fun H1 s1 => ?_⟩
  have hx1 := s1 _ _ hx
  have hle := strO_len os
  refine ⟨x, dx, _, rfl, hx1, _, rfl, _, rfl, _, rfl, (by rw [hle, sizeLine_eq]; omega), _, rfl, ?_⟩
  rw [hle]
  refine ⟨x, a, dx, h, os.length, ts, es, rfl, hx1, ha.imp (s1 _ _) (s1 _ _), hR.same s1, hh, (by omega), hl, hok, hnd, fun H2 ss k2 WA perm pw => ?_⟩
  obtain ⟨dx2, te, us, w1, w2, w3⟩ := WA
  have nte : te ≠ x := ne_of w2 w1 (by intro z; cases z)
  refine ⟨_, rfl, _, rfl, x, ζ.Game, dx2, _, rfl, w1, T.cl_Game, T.na_Game_owners, (by show 3 < 1000; decide), ?_⟩
  have k3 : Keep x H (upd H2 x (.ins ζ.Game dx2 (putF "owners" (.str (strO os)) [("height", V.int h), ("size", V.int os.length), ("edges", .ref te)]))) := (s1.keep.trans k2).upd
  have g3 : GameAt ζ.Game (upd H2 x (.ins ζ.Game dx2 (putF "owners" (.str (strO os)) [("height", V.int h), ("size", V.int os.length), ("edges", .ref te)]))) x h os ss := by
    refine ⟨dx2, te, us, upd_same, ?_, w3.1, fun k t e a b => ?_⟩
    · rw [upd_ne nte]; exact w2
    · have := w3.2 k t e a b
      rw [upd_ne (ne_of this w1 (by intro z; cases z))]; exact this
  generalize upd H2 x (.ins ζ.Game dx2 (putF "owners" (.str (strO os)) [("height", V.int h), ("size", V.int os.length), ("edges", .ref te)])) = H3 at k3 g3 ⊢
  obtain ⟨dx3, te3, us3, v1, v2, v3⟩ := id g3
  refine ⟨_, rfl, x, ζ.Game, dx3, _, _, rfl, v1, T.cl_Game, T.na_Game_size, rfl, _, rfl, x, ζ.Game, dx3, _, _, rfl, v1, T.cl_Game, T.na_Game_edges, rfl, ?_⟩
  refine ⟨os.length, te3, us3, ss, rfl, hn.2, v2, v3, (by rw [perm.length_eq]; exact hl), fun e he => ?_, fun v hv => ?_, fun H4 s4 => kk H4 ss (k3.same s4) (g3.same s4) perm pw⟩
  · obtain ⟨_, _, _, rfl, _⟩ := hok e (perm.mem_iff.mp he); rfl
  · obtain ⟨e, he, hh⟩ := hdd v hv
    exact ⟨e, perm.mem_iff.mpr he, hh⟩
/-- edges and size stand in the instance's fields -/
def EdgesAt (C : Addr) (H : Hp) (x : Addr) (n : Int) (ss : List (List Int)) : Prop := ∃ dx fs te us, H x = some (.ins C dx fs) ∧ fs.lookup ("size" : Str) = some (.int n) ∧ fs.lookup ("edges" : Str) = some (.ref te) ∧ H te = some (.tup (us.map V.ref)) ∧ RowsH H us ss
def spOutG (C : Addr) : Sp := fun vs H Q _ => ∃ (x : Addr) (h n v : Int) (ss : List (List Int)), vs = [.ref x, .int v] ∧ EdgesAt C H x n ss ∧ (∀ e ∈ ss, EdgeOk h n e) ∧ ss.length ≤ 63 ∧ (0 ≤ v ∧ v < n) ∧ ∀ H' b us, Same H H' → H' b = some (.tup (us.map V.ref)) → RowsH H' us (ss.filter fun e => decide (e.head? = some v)) → Q (.ref b) H'
theorem body_out (T : Txt P K mg ζ) {C : Addr} (cl : Cls K C) (na2 : NoAttr K C "size") (na3 : NoAttr K C "edges") (f : Addr) (cdv : Value) (A : Around) (outer : List Env) (s : Shared) (H : Hp) (vs : List V) (Q : VK) (E : XK) (hr : Room 1 (A.deeper (envOfC "Web.out" (defScope s_W_out) s.heap.objs.size f cdv))) (h : spOutG C vs H Q E) :
    ∃ t, PSs (cxOf CX0 P w K mg base N_W_out "Web.out" (defScope s_W_out) f cdv A outer s H E).nox (defBody s_W_out) t ∧ t { nx := fun _ H' => Q .non H', rt := Q } (L2.start N_W_out vs) H := by
  have c_check_node : Cal P w K mg base 1 "check_node" spNode := ok_node T
  refine ⟨_, pss_cons (ps_expr (pe_c c_check_node hr (by first | decide | omega) (by rfl) (pa_cons (pe_fld (pv 0) rfl) (pa_cons (pv 1) (pa_nil)))))
 (pss_one (ps_ret (pe_callTy call_tuple_of (by rfl) T.n_tuple b_tuple (pa_cons (pe_lc (own := [("edge", 2)]) (g := gName 2)  rfl sc_W_out.nd (pi_tup (pe_fld (pv 0) rfl)) (blkOk_by (N := N_W_out) (sc := defScope s_W_out) (by decide +kernel)) (fun _ _ _ _ _ => pg_name (i := 2) sc_W_out.nd rfl (Or.inl rfl)) (fun _ _ _ _ _ => pts_one (pt_cmpR op_eq (pe_ix (ix_tupK (K := K) rfl) (pv 2) pe_int (fun _ _ => rfl)) (pv 1) (nomark _))) (fun _ _ _ _ _ => pv 2)) (pa_nil))))), ?_⟩
  obtain ⟨x, h, n, v, ss, rfl, WA, hok, hl, hv, kk⟩ := h
  obtain ⟨dx, fs, te, us, h1, f2, f3, h2, h3⟩ := id WA
  refine ⟨_, rfl, x, C, dx, _, _, rfl, h1, cl, na2, f2, _, rfl, _, v, rfl, hv.1, hv.2, ?_⟩
  refine ⟨_, rfl, x, C, dx, _, _, rfl, h1, cl, na3, f3, te, rfl, ⟨_, SqT.of h2⟩, fun D hD => ?_⟩
  refine lc_tup (K := K) (a := te) (xs := us.map V.ref) (fun i H' => Same H H' ∧ ∃ ws, H' D = some (.lst (ws.map V.ref)) ∧ RowsH H ws ((ss.take i).filter fun e => decide (e.head? = some v))) ⟨same_new hD, [], upd_same, RowsH.nil⟩ (fun i H' _ h => SqT.of (h.1 _ _ h2)) ?_ ?_
  · rintro i y H2 hy ⟨s2, ws, hD2, hW⟩
    rw [List.getElem?_map] at hy
    cases q : us[i]? with
    | none => rw [q] at hy; cases hy
    | some t =>
    rw [q] at hy; cases hy
    obtain ⟨e, ee, he⟩ := h3.getT q
    obtain ⟨s0, r0, t0, rfl, _⟩ := hok e (List.mem_of_getElem? ee)
    have et : ss.take (i + 1) = ss.take i ++ [[s0, r0, t0]] := by rw [List.take_succ, ee]; rfl
    refine ⟨rfl, _, rfl, t, _, _, _, rfl, rfl, SqT.of (s2 _ _ he), rfl, _, rfl, rfl, _, rfl, ?_⟩
    have em : decide (V.int s0 = V.int v) = decide (s0 = v) := by simp
    rw [em]
    refine ite_b (fun c => ?_) (fun c => ?_)
    · have wl : ws.length ≤ 63 := by
        have := List.length_filter_le (fun e : List Int => decide (e.head? = some v)) (ss.take i)
        rw [← hW.1, List.length_take] at this; omega
      have c1 : decide ([s0, r0, t0].head? = some v) = true := by simp; exact of_decide_eq_true c
      refine ⟨_, rfl, _, hD2, (by rw [List.length_map, sizeLine_eq]; omega), fun b o e => ?_, ws ++ [t], ?_, ?_⟩
      · rw [upd_ne (ne_of_none e hD)]; exact s2 _ _ e
      · rw [upd_same, List.map_append]; rfl
      · rw [et, List.filter_append, List.filter_cons, List.filter_nil, if_pos c1]
        exact hW.snoc he
    · have c1 : ¬ decide ([s0, r0, t0].head? = some v) = true := by
        intro z; simp at z; rw [decide_eq_true z] at c; cases c
      refine ⟨s2, ws, hD2, ?_⟩
      rw [et, List.filter_append, List.filter_cons, List.filter_nil, if_neg c1, List.append_nil]
      exact hW
  · rintro H2 ⟨s2, ws, hD2, hW⟩
    rw [List.length_map, h3.1, List.take_length] at hW
    refine ⟨D, _, rfl, .inl ⟨SqL.of hD2, fun b hb => ?_⟩⟩
    exact kk _ b ws (s2.new hb) upd_same ((hW.same s2).same (same_new hb))
theorem GameAt.edges {C H x h os ss} (g : GameAt C H x h os ss) : EdgesAt C H x os.length ss := by
  obtain ⟨dx, te, us, h1, h2, h3⟩ := g
  exact ⟨dx, _, te, us, h1, rfl, rfl, h2, h3⟩
theorem ok_gout (T : Txt P K mg ζ) : Met P w K mg base 3 ζ.Game "out" (spOutG ζ.Game) := by
  have su_out : SupTo P w K mg base CX0 2 ζ.Game ζ.Game "out" (spOutG ζ.Game) := T.su_Game_out.to sc_W_out (fun vs H Q E h => by obtain ⟨x, h, n, v, ss, rfl, _⟩ := h; rfl) (fun f cdv A outer s H vs Q E hr h => body_out T T.cl_Game T.na_Game_size T.na_Game_edges f cdv A outer s H vs Q E hr h)
  refine T.mt_G_out.met T.cl_Game csc_G_out (fun vs H Q E h => ?_) (fun f cc cda fd A outer s H vs Q E S hr h => ⟨_, nss_one (ns_ret (ne_supM (i := 0) S su_out hr (by first | decide | omega) pass0 (pa_cons (pv 1) (pa_nil)))), ?_⟩)
  · obtain ⟨x, h, n, v, ss, rfl, _⟩ := h; rfl
  obtain ⟨x, h, n, v, ss, rfl, WA, rest⟩ := h
  obtain ⟨dx, fs, te, us, h1, h2⟩ := id WA
  exact ⟨x, dx, fs, rfl, h1, _, rfl, x, h, n, v, ss, rfl, WA, rest⟩
end
end LR

set_option Elab.async false
set_option maxRecDepth 100000
set_option linter.all false
set_option maxHeartbeats 4000000
namespace LR
open PySem PySem.Spec PyProof.Rows L2
section
variable {P : Program} {w : World} {K : PySem.W.Frag} {mg : Str → Option Value} {base : Heap} {ζ : Cs}
def spWanting : Sp := fun vs H Q _ => ∃ r : Int, vs = [.int r] ∧ Q (.str (strO [decide (r % 2 = 0)])) H
theorem ok_wanting (T : Txt P K mg ζ) : Cal P w K mg base 1 "wanting" spWanting := by
  refine T.d_wanting.cal sc_wanting (fun vs H Q E h => ?_) (fun f cdv A outer s H vs Q E hr h => ⟨_, pss_one (ps_ret (pe_ifExp (pt_cmpR op_eq (pe_op op_mod (pv 0) (pe_int)) (pe_int) (nomark _)) (pe_str) (pe_str))), ?_⟩)
  · obtain ⟨r, rfl, _⟩ := h; rfl
  obtain ⟨r, rfl, kk⟩ := h
  refine ⟨_, rfl, _, _, rfl, rfl, (by show (0:Int) < _; decide), rfl, _, rfl, ?_⟩
  have em : decide (V.int (r % 2) = V.int 0) = decide (r % 2 = 0) := by simp
  show (if decide (V.int (r % 2) = V.int 0) = true then _ else _)
  rw [em]
  refine ite_b (fun c => ?_) (fun c => ?_)
  · rw [c] at kk; exact kk
  · rw [c] at kk; exact kk
theorem wr_snoc {pe : List (Option (List Int))} {l : List Nat} {c : Nat} {r : List Int} (er : pe.getD c none = some r) : wr pe (l ++ [c]) = wr pe l ++ [r] := by
  unfold wr
  rw [List.map_append]
  show _ ++ [(pe.getD c none).getD []] = _
  rw [er]; rfl
def ends (l : List Nat) : Prop := ∃ vis v, l = vis ++ [v] ∧ v ∈ vis
def rk (e : List Int) : Int := e.getD 1 0
/-- play where the walk comes back -/
def spPlay (C : Addr) : Sp := fun vs H Q _ => ∃ (g a : Addr) (h : Int) (os : List Bool) (v : Nat) (ss : List (List Int)) (ps : List V) (pe : List (Option (List Int))) (vis : List Nat) (u : Nat), vs = [.ref g, .ref a, .int v] ∧ GameAt C H g h os ss ∧ os.length ≤ 9 ∧ (h = 1 ∨ h = 2 ∨ h = 3) ∧ (∀ e ∈ ss, EdgeOk h os.length e) ∧ ss.length ≤ 63 ∧ H a = some (.lst ps) ∧ PlanH H ps pe ∧ pe.length = os.length ∧ v < os.length ∧ run (nxt ss pe) os.length [v] = vis ++ [u] ∧ u ∈ vis ∧
  ∀ H' t w c us ts m, Same H H' → H w = none → H c = none → w ≠ c → H' t = some (.tup [.str (strO [decide (m % 2 = 0)]), .ref w, .ref c]) → H' w = some (.lst (us.map V.ref)) → RowsH H' us (wr pe (vis.take (fix u vis))) → H' c = some (.lst (ts.map V.ref)) → RowsH H' ts (wr pe (vis.drop (fix u vis))) → m ∈ (wr pe (vis.drop (fix u vis))).map rk → (∀ y ∈ (wr pe (vis.drop (fix u vis))).map rk, y ≤ m) → Q (.ref t) H'
theorem ok_play (T : Txt P K mg ζ) : Cal P w K mg base 4 "play" (spPlay ζ.Game) := by
  have c_check_node : Cal P w K mg base 1 "check_node" spNode := ok_node T
  have c_wanting : Cal P w K mg base 1 "wanting" spWanting := ok_wanting T
  have c_G_out : Met P w K mg base 3 ζ.Game "out" (spOutG ζ.Game) := ok_gout T
  refine T.d_play.cal sc_play (fun vs H Q E h => ?_) (fun f cdv A outer s H vs Q E hr h => ⟨_, pss_cons (ps_expr (pe_c c_check_node hr (by first | decide | omega) (by rfl) (pa_cons (pe_fld (pv 0) rfl) (pa_cons (pv 2) (pa_nil)))))
 (pss_cons (ps_set (i := 3) sc_play.nd rfl (Or.inl rfl) (pe_lst (pa_nil)))
 (pss_cons (ps_set (i := 4) sc_play.nd rfl (Or.inl rfl) (pe_lst (pa_nil)))
 (pss_cons (ps_set (i := 5) sc_play.nd rfl (Or.inl rfl) (pv 2))
 (pss_cons (ps_while PassesOwn.never (pt_cmpR op_notIn_seq (pv 5) (pv 3) rfl)
 (pss_cons (ps_if (pt_cmpR (op_notInT (Room.u65 hr)) (pe_ix ix_list (pv 1) (pv 5) (fun _ _ => rfl)) (pe_mt c_G_out hr (by first | decide | omega) (pv 0) (pa_cons (pv 5) (pa_nil))) rfl)
 (pss_never)
 (pss_nil))
 (pss_cons (ps_expr (pe_bm PySem.F.plainAttrs_list PySem.F.slot_list_append PySem.F.type_list_append mt_append (pv 3) (pa_cons (pv 5) (pa_nil))))
 (pss_cons (ps_expr (pe_bm PySem.F.plainAttrs_list PySem.F.slot_list_append PySem.F.type_list_append mt_append (pv 4) (pa_cons (pe_ix ix_list (pv 1) (pv 5) (fun _ _ => rfl)) (pa_nil))))
 (pss_one (ps_set (i := 5) sc_play.nd rfl (Or.inl rfl) (pe_ix ix_tup (pe_ix ix_list (pv 1) (pv 5) (fun _ _ => rfl)) pe_int (fun _ _ => rfl))))))))
 (pss_cons (ps_set (i := 6) sc_play.nd rfl (Or.inl rfl) (pe_bm PySem.F.plainAttrs_list PySem.F.slot_list_index PySem.F.type_list_index mt_index (pv 3) (pa_cons (pv 5) (pa_nil))))
 (pss_cons (ps_set (i := 7) sc_play.nd rfl (Or.inl rfl) (pe_slice sl_list (pv 4) (po_some (pv 6)) (po_none)))
 (pss_one (ps_ret (pe_tup (pa_cons (pe_c c_wanting hr (by first | decide | omega) (by rfl) (pa_cons (pe_callB (cr_max rfl) (by rfl) T.n_max b_max (pa_cons (pe_lc (own := [("edge", 8)]) (g := gName 8) (tt := tYes)  rfl sc_play.nd (pi_list (pv 7)) (blkOk_by (N := N_play) (sc := defScope s_play) (by decide +kernel)) (fun _ _ _ _ _ => pg_name (i := 8) sc_play.nd rfl (Or.inl rfl)) (fun _ _ _ _ _ => pts_nil) (fun _ _ _ _ _ => pe_ix (ix_tupK (K := K) rfl) (pv 8) pe_int (fun _ _ => rfl))) pa_nil)) (pa_nil))) (pa_cons (pe_slice sl_list (pv 4) (po_none) (po_some (pv 6))) (pa_cons (pv 7) (pa_nil))))))))))))), ?_⟩)
  · obtain ⟨g, a, h, os, v, ss, ps, pe, vis, u, rfl, _⟩ := h; rfl
  obtain ⟨g, a, h, os, v, ss, ps, pe, vis, u, rfl, GA, n9, hh, hok, hl, ha, hP, hpl, hv, hrun, huv, kk⟩ := h
  obtain ⟨dx, te, us, w1, w2, w3⟩ := id GA
  refine ⟨_, rfl, g, ζ.Game, dx, _, _, rfl, w1, T.cl_Game, T.na_Game_size, rfl, _, rfl, _, (v : Int), rfl, by omega, by omega, ?_⟩
  refine ⟨(by show 0 ≤ sizeLine; decide), fun VV hVV => ⟨(by show 0 ≤ sizeLine; decide), fun WW hWW => ⟨_, rfl, ?_⟩⟩⟩
  have nVW : VV ≠ WW := ne_of_none (upd_same (o := .lst [])) hWW
  have WW0 : H WW = none := (same_new (o := .lst []) hVV).free hWW
  refine ⟨fun m σ H' => ∃ (vis0 : List Nat) (c : Nat) (us : List Addr), σ = [some (.ref g), some (.ref a), some (.int v), some (.ref VV), some (.ref WW), some (.int c), none, none, none] ∧ Same H H' ∧ H' VV = some (.lst (vis0.map natV)) ∧ H' WW = some (.lst (us.map V.ref)) ∧ RowsH H' us (wr pe vis0) ∧ (∀ e ∈ wr pe vis0, e.length = 3) ∧ vis0.Nodup ∧ (∀ x ∈ vis0, x < os.length) ∧ c < os.length ∧ run (nxt ss pe) os.length [v] = (if c ∈ vis0 then vis0 ++ [c] else run (nxt ss pe) (os.length - vis0.length) (vis0 ++ [c])) ∧ m = os.length - vis0.length, ⟨_, [], v, [], rfl, (same_new hVV).new hWW, (by rw [upd_ne nVW]; exact upd_same), upd_same, RowsH.nil, (fun e z => by cases z), List.nodup_nil, (fun x z => by cases z), hv, rfl, rfl⟩, ?_⟩
  rintro m σ H2 ⟨vis0, c, us0, rfl, s2, hV2, hW2, hR2, h3, nd, lt, hc, hrn, rfl⟩
  have t1 := inV_nats c vis0
  refine ⟨_, rfl, _, rfl, VV, _, rfl, .inl (SqL.of hV2), rfl, flat_nats vis0, _, rfl, ?_⟩
  show (if (!inV (natV c) (vis0.map natV)) = true then _ else _)
  rw [t1]
  have vl := nodup_lt nd lt
  refine ite_b (fun d => ?_) (fun d => ?_)
  · have cn : c ∉ vis0 := fun z => by rw [decide_eq_true z] at d; cases d
    have nd1 : (vis0 ++ [c]).Nodup := nodup_snoc nd cn
    have lt1 : ∀ x ∈ vis0 ++ [c], x < os.length := lt_snoc lt hc
    have vl1 := nodup_lt nd1 lt1
    rw [List.length_append, List.length_singleton] at vl1
    rw [if_neg cn, show os.length - vis0.length = (os.length - (vis0 ++ [c]).length) + 1 by rw [List.length_append, List.length_singleton]; omega, run_succ] at hrn
    obtain ⟨x, hx, ex⟩ := (hP.same s2).get (k := c) (by rw [hpl]; exact hc)
    have hx2 : atI ps (c : Int) = some x := atI_nat hx
    have ha2 := s2 _ _ ha
    have ngo : nxt ss pe c ≠ none := fun z => by
      rw [z] at hrn
      have e := hrn.symm.trans hrun
      obtain ⟨e1, e2⟩ := List.append_inj' e rfl
      have : c = u := by simpa using e2
      subst this; subst e1
      exact cn huv
    obtain ⟨r, er, rin, rhd, g2, hg2, eg2⟩ : ∃ r, pe.getD c none = some r ∧ r ∈ ss ∧ r.head? = some (c : Int) ∧ ∃ g2, nxt ss pe c = some g2 ∧ g2 = (r.getD 2 0).toNat := by
      unfold nxt at ngo ⊢
      cases z : pe.getD c none with
      | none => rw [z] at ngo; exact absurd rfl ngo
      | some r =>
        rw [z] at ngo
        simp only at ngo ⊢
        by_cases q : r ∈ ss ∧ r.head? = some (c : Int)
        · exact ⟨r, rfl, q.1, q.2, _, if_pos q, rfl⟩
        · rw [if_neg q] at ngo; exact absurd rfl ngo
    have g2lt := nxt_lt hok hg2
    obtain ⟨s0, r0, t0, rfl, hs0, hr0, ht0⟩ := hok r rin
    have eg2 : g2 = t0.toNat := eg2
    rw [er] at ex
    rcases ex with ⟨_, z⟩ | ⟨tr, r, rfl, z, htr, _⟩
    · cases z
    cases z
    rw [hg2] at hrn
    refine ⟨fun σ' H' => ∃ m', m' < _ ∧ (fun m σ H' => ∃ (vis0 : List Nat) (c : Nat) (us : List Addr), σ = [some (.ref g), some (.ref a), some (.int v), some (.ref VV), some (.ref WW), some (.int c), none, none, none] ∧ Same H H' ∧ H' VV = some (.lst (vis0.map natV)) ∧ H' WW = some (.lst (us.map V.ref)) ∧ RowsH H' us (wr pe vis0) ∧ (∀ e ∈ wr pe vis0, e.length = 3) ∧ vis0.Nodup ∧ (∀ x ∈ vis0, x < os.length) ∧ c < os.length ∧ run (nxt ss pe) os.length [v] = (if c ∈ vis0 then vis0 ++ [c] else run (nxt ss pe) (os.length - vis0.length) (vis0 ++ [c])) ∧ m = os.length - vis0.length) m' σ' H', fun σ' H' h => h, ?_⟩
    have GA2 := GA.same s2
    refine ⟨_, rfl, _, rfl, a, _, _, _, rfl, rfl, SqL.of ha2, hx2, _, rfl, g, dx, _, rfl, s2 _ _ w1, rfl, _, rfl, g, h, os.length, c, ss, rfl, GA2.edges, hok, hl, ⟨by omega, by omega⟩, fun H3 b ub s3 hb hU => ?_⟩
    have hV3 := s3 _ _ hV2
    have hW3 := s3 _ _ hW2
    have ex3 : EntH H3 (.ref tr) (some [s0, r0, t0]) := .inr ⟨tr, _, rfl, rfl, s3 _ _ htr, rfl⟩
    refine ⟨entP (some [s0, r0, t0]), _, ex3.dp, hU.dpT hb, shaped_ent _, shaped_edgesT _, _, rfl, ?_⟩
    have an := any_ent (ss.filter fun e => decide (e.head? = some (c : Int))) (some [s0, r0, t0])
    rw [an, decide_eq_true ⟨_, rfl, List.mem_filter.mpr ⟨rin, decide_eq_true rhd⟩⟩]
    refine iteF ?_
    refine ⟨_, rfl, .inl ⟨rfl, _, SqL.of hV3⟩, _, rfl, VV, _, _, rfl, rfl, hV3, (by rw [List.length_map, sizeLine_eq]; omega), ?_⟩
    have VV0 : H VV = none := hVV
    have k4 : Keep VV H3 (upd H3 VV (.lst (vis0.map natV ++ [.int c]))) := Keep.refl.upd
    have hV4 : (upd H3 VV (.lst (vis0.map natV ++ [.int c]))) VV = some (.lst ((vis0 ++ [c]).map natV)) := by rw [upd_same, List.map_append]; rfl
    generalize upd H3 VV (.lst (vis0.map natV ++ [.int c])) = H4 at k4 hV4 ⊢
    have s4 : Same H H4 := fun b o e => k4 _ (ne_of_none e VV0) _ ((s2.trans s3) _ _ e)
    have hW4 := k4 _ nVW.symm _ hW3
    have hR4 : RowsH H4 us0 (wr pe vis0) := (hR2.same s3).keep k4 ⟨_, hV3⟩
    have ha4 := s4 _ _ ha
    have htr4 := k4 _ (ne_of (s3 _ _ htr) hV3 (by intro z; cases z)) _ (s3 _ _ htr)
    refine ⟨_, rfl, .inl ⟨rfl, _, SqL.of hW4⟩, _, rfl, _, rfl, a, _, _, _, rfl, rfl, SqL.of ha4, hx2, WW, _, _, rfl, rfl, hW4, (by rw [List.length_map, hR4.1, wr, List.length_map, sizeLine_eq]; omega), ?_⟩
    have k5 : Keep WW H4 (upd H4 WW (.lst (us0.map V.ref ++ [.ref tr]))) := Keep.refl.upd
    have hW5 : (upd H4 WW (.lst (us0.map V.ref ++ [.ref tr]))) WW = some (.lst ((us0 ++ [tr]).map V.ref)) := by rw [upd_same, List.map_append]; rfl
    generalize upd H4 WW (.lst (us0.map V.ref ++ [.ref tr])) = H5 at k5 hW5 ⊢
    have s5 : Same H H5 := fun b o e => k5 _ (ne_of_none e WW0) _ (s4 _ _ e)
    have htr5 := k5 _ (ne_of htr4 hW4 (by intro z; cases z)) _ htr4
    refine ⟨_, rfl, _, rfl, a, _, _, _, rfl, rfl, SqL.of (s5 _ _ ha), hx2, tr, _, _, _, rfl, rfl, SqT.of htr5, rfl, ?_⟩
    refine ⟨_, ?_, vis0 ++ [c], g2, us0 ++ [tr], ?_, s5, k5 _ nVW _ hV4, hW5, ?_, ?_, nd1, lt1, g2lt, hrn, rfl⟩
    · rw [List.length_append, List.length_singleton]; omega
    · rw [eg2]
      show [_, _, _, _, _, some (V.int t0), _, _, _] = _
      rw [Int.toNat_of_nonneg ht0.1]
    · rw [wr_snoc er]
      exact (hR4.keep k5 ⟨_, hW4⟩).snoc htr5
    · rw [wr_snoc er]
      intro e he2
      rcases List.mem_append.mp he2 with z | z
      · exact h3 e z
      · have : e = [s0, r0, t0] := by simpa using z
        subst this; rfl
  · have cin : c ∈ vis0 := by
      by_cases z : c ∈ vis0
      · exact z
      · rw [decide_eq_false z] at d; cases d
    rw [if_pos cin] at hrn
    obtain ⟨e1, e2⟩ := List.append_inj' (hrn.symm.trans hrun) rfl
    have : c = u := by simpa using e2
    subst this; subst e1
    have fl := fix_lt cin
    have ul : us0.length = vis0.length := by rw [hR2.1, wr, List.length_map]
    refine ⟨_, rfl, .inl ⟨rfl, _, SqL.of hV2⟩, _, rfl, VV, vis0.map natV, natV c, fix c vis0, natV c, rfl, rfl, SqL.of hV2, rfl, flat_nats vis0, ixn1 cin, ixn2, ixn3, ?_⟩
    have e1 : cutV (us0.map V.ref) (some ((fix c vis0 : Nat) : Int)) none = (us0.drop (fix c vis0)).map V.ref := by rw [cut_from (by rw [List.length_map]; omega), List.map_drop]
    have e2 : cutV (us0.map V.ref) none (some ((fix c vis0 : Nat) : Int)) = (us0.take (fix c vis0)).map V.ref := by rw [cut_to (by rw [List.length_map]; omega), List.map_take]
    refine ⟨_, rfl, _, rfl, _, rfl, WW, _, rfl, SqL.of hW2, fun C hC => ?_⟩
    rw [e1]
    have s3 : Same H2 (upd H2 C (.lst ((us0.drop (fix c vis0)).map V.ref))) := same_new hC
    have hC3 : (upd H2 C (.lst ((us0.drop (fix c vis0)).map V.ref))) C = some (.lst ((us0.drop (fix c vis0)).map V.ref)) := upd_same
    generalize upd H2 C (.lst ((us0.drop (fix c vis0)).map V.ref)) = H3 at s3 hC3 ⊢
    have hR3 := hR2.same s3
    have hRd := hR3.drop (fix c vis0)
    have ewd : (wr pe vis0).drop (fix c vis0) = wr pe (vis0.drop (fix c vis0)) := by unfold wr; rw [List.map_drop]
    have ewt : (wr pe vis0).take (fix c vis0) = wr pe (vis0.take (fix c vis0)) := by unfold wr; rw [List.map_take]
    rw [ewd] at hRd
    have dl : (vis0.drop (fix c vis0)).length ≤ 9 := by rw [List.length_drop]; omega
    refine ⟨_, rfl, C, rfl, ⟨_, SqL.of hC3⟩, fun D hD => ?_⟩
    refine lc_list (K := K) (a := C) (xs := (us0.drop (fix c vis0)).map V.ref) (fun i H' => Same H3 H' ∧ H' D = some (.lst ((((wr pe (vis0.drop (fix c vis0))).take i).map rk).map V.int))) ⟨same_new hD, upd_same⟩ (fun i H' _ h => SqL.of (h.1 _ _ hC3)) ?_ ?_
    · rintro i y H4 hy ⟨s4, hD4⟩
      rw [List.getElem?_map] at hy
      obtain ⟨t, ht, rfl⟩ := Option.map_eq_some_iff.mp hy
      obtain ⟨e, ee, he⟩ := hRd.getT ht
      have e3 : e.length = 3 := h3 e (List.mem_of_mem_drop (by rw [← ewd] at ee; exact List.mem_of_getElem? ee))
      obtain ⟨s0, r0, t0, rfl⟩ : ∃ a b c, e = [a, b, c] := by
        match e, e3 with
        | [a, b, c], _ => exact ⟨a, b, c, rfl⟩
      have et : (wr pe (vis0.drop (fix c vis0))).take (i + 1) = (wr pe (vis0.drop (fix c vis0))).take i ++ [[s0, r0, t0]] := by rw [List.take_succ, ee]; rfl
      refine ⟨rfl, _, rfl, t, _, _, _, rfl, rfl, SqT.of (s4 _ _ he), rfl, _, hD4, ?_, fun b o e => ?_, ?_⟩
      · rw [List.length_map, List.length_map, List.length_take, wr, List.length_map, sizeLine_eq]; omega
      · rw [upd_ne (ne_of_none e hD)]; exact s4 _ _ e
      · rw [upd_same, et, List.map_append, List.map_append]; rfl
    · rintro H4 ⟨s4, hD4⟩
      rw [List.length_map, hRd.1, List.take_length] at hD4
      refine ⟨D, _, rfl, SqL.of hD4, ?_, fun m hm hmx => ?_⟩
      · rw [List.length_map, wr, List.length_map, List.length_drop]; omega
      refine ⟨m, rfl, _, rfl, _, rfl, _, rfl, WW, _, rfl, SqL.of (s4 _ _ (s3 _ _ hW2)), fun Wt hWt => ?_⟩
      rw [e2]
      have s5 := s4.trans (same_new (o := .lst ((us0.take (fix c vis0)).map V.ref)) hWt)
      refine ⟨_, rfl, (by show 3 ≤ sizeLine; decide), fun t ht => ?_⟩
      have t2 := s2.trans s3
      have hRt := hR3.take (fix c vis0)
      rw [ewt] at hRt
      have C4 := s4 _ _ hC3
      refine kk _ t Wt C _ _ m ((t2.trans s5).new ht) ((t2.trans s4).free hWt) (s2.free hC) (ne_of_none C4 hWt).symm upd_same ((same_new ht) _ _ upd_same) ((hRt.same s5).same (same_new ht)) ((same_new ht) _ _ (s5 _ _ hC3)) ((hRd.same s5).same (same_new ht)) hm hmx
end
end LR

set_option Elab.async false
set_option maxRecDepth 100000
set_option linter.all false
set_option maxHeartbeats 4000000
namespace LR
open PySem PySem.Spec PyProof.Rows L2
section
variable {P : Program} {w : World} {K : PySem.W.Frag} {mg : Str → Option Value} {base : Heap} {ζ : Cs}
def eNode (C : Addr) (u : Int) (E : XK) (H : Hp) : Prop := ∀ d, H d = none → E (.ref C) (some d) (upd H d (.xd [("node", .int u)]))
def spNodeX (D : Addr) : Sp := fun vs H Q E => ∃ (m u : Int), vs = [.int m, .int u] ∧ u.natAbs < 2 ^ 1900 ∧ (0 ≤ u ∧ u < m → Q .non H) ∧ (¬ (0 ≤ u ∧ u < m) → eNode D u E H)
theorem ok_nodeX (T : Txt P K mg ζ) : CalX P w K mg base 3 "check_node" (spNodeX ζ.NoSuchNode) := by
  have e_NoSuchNode : ErrOk P w K mg base "NoSuchNode" ζ.NoSuchNode "node" := err_NoSuchNode T
  refine T.d_check_node.calX sc_check_node (fun vs H Q E h => ?_) (fun f cdv A outer s H vs Q E hr h => ⟨_, pss_one (ps_if (pt_not (pt_chain op_le op_lt (pe_int) (pv 1) (pv 0) ))
 (pss_one (ps_raise rfl (takes_of rfl rfl rfl rfl) (pmk_err e_NoSuchNode hr (by first | decide | omega) (pa_cons (pv 1) (pa_nil)) rfl)))
 (pss_nil)), ?_⟩)
  · obtain ⟨m, u, rfl, _⟩ := h; rfl
  obtain ⟨m, u, rfl, hu, good, bad⟩ := h
  refine ⟨_, rfl, _, _, rfl, rfl, _, rfl, ?_⟩
  refine ite2 (fun c => ?_) (fun c => ?_)
  · have c := of_decide_eq_true c
    refine ⟨_, rfl, _, _, rfl, rfl, _, rfl, ?_⟩
    refine ite_b (fun c2 => ?_) (fun c2 => ?_)
    · have c2 : ¬ u < m := fun q => by rw [decide_eq_true q] at c2; cases c2
      exact ⟨_, rfl, mkE hu fun d hd => bad (fun q => c2 q.2) d hd⟩
    · have c2 : u < m := by
        by_cases q : u < m
        · exact q
        · rw [decide_eq_false q] at c2; cases c2
      exact good ⟨c, c2⟩
  · have c : ¬ 0 ≤ u := fun q => c (decide_eq_true q)
    exact ⟨_, rfl, iteT ⟨_, rfl, mkE hu fun d hd => bad (fun q => c q.1) d hd⟩⟩
theorem small_n {v : Nat} (h : v ≤ 1000000) : (v : Int).natAbs < 2 ^ 1900 := Nat.lt_of_le_of_lt (by omega : (v : Int).natAbs ≤ 1000000) (Nat.lt_of_lt_of_le (by decide : 1000000 < 2 ^ 20) (Nat.pow_le_pow_right (by decide) (by decide)))
/-- play that refuses -/
def spPlayX (C D : Addr) : Sp := fun vs H Q E => ∃ (g a : Addr) (h : Int) (os : List Bool) (v : Nat) (ss : List (List Int)) (ps : List V) (pe : List (Option (List Int))) (vis : List Nat) (u : Nat), vs = [.ref g, .ref a, .int v] ∧ GameAt C H g h os ss ∧ os.length ≤ 9 ∧ (h = 1 ∨ h = 2 ∨ h = 3) ∧ (∀ e ∈ ss, EdgeOk h os.length e) ∧ ss.length ≤ 63 ∧ H a = some (.lst ps) ∧ PlanH H ps pe ∧ pe.length = os.length ∧ v < os.length ∧ run (nxt ss pe) os.length [v] = vis ++ [u] ∧ u ∉ vis ∧ u < os.length ∧ ∀ H', Same H H' → eNode D u E H'
def spPlayN (C D : Addr) : Sp := fun vs H Q E => ∃ (g a : Addr) (h : Int) (os : List Bool) (v : Int) (ss : List (List Int)), vs = [.ref g, .ref a, .int v] ∧ GameAt C H g h os ss ∧ v.natAbs < 2 ^ 1900 ∧ ¬ (0 ≤ v ∧ v < os.length) ∧ eNode D v E H
def spPlayB (C D D2 : Addr) : Sp := fun vs H Q E => spPlayX C D vs H Q E ∨ spPlayN C D2 vs H Q E
theorem ok_playX (T : Txt P K mg ζ) : CalX P w K mg base 5 "play" (spPlayB ζ.Game ζ.BadPlan ζ.NoSuchNode) := by
  have cx_check_node : CalX P w K mg base 3 "check_node" (spNodeX ζ.NoSuchNode) := ok_nodeX T
  have c_wanting : Cal P w K mg base 1 "wanting" spWanting := ok_wanting T
  have c_G_out : Met P w K mg base 3 ζ.Game "out" (spOutG ζ.Game) := ok_gout T
  have e_BadPlan : ErrOk P w K mg base "BadPlan" ζ.BadPlan "node" := err_BadPlan T
  refine T.d_play.calX sc_play (fun vs H Q E h => ?_) (fun f cdv A outer s H vs Q E hr h => ⟨_, pss_cons (ps_expr (pe_cT cx_check_node hr (by first | decide | omega) (takes_of rfl rfl rfl rfl) (by rfl) (pa_cons (pe_fld (pv 0) rfl) (pa_cons (pv 2) (pa_nil)))))
 (pss_cons (ps_set (i := 3) sc_play.nd rfl (Or.inl rfl) (pe_lst (pa_nil)))
 (pss_cons (ps_set (i := 4) sc_play.nd rfl (Or.inl rfl) (pe_lst (pa_nil)))
 (pss_cons (ps_set (i := 5) sc_play.nd rfl (Or.inl rfl) (pv 2))
 (pss_cons (ps_while (passes_of rfl) (pt_cmpR op_notIn_seq (pv 5) (pv 3) rfl)
 (pss_cons (ps_if (pt_cmpR (op_notInT (Room.u65 hr)) (pe_ix ix_list (pv 1) (pv 5) (fun _ _ => rfl)) (pe_mt c_G_out hr (by first | decide | omega) (pv 0) (pa_cons (pv 5) (pa_nil))) rfl)
 (pss_one (ps_raise rfl (takes_of rfl rfl rfl rfl) (pmk_err e_BadPlan hr (by first | decide | omega) (pa_cons (pv 5) (pa_nil)) rfl)))
 (pss_nil))
 (PSs.nox (pss_cons (ps_expr (pe_bm PySem.F.plainAttrs_list PySem.F.slot_list_append PySem.F.type_list_append mt_append (pv 3) (pa_cons (pv 5) (pa_nil))))
 (pss_cons (ps_expr (pe_bm PySem.F.plainAttrs_list PySem.F.slot_list_append PySem.F.type_list_append mt_append (pv 4) (pa_cons (pe_ix ix_list (pv 1) (pv 5) (fun _ _ => rfl)) (pa_nil))))
 (pss_one (ps_set (i := 5) sc_play.nd rfl (Or.inl rfl) (pe_ix ix_tup (pe_ix ix_list (pv 1) (pv 5) (fun _ _ => rfl)) pe_int (fun _ _ => rfl)))))))))
 (PSs.nox (pss_cons (ps_set (i := 6) sc_play.nd rfl (Or.inl rfl) (pe_bm PySem.F.plainAttrs_list PySem.F.slot_list_index PySem.F.type_list_index mt_index (pv 3) (pa_cons (pv 5) (pa_nil))))
 (pss_cons (ps_set (i := 7) sc_play.nd rfl (Or.inl rfl) (pe_slice sl_list (pv 4) (po_some (pv 6)) (po_none)))
 (pss_one (ps_ret (pe_tup (pa_cons (pe_c c_wanting hr (by first | decide | omega) (by rfl) (pa_cons (pe_callB (cr_max rfl) (by rfl) T.n_max b_max (pa_cons (pe_lc (own := [("edge", 8)]) (g := gName 8) (tt := tYes)  rfl sc_play.nd (pi_list (pv 7)) (blkOk_by (N := N_play) (sc := defScope s_play) (by decide +kernel)) (fun _ _ _ _ _ => pg_name (i := 8) sc_play.nd rfl (Or.inl rfl)) (fun _ _ _ _ _ => pts_nil) (fun _ _ _ _ _ => pe_ix (ix_tupK (K := K) rfl) (pv 8) pe_int (fun _ _ => rfl))) pa_nil)) (pa_nil))) (pa_cons (pe_slice sl_list (pv 4) (po_none) (po_some (pv 6))) (pa_cons (pv 7) (pa_nil)))))))))))))), ?_⟩)
  · rcases h with ⟨g, a, h, os, v, ss, ps, pe, vis, u, rfl, _⟩ | ⟨g, a, h, os, v, ss, rfl, _⟩ <;> rfl
  rcases h with ⟨g, a, h, os, v, ss, ps, pe, vis, u, rfl, GA, n9, hh, hok, hl, ha, hP, hpl, hv, hrun, huv, hul, kk⟩ | ⟨g, a, h, os, v, ss, rfl, GA, hs, bad, er⟩
  · obtain ⟨dx, te, us, w1, w2, w3⟩ := id GA
    refine ⟨_, rfl, g, ζ.Game, dx, _, _, rfl, w1, T.cl_Game, T.na_Game_size, rfl, _, rfl, _, (v : Int), rfl, small_n (by omega), fun _ => ?_, fun q => absurd ⟨by omega, by omega⟩ q⟩
    refine ⟨(by show 0 ≤ sizeLine; decide), fun VV hVV => ⟨(by show 0 ≤ sizeLine; decide), fun WW hWW => ⟨_, rfl, ?_⟩⟩⟩
    have nVW : VV ≠ WW := ne_of_none (upd_same (o := .lst [])) hWW
    have WW0 : H WW = none := (same_new (o := .lst []) hVV).free hWW
    refine ⟨fun m σ H' => ∃ (vis0 : List Nat) (c : Nat) (us : List Addr), σ = [some (.ref g), some (.ref a), some (.int v), some (.ref VV), some (.ref WW), some (.int c), none, none, none] ∧ Same H H' ∧ H' VV = some (.lst (vis0.map natV)) ∧ H' WW = some (.lst (us.map V.ref)) ∧ RowsH H' us (wr pe vis0) ∧ (∀ e ∈ wr pe vis0, e.length = 3) ∧ vis0.Nodup ∧ (∀ x ∈ vis0, x < os.length) ∧ c < os.length ∧ run (nxt ss pe) os.length [v] = (if c ∈ vis0 then vis0 ++ [c] else run (nxt ss pe) (os.length - vis0.length) (vis0 ++ [c])) ∧ m = os.length - vis0.length, ⟨_, [], v, [], rfl, (same_new hVV).new hWW, (by rw [upd_ne nVW]; exact upd_same), upd_same, RowsH.nil, (fun e z => by cases z), List.nodup_nil, (fun x z => by cases z), hv, rfl, rfl⟩, ?_⟩
    rintro m σ H2 ⟨vis0, c, us0, rfl, s2, hV2, hW2, hR2, h3, nd, lt, hc, hrn, rfl⟩
    have t1 := inV_nats c vis0
    refine ⟨_, rfl, _, rfl, VV, _, rfl, .inl (SqL.of hV2), rfl, flat_nats vis0, _, rfl, ?_⟩
    show (if (!inV (natV c) (vis0.map natV)) = true then _ else _)
    rw [t1]
    have vl := nodup_lt nd lt
    refine ite_b (fun d => ?_) (fun d => ?_)
    · have cn : c ∉ vis0 := fun z => by rw [decide_eq_true z] at d; cases d
      have nd1 : (vis0 ++ [c]).Nodup := nodup_snoc nd cn
      have lt1 : ∀ x ∈ vis0 ++ [c], x < os.length := lt_snoc lt hc
      have vl1 := nodup_lt nd1 lt1
      rw [List.length_append, List.length_singleton] at vl1
      rw [if_neg cn, show os.length - vis0.length = (os.length - (vis0 ++ [c]).length) + 1 by rw [List.length_append, List.length_singleton]; omega, run_succ] at hrn
      obtain ⟨x, hx, ex⟩ := (hP.same s2).get (k := c) (by rw [hpl]; exact hc)
      have hx2 : atI ps (c : Int) = some x := atI_nat hx
      have ha2 := s2 _ _ ha
      by_cases ngo : nxt ss pe c = none
      · rw [ngo] at hrn
        obtain ⟨e1, e2⟩ := List.append_inj' (hrn.symm.trans hrun) rfl
        have : c = u := by simpa using e2
        subst this; subst e1
        refine ⟨fun σ' H' => False, (fun σ' H' z => z.elim), ?_⟩
        have GA2 := GA.same s2
        refine ⟨_, rfl, _, rfl, a, _, _, _, rfl, rfl, SqL.of ha2, hx2, _, rfl, g, dx, _, rfl, s2 _ _ w1, rfl, _, rfl, g, h, os.length, c, ss, rfl, GA2.edges, hok, hl, ⟨by omega, by omega⟩, fun H3 b ub s3 hb hU => ?_⟩
        refine ⟨entP (pe.getD c none), _, (ex.same s3).dp, hU.dpT hb, shaped_ent _, shaped_edgesT _, _, rfl, ?_⟩
        have an := any_ent (ss.filter fun e => decide (e.head? = some (c : Int))) (pe.getD c none)
        have no : ¬ ∃ r, pe.getD c none = some r ∧ r ∈ ss.filter fun e => decide (e.head? = some (c : Int)) := fun ⟨r, er, hr2⟩ => by
          obtain ⟨q1, q2⟩ := List.mem_filter.mp hr2
          unfold nxt at ngo
          rw [er] at ngo
          simp only at ngo
          rw [if_pos ⟨q1, of_decide_eq_true q2⟩] at ngo
          cases ngo
        rw [an, decide_eq_false no]
        exact iteT ⟨_, rfl, mkE (small_n (by omega)) fun d hd => kk _ (s2.trans s3) d hd⟩
      obtain ⟨r, er, rin, rhd, g2, hg2, eg2⟩ : ∃ r, pe.getD c none = some r ∧ r ∈ ss ∧ r.head? = some (c : Int) ∧ ∃ g2, nxt ss pe c = some g2 ∧ g2 = (r.getD 2 0).toNat := by
        unfold nxt at ngo ⊢
        cases z : pe.getD c none with
        | none => rw [z] at ngo; exact absurd rfl ngo
        | some r =>
          rw [z] at ngo
          simp only at ngo ⊢
          by_cases q : r ∈ ss ∧ r.head? = some (c : Int)
          · exact ⟨r, rfl, q.1, q.2, _, if_pos q, rfl⟩
          · rw [if_neg q] at ngo; exact absurd rfl ngo
      have g2lt := nxt_lt hok hg2
      obtain ⟨s0, r0, t0, rfl, hs0, hr0, ht0⟩ := hok r rin
      have eg2 : g2 = t0.toNat := eg2
      rw [er] at ex
      rcases ex with ⟨_, z⟩ | ⟨tr, r, rfl, z, htr, _⟩
      · cases z
      cases z
      rw [hg2] at hrn
      refine ⟨fun σ' H' => ∃ m', m' < _ ∧ (fun m σ H' => ∃ (vis0 : List Nat) (c : Nat) (us : List Addr), σ = [some (.ref g), some (.ref a), some (.int v), some (.ref VV), some (.ref WW), some (.int c), none, none, none] ∧ Same H H' ∧ H' VV = some (.lst (vis0.map natV)) ∧ H' WW = some (.lst (us.map V.ref)) ∧ RowsH H' us (wr pe vis0) ∧ (∀ e ∈ wr pe vis0, e.length = 3) ∧ vis0.Nodup ∧ (∀ x ∈ vis0, x < os.length) ∧ c < os.length ∧ run (nxt ss pe) os.length [v] = (if c ∈ vis0 then vis0 ++ [c] else run (nxt ss pe) (os.length - vis0.length) (vis0 ++ [c])) ∧ m = os.length - vis0.length) m' σ' H', fun σ' H' h => h, ?_⟩
      have GA2 := GA.same s2
      refine ⟨_, rfl, _, rfl, a, _, _, _, rfl, rfl, SqL.of ha2, hx2, _, rfl, g, dx, _, rfl, s2 _ _ w1, rfl, _, rfl, g, h, os.length, c, ss, rfl, GA2.edges, hok, hl, ⟨by omega, by omega⟩, fun H3 b ub s3 hb hU => ?_⟩
      have hV3 := s3 _ _ hV2
      have hW3 := s3 _ _ hW2
      have ex3 : EntH H3 (.ref tr) (some [s0, r0, t0]) := .inr ⟨tr, _, rfl, rfl, s3 _ _ htr, rfl⟩
      refine ⟨entP (some [s0, r0, t0]), _, ex3.dp, hU.dpT hb, shaped_ent _, shaped_edgesT _, _, rfl, ?_⟩
      have an := any_ent (ss.filter fun e => decide (e.head? = some (c : Int))) (some [s0, r0, t0])
      rw [an, decide_eq_true ⟨_, rfl, List.mem_filter.mpr ⟨rin, decide_eq_true rhd⟩⟩]
      refine iteF ?_
      refine ⟨_, rfl, .inl ⟨rfl, _, SqL.of hV3⟩, _, rfl, VV, _, _, rfl, rfl, hV3, (by rw [List.length_map, sizeLine_eq]; omega), ?_⟩
      have VV0 : H VV = none := hVV
      have k4 : Keep VV H3 (upd H3 VV (.lst (vis0.map natV ++ [.int c]))) := Keep.refl.upd
      have hV4 : (upd H3 VV (.lst (vis0.map natV ++ [.int c]))) VV = some (.lst ((vis0 ++ [c]).map natV)) := by rw [upd_same, List.map_append]; rfl
      generalize upd H3 VV (.lst (vis0.map natV ++ [.int c])) = H4 at k4 hV4 ⊢
      have s4 : Same H H4 := fun b o e => k4 _ (ne_of_none e VV0) _ ((s2.trans s3) _ _ e)
      have hW4 := k4 _ nVW.symm _ hW3
      have hR4 : RowsH H4 us0 (wr pe vis0) := (hR2.same s3).keep k4 ⟨_, hV3⟩
      have ha4 := s4 _ _ ha
      have htr4 := k4 _ (ne_of (s3 _ _ htr) hV3 (by intro z; cases z)) _ (s3 _ _ htr)
      refine ⟨_, rfl, .inl ⟨rfl, _, SqL.of hW4⟩, _, rfl, _, rfl, a, _, _, _, rfl, rfl, SqL.of ha4, hx2, WW, _, _, rfl, rfl, hW4, (by rw [List.length_map, hR4.1, wr, List.length_map, sizeLine_eq]; omega), ?_⟩
      have k5 : Keep WW H4 (upd H4 WW (.lst (us0.map V.ref ++ [.ref tr]))) := Keep.refl.upd
      have hW5 : (upd H4 WW (.lst (us0.map V.ref ++ [.ref tr]))) WW = some (.lst ((us0 ++ [tr]).map V.ref)) := by rw [upd_same, List.map_append]; rfl
      generalize upd H4 WW (.lst (us0.map V.ref ++ [.ref tr])) = H5 at k5 hW5 ⊢
      have s5 : Same H H5 := fun b o e => k5 _ (ne_of_none e WW0) _ (s4 _ _ e)
      have htr5 := k5 _ (ne_of htr4 hW4 (by intro z; cases z)) _ htr4
      refine ⟨_, rfl, _, rfl, a, _, _, _, rfl, rfl, SqL.of (s5 _ _ ha), hx2, tr, _, _, _, rfl, rfl, SqT.of htr5, rfl, ?_⟩
      refine ⟨_, ?_, vis0 ++ [c], g2, us0 ++ [tr], ?_, s5, k5 _ nVW _ hV4, hW5, ?_, ?_, nd1, lt1, g2lt, hrn, rfl⟩
      · rw [List.length_append, List.length_singleton]; omega
      · rw [eg2]
        show [_, _, _, _, _, some (V.int t0), _, _, _] = _
        rw [Int.toNat_of_nonneg ht0.1]
      · rw [wr_snoc er]
        exact (hR4.keep k5 ⟨_, hW4⟩).snoc htr5
      · rw [wr_snoc er]
        intro e he2
        rcases List.mem_append.mp he2 with z | z
        · exact h3 e z
        · have : e = [s0, r0, t0] := by simpa using z
          subst this; rfl

    · have cin : c ∈ vis0 := by
        by_cases z : c ∈ vis0
        · exact z
        · rw [decide_eq_false z] at d; cases d
      rw [if_pos cin] at hrn
      obtain ⟨e1, e2⟩ := List.append_inj' (hrn.symm.trans hrun) rfl
      have : c = u := by simpa using e2
      subst this; subst e1
      exact absurd cin huv
  · obtain ⟨dx, te, us, w1, w2, w3⟩ := id GA
    exact ⟨_, rfl, g, ζ.Game, dx, _, _, rfl, w1, T.cl_Game, T.na_Game_size, rfl, _, rfl, _, v, rfl, hs, fun ok => absurd ok bad, fun _ => er⟩
end
end LR

set_option Elab.async false
set_option maxRecDepth 100000
set_option linter.all false
set_option maxHeartbeats 4000000
namespace LR
open PySem PySem.Spec PyProof.Rows L2
section
variable {P : Program} {w : World} {K : PySem.W.Frag} {mg : Str → Option Value} {base : Heap} {ζ : Cs}
def spWrongE : Sp := fun vs H Q _ => ∃ (E0 a : Addr) (h : Int) (n v : Nat) (ts : List Addr) (es : List (List Int)) (ps : List V) (pe : List (Option (List Int))), vs = [.ref E0, .ref a, .int v] ∧ H E0 = some (.lst (ts.map V.ref)) ∧ RowsH H ts es ∧ (∀ e ∈ es, EdgeOk h n e) ∧ H a = some (.lst ps) ∧ PlanH H ps pe ∧ v < pe.length ∧ Q (.bl (decide (nxt es pe v = none))) H
theorem ok_wrongE (T : Txt P K mg ζ) : Cal P w K mg base 1 "_law_wrong_entry" spWrongE := by
  refine T.d_wrong_entry.cal sc_wrong_entry (fun vs H Q E h => ?_) (fun f cdv A outer s H vs Q E hr h => ⟨_, pss_one (ps_ret (pe_or (pe_cmpR op_isN (pe_ix ix_list (pv 1) (pv 2) (fun _ _ => rfl)) (pe_non) (nomark _)) (pe_or (pe_cmpR (op_notInD (Room.u65 hr)) (pe_ix ix_list (pv 1) (pv 2) (fun _ _ => rfl)) (pv 0) rfl) (pe_one (pe_cmpR op_ne (pe_ix ix_tup (pe_ix ix_list (pv 1) (pv 2) (fun _ _ => rfl)) pe_int (fun _ _ => rfl)) (pv 2) (nomark _)))))), ?_⟩)
  · obtain ⟨E0, a, h, n, v, ts, es, ps, pe, rfl, _⟩ := h; rfl
  obtain ⟨E0, a, h, n, v, ts, es, ps, pe, rfl, hE, hT, hok, ha, hP, hv, kk⟩ := h
  obtain ⟨x, hx, ex⟩ := hP.get hv
  have hx2 : atI ps (v : Int) = some x := atI_nat hx
  refine ⟨_, rfl, _, rfl, a, _, _, _, rfl, rfl, SqL.of ha, hx2, rfl, _, rfl, ?_⟩
  have en : decide (x = V.non) = decide (pe.getD v none = none) := by
    rcases ex with ⟨rfl, q⟩ | ⟨t, r, rfl, q, _, _⟩
    · rw [q]; rfl
    · rw [q]; simp
  rw [en]
  refine ite_b (fun c => ?_) (fun c => ?_)
  · have : decide (nxt es pe v = none) = true := decide_eq_true (nxt_none0 (of_decide_eq_true c))
    rw [this] at kk
    exact kk
  · obtain ⟨r, er⟩ : ∃ r, pe.getD v none = some r := by
      cases z : pe.getD v none with
      | none => rw [z] at c; cases c
      | some r => exact ⟨r, rfl⟩
    refine ⟨_, rfl, _, rfl, a, _, _, _, rfl, rfl, SqL.of ha, hx2, _, rfl, entP (pe.getD v none), _, ex.dp, hT.dp hE, shaped_ent _, shaped_edges es, _, rfl, ?_⟩
    rw [any_ent, er]
    have e1 : decide (∃ r1, some r = some r1 ∧ r1 ∈ es) = decide (r ∈ es) := by simp
    rw [e1]
    refine ite_b (fun d => ?_) (fun d => ?_)
    · have nin : r ∉ es := fun z => by rw [decide_eq_true z] at d; cases d
      have : decide (nxt es pe v = none) = true := decide_eq_true (nxt_noneR er fun q => nin q.1)
      rw [this] at kk
      exact kk
    · have rin : r ∈ es := by
        by_cases z : r ∈ es
        · exact z
        · rw [decide_eq_false z] at d; cases d
      obtain ⟨s0, r0, t0, rfl, _⟩ := hok r rin
      rw [er] at ex
      rcases ex with ⟨_, z⟩ | ⟨t, r, rfl, z, ht, _⟩
      · cases z
      cases z
      refine ⟨_, rfl, _, rfl, a, _, _, _, rfl, rfl, SqL.of ha, hx2, t, _, _, _, rfl, rfl, SqT.of ht, rfl, _, rfl, rfl, ?_⟩
      have : (!decide (V.int s0 = V.int (v : Int))) = decide (nxt es pe v = none) := by
        by_cases q : s0 = (v : Int)
        · have h1 : nxt es pe v ≠ none := by rw [nxt_someR er ⟨rin, by rw [q]; rfl⟩]; exact fun z => nomatch z
          rw [decide_eq_false h1, q]; simp
        · have h1 : nxt es pe v = none := nxt_noneR er fun z => q (by have := z.2; simpa using this)
          have : ¬ V.int s0 = V.int (v : Int) := fun z => q (by injection z)
          rw [decide_eq_false this, decide_eq_true h1]; rfl
      show Q (.bl (!decide (V.int s0 = V.int (v : Int)))) H
      rw [this]; exact kk
def spLine : Sp := fun vs H Q _ => ∃ (E0 a : Addr) (h : Int) (v : Nat) (ts : List Addr) (es : List (List Int)) (ps : List V) (pe : List (Option (List Int))), vs = [.ref E0, .ref a, .int v] ∧ H E0 = some (.lst (ts.map V.ref)) ∧ RowsH H ts es ∧ (∀ e ∈ es, EdgeOk h pe.length e) ∧ H a = some (.lst ps) ∧ PlanH H ps pe ∧ v < pe.length ∧ pe.length ≤ 9 ∧ ∀ H' L, Same H H' → H L = none → H' L = some (.lst ((run (nxt es pe) pe.length [v]).map natV)) → Q (.ref L) H'
theorem ok_line (T : Txt P K mg ζ) : Cal P w K mg base 2 "_law_line" spLine := by
  have c_wrong_entry : Cal P w K mg base 1 "_law_wrong_entry" spWrongE := ok_wrongE T
  refine T.d_line.cal sc_line (fun vs H Q E h => ?_) (fun f cdv A outer s H vs Q E hr h => ⟨_, pss_cons (ps_set (i := 3) sc_line.nd rfl (Or.inl rfl) (pe_lst (pa_cons (pv 2) (pa_nil))))
 (pss_cons (ps_for PassesOwn.never rfl (pi_range1 rfl T.n_range (pa_cons (pe_callB call_len_seq (by rfl) T.n_len b_len (pa_cons (pv 1) (pa_nil))) (pa_nil))) (pg_name (i := 4) sc_line.nd rfl (Or.inl rfl))
 (pss_cons (ps_if (pt_val (pe_c c_wrong_entry hr (by first | decide | omega) (by rfl) (pa_cons (pv 0) (pa_cons (pv 1) (pa_cons (pe_ix ix_list (pv 3) (pv 4) (fun _ _ => rfl)) (pa_nil))))))
 (pss_one (ps_break))
 (pss_nil))
 (pss_cons (ps_set (i := 5) sc_line.nd rfl (Or.inl rfl) (pe_ix ix_tup (pe_ix ix_list (pv 1) (pe_ix ix_list (pv 3) (pv 4) (fun _ _ => rfl)) (fun _ _ => rfl)) pe_int (fun _ _ => rfl)))
 (pss_cons (ps_expr (pe_bm PySem.F.plainAttrs_list PySem.F.slot_list_append PySem.F.type_list_append mt_append (pv 3) (pa_cons (pv 5) (pa_nil))))
 (pss_one (ps_if (pt_cmpR op_in_seq (pv 5) (pe_slice sl_list (pv 3) (po_none) (po_some (pe_op op_add (pv 4) (pe_int)))) rfl)
 (pss_one (ps_break))
 (pss_nil)))))))
 (pss_one (ps_ret (pv 3)))), ?_⟩)
  · obtain ⟨E0, a, h, v, ts, es, ps, pe, rfl, _⟩ := h; rfl
  obtain ⟨E0, a, h, v, ts, es, ps, pe, rfl, hE, hT, hok, ha, hP, hv, n9, kk⟩ := h
  refine ⟨_, rfl, (by show 1 ≤ sizeLine; decide), fun L hL => ⟨_, rfl, a, _, rfl, .inl (SqL.of ((same_new hL) _ _ ha)), _, rfl, by have := hP.1; omega, by have := hP.1; omega, ?_⟩⟩
  rw [hP.1]
  refine for_range (lo := 0) (n := ((pe.length : Nat) : Int).toNat) (fun i σ H' => Same H H' ∧ ∃ (l : List Nat) (c : Nat) (z4 z5 : Option V), l.length = i ∧ H' L = some (.lst ((l ++ [c]).map natV)) ∧ c < pe.length ∧ (∀ x ∈ l, x < pe.length) ∧ run (nxt es pe) pe.length [v] = run (nxt es pe) (pe.length - i) (l ++ [c]) ∧ σ = [some (.ref E0), some (.ref a), some (.int v), some (.ref L), z4, z5]) ⟨same_new hL, [], v, none, none, rfl, upd_same, hv, (fun x z => by cases z), rfl, rfl⟩ ?_ ?_
  · rintro i σ H2 hi ⟨s2, l, c, z4, z5, hl, hL2, hc, hlt, hrn, rfl⟩
    rw [Int.toNat_natCast] at hi
    rw [Int.zero_add]
    have atc : ((l ++ [c]).map natV)[i]? = some (natV c) := by rw [List.getElem?_map, List.getElem?_append_right (by omega), hl, Nat.sub_self]; rfl
    rw [show pe.length - i = (pe.length - (i + 1)) + 1 by omega, run_succ] at hrn
    refine ⟨_, rfl, _, rfl, _, rfl, _, rfl, L, _, _, natV c, rfl, rfl, SqL.of hL2, atI_nat atc, E0, a, h, pe.length, c, ts, es, ps, pe, rfl, s2 _ _ hE, hT.same s2, hok, s2 _ _ ha, hP.same s2, hc, ?_⟩
    refine ⟨_, rfl, ite_b (fun d => ?_) (fun d => ?_)⟩
    · rw [of_decide_eq_true d] at hrn
      refine ⟨_, rfl, kk _ L s2 hL ?_⟩
      rw [hL2, hrn]
    · obtain ⟨r, er, rin, rhd, hg2⟩ := nxt_row (of_decide_eq_false d)
      have g2lt := nxt_lt hok hg2
      obtain ⟨s0, r0, t0, rfl, hs0, hr0, ht0⟩ := hok r rin
      obtain ⟨x, hx, ex⟩ := (hP.same s2).get hc
      rw [er] at ex
      rcases ex with ⟨_, z⟩ | ⟨tr, r, rfl, z, htr, _⟩
      · cases z
      cases z
      have hg2 : nxt es pe c = some t0.toNat := hg2
      have g2lt : t0.toNat < pe.length := g2lt
      have et0 : (t0.toNat : Int) = t0 := Int.toNat_of_nonneg ht0.1
      rw [hg2] at hrn
      refine ⟨_, rfl, _, rfl, _, rfl, L, _, _, natV c, rfl, rfl, SqL.of hL2, atI_nat atc, a, _, (c : Int), _, rfl, rfl, SqL.of (s2 _ _ ha), atI_nat hx, tr, _, _, _, rfl, rfl, SqT.of htr, rfl, ?_⟩
      refine ⟨_, rfl, .inl ⟨rfl, _, SqL.of hL2⟩, _, rfl, L, _, _, rfl, rfl, hL2, (by rw [List.length_map, List.length_append, sizeLine_eq]; simp; omega), ?_⟩
      have k3 : Keep L H2 (upd H2 L (.lst ((l ++ [c]).map natV ++ [.int t0]))) := Keep.refl.upd
      have hL3 : (upd H2 L (.lst ((l ++ [c]).map natV ++ [.int t0]))) L = some (.lst (((l ++ [c]) ++ [t0.toNat]).map natV)) := by
        rw [upd_same, List.map_append (l₁ := l ++ [c])]
        show some (HO.lst (_ ++ [V.int t0])) = some (HO.lst (_ ++ [V.int (t0.toNat : Int)]))
        rw [et0]
      generalize upd H2 L (.lst ((l ++ [c]).map natV ++ [.int t0])) = H3 at k3 hL3 ⊢
      have s3 : Same H H3 := fun b o e => k3 _ (ne_of_none e hL) _ (s2 _ _ e)
      have ec : cutV (((l ++ [c]) ++ [t0.toNat]).map natV) none (some ((i : Int) + 1)) = (l ++ [c]).map natV := by
        have := cut_to (xs := ((l ++ [c]) ++ [t0.toNat]).map natV) (b := i + 1) (by rw [List.length_map, List.length_append, List.length_append]; simp; omega)
        rw [show ((i : Int) + 1) = ((i + 1 : Nat) : Int) from rfl, this, ← List.map_take]
        rw [List.take_left' (by rw [List.length_append, hl]; rfl)]
      refine ⟨_, rfl, _, rfl, _, rfl, _, _, rfl, rfl, _, rfl, L, _, rfl, SqL.of hL3, fun P hP2 => ?_⟩
      rw [ec]
      have s4 : Same H3 (upd H3 P (.lst ((l ++ [c]).map natV))) := same_new hP2
      refine ⟨P, _, rfl, .inl (SqL.of upd_same), rfl, flat_nats _, _, rfl, ?_⟩
      have em : inV (V.int t0) ((l ++ [c]).map natV) = decide (t0.toNat ∈ l ++ [c]) := by
        rw [← et0]; exact inV_nats _ _
      show (if inV (V.int t0) ((l ++ [c]).map natV) = true then _ else _)
      rw [em]
      refine ite_b (fun q => ?_) (fun q => ?_)
      · refine ⟨_, rfl, kk _ L (s3.trans s4) hL ?_⟩
        rw [s4 _ _ hL3, hrn]
        simp only
        rw [if_pos (of_decide_eq_true q)]
      · have hrn : run (nxt es pe) pe.length [v] = if t0.toNat ∈ l ++ [c] then (l ++ [c]) ++ [t0.toNat] else run (nxt es pe) (pe.length - (i + 1)) ((l ++ [c]) ++ [t0.toNat]) := hrn
        rw [if_neg (of_decide_eq_false q)] at hrn
        exact ⟨s3.trans s4, l ++ [c], t0.toNat, _, _, by rw [List.length_append, hl]; rfl, s4 _ _ hL3, g2lt, lt_snoc hlt hc, hrn, rfl⟩
  · rintro σ H2 ⟨s2, l, c, z4, z5, hl, hL2, hc, hlt, hrn, rfl⟩
    rw [Int.toNat_natCast, Nat.sub_self] at hrn
    refine ⟨_, rfl, kk _ L s2 hL ?_⟩
    rw [hL2, hrn]; rfl
end
end LR

set_option Elab.async false
set_option maxRecDepth 100000
set_option linter.all false
set_option maxHeartbeats 4000000
namespace LR
open PySem PySem.Spec PyProof.Rows L2
section
variable {P : Program} {w : World} {K : PySem.W.Frag} {mg : Str → Option Value} {base : Heap} {ζ : Cs}
def walkD (pe : List (Option (List Int))) (vis : List Nat) (u : Nat) (m : Int) : Dt := .tup [.str (strO [decide (m % 2 = 0)]), .lst ((wr pe (vis.take (fix u vis))).map tupD), .lst ((wr pe (vis.drop (fix u vis))).map tupD)]
def rks (pe : List (Option (List Int))) (vis : List Nat) (u : Nat) : List Int := (wr pe (vis.drop (fix u vis))).map rk
def Full (pe : List (Option (List Int))) (vis : List Nat) : Prop := ∀ x ∈ vis, x < pe.length ∧ ∃ r, pe.getD x none = some r ∧ r.length = 3
theorem Full.wr3 {pe : List (Option (List Int))} {vis : List Nat} (f : Full pe vis) : ∀ e ∈ wr pe vis, e.length = 3 := fun e he => by
  obtain ⟨x, hx, rfl⟩ := List.mem_map.mp he
  obtain ⟨_, r, er, e3⟩ := f x hx
  rw [er]; exact e3
theorem atL_rows {H : Hp} {p : Addr} {ts : List Addr} {es : List (List Int)} (hp : H p = some (.lst (ts.map V.ref))) (hT : RowsH H ts es) (h3 : ∀ e ∈ es, e.length = 3) (h9 : es.length ≤ 100) : At H (.ref p) (.lst (es.map tupD)) :=
  .lst hp (hT.ats fun e he => by have := h3 e he; omega) (by rw [List.length_map, hT.1]; omega)
/-- one row of a plan, read at a node -/
theorem Full.row {H : Hp} {ps : List V} {pe : List (Option (List Int))} {vis : List Nat} (f : Full pe vis) (hP : PlanH H ps pe) {x : Nat} (hx : x ∈ vis) : ∃ t r, atI ps (x : Int) = some (.ref t) ∧ H t = some (.tup (r.map V.int)) ∧ pe.getD x none = some r ∧ r.length = 3 := by
  obtain ⟨xl, r, er, e3⟩ := f x hx
  obtain ⟨y, hy, ey⟩ := hP.get xl
  rw [er] at ey
  rcases ey with ⟨_, z⟩ | ⟨t, r, rfl, z, ht, _⟩
  · cases z
  · cases z
    exact ⟨t, r, atI_nat hy, ht, er, e3⟩
theorem wr_take {pe : List (Option (List Int))} {l : List Nat} {i x : Nat} {r : List Int} (e : l[i]? = some x) (er : pe.getD x none = some r) : wr pe (l.take (i + 1)) = wr pe (l.take i) ++ [r] := by
  rw [List.take_succ, e]
  exact wr_snoc er
def spWalked : Sp := fun vs H Q _ => ∃ (a L : Addr) (ps : List V) (pe : List (Option (List Int))) (vis : List Nat) (u : Nat), vs = [.ref a, .ref L] ∧ H a = some (.lst ps) ∧ PlanH H ps pe ∧ H L = some (.lst ((vis ++ [u]).map natV)) ∧ u ∈ vis ∧ Full pe vis ∧ vis.length ≤ 9 ∧ ∀ H' t m, Same H H' → At H' (.ref t) (walkD pe vis u m) → m ∈ rks pe vis u → (∀ y ∈ rks pe vis u, y ≤ m) → Q (.ref t) H'
theorem ok_walked (T : Txt P K mg ζ) : Cal P w K mg base 1 "_law_walked" spWalked := by
  refine T.d_walked.cal sc_walked (fun vs H Q E h => ?_) (fun f cdv A outer s H vs Q E hr h => ⟨_, pss_cons (ps_set (i := 2) sc_walked.nd rfl (Or.inl rfl) (pe_bm PySem.F.plainAttrs_list PySem.F.slot_list_index PySem.F.type_list_index mt_index (pv 1) (pa_cons (pe_ix ix_list (pv 1) (pe_op op_sub (pe_callB call_len_seq (by rfl) T.n_len b_len (pa_cons (pv 1) (pa_nil))) (pe_int)) (fun _ _ => rfl)) (pa_nil))))
 (pss_cons (ps_setLc (i := 3) (own := [("node", 4)]) (g := gName 4) (tt := tYes)  rfl sc_walked.nd rfl rfl (sw_true rfl rfl rfl (by decide +kernel)) (pi_list (pe_slice sl_list (pv 1) (po_some (pv 2)) (po_some (pe_op op_sub (pe_callB call_len_seq (by rfl) T.n_len b_len (pa_cons (pv 1) (pa_nil))) (pe_int))))) (blkOk_by (N := N_walked) (sc := defScope s_walked) (by decide +kernel)) (fun _ _ _ _ _ => pg_name (i := 4) sc_walked.nd rfl (Or.inl rfl)) (fun _ _ _ _ _ => pts_nil) (fun _ _ _ _ _ => pe_ix (ix_listK (K := K) rfl) (pv 0) (pv 4) (fun _ _ => rfl)))
 (pss_cons (ps_set (i := 5) sc_walked.nd rfl (Or.inl rfl) (pe_callB (cr_max rfl) (by rfl) T.n_max b_max (pa_cons (pe_lc (own := [("edge", 6)]) (g := gName 6) (tt := tYes)  rfl sc_walked.nd (pi_list (pv 3)) (blkOk_by (N := N_walked) (sc := defScope s_walked) (by decide +kernel)) (fun _ _ _ _ _ => pg_name (i := 6) sc_walked.nd rfl (Or.inl rfl)) (fun _ _ _ _ _ => pts_nil) (fun _ _ _ _ _ => pe_ix (ix_tupK (K := K) rfl) (pv 6) pe_int (fun _ _ => rfl))) pa_nil)))
 (pss_one (ps_ret (pe_tup (pa_cons (pe_ix ix_str pe_str (pe_op op_mod (pe_callTy call_int1 (by rfl) T.n_int b_int (pa_cons (pv 5) (pa_nil))) (pe_int)) (fun _ _ => rfl)) (pa_cons (pe_lc (own := [("node", 4)]) (g := gName 4) (tt := tYes)  rfl sc_walked.nd (pi_list (pe_slice sl_list (pv 1) (po_none) (po_some (pv 2)))) (blkOk_by (N := N_walked) (sc := defScope s_walked) (by decide +kernel)) (fun _ _ _ _ _ => pg_name (i := 4) sc_walked.nd rfl (Or.inl rfl)) (fun _ _ _ _ _ => pts_nil) (fun _ _ _ _ _ => pe_ix (ix_listK (K := K) rfl) (pv 0) (pv 4) (fun _ _ => rfl))) (pa_cons (pv 3) (pa_nil))))))))), ?_⟩)
  · obtain ⟨a, L, ps, pe, vis, u, rfl, _⟩ := h; rfl
  obtain ⟨a, L, ps, pe, vis, u, rfl, ha, hP, hL, hu, hF, n9, kk⟩ := h
  have fl := fix_lt hu
  have lenL : ((vis ++ [u]).map natV).length = vis.length + 1 := by rw [List.length_map, List.length_append]; rfl
  have atl : atI ((vis ++ [u]).map natV) ((((vis ++ [u]).map natV).length : Int) - 1) = some (natV u) := by
    rw [lenL, show (((vis.length + 1 : Nat) : Int) - 1) = (vis.length : Int) by omega]
    exact atI_nat (by rw [List.getElem?_map, List.getElem?_append_right (Nat.le_refl _), Nat.sub_self]; rfl)
  have hu2 : u ∈ vis ++ [u] := List.mem_append_left _ hu
  have ef : fix u (vis ++ [u]) = fix u vis := fix_app hu
  refine ⟨_, rfl, .inl ⟨rfl, _, SqL.of hL⟩, _, rfl, _, rfl, L, _, rfl, .inl (SqL.of hL), _, _, rfl, rfl, L, _, _, natV u, rfl, rfl, SqL.of hL, atl, L, _, natV u, fix u (vis ++ [u]), natV u, rfl, rfl, SqL.of hL, rfl, flat_nats _, ixn1 hu2, ixn2, ixn3, ?_⟩
  rw [ef]
  have ec : cutV ((vis ++ [u]).map natV) (some ((fix u vis : Nat) : Int)) (some ((((vis ++ [u]).map natV).length : Int) - 1)) = (vis.drop (fix u vis)).map natV := by
    rw [lenL, show (((vis.length + 1 : Nat) : Int) - 1) = (vis.length : Int) by omega, cut_mid (by rw [lenL]; omega) (by rw [lenL]; omega), ← List.map_drop, ← List.map_take]
    congr 1
    rw [List.drop_append_of_le_length (by omega), List.take_left' (by rw [List.length_drop])]
  refine ⟨_, rfl, _, rfl, _, rfl, _, rfl, L, _, rfl, .inl (SqL.of hL), _, _, rfl, rfl, _, rfl, L, _, rfl, SqL.of hL, fun P hP2 => ?_⟩
  rw [ec]
  have s1 : Same H (upd H P (.lst ((vis.drop (fix u vis)).map natV))) := same_new hP2
  have hP1 : (upd H P (.lst ((vis.drop (fix u vis)).map natV))) P = some (.lst ((vis.drop (fix u vis)).map natV)) := upd_same
  generalize upd H P (.lst ((vis.drop (fix u vis)).map natV)) = H1 at s1 hP1 ⊢
  have fd : Full pe (vis.drop (fix u vis)) := fun x hx => hF x (List.mem_of_mem_drop hx)
  have ft : Full pe (vis.take (fix u vis)) := fun x hx => hF x (List.mem_of_mem_take hx)
  have dl : (vis.drop (fix u vis)).length ≤ 9 := by rw [List.length_drop]; omega
  have tl : (vis.take (fix u vis)).length ≤ 9 := by rw [List.length_take]; omega
  refine ⟨P, rfl, ⟨_, SqL.of hP1⟩, fun C hC => ?_⟩
  refine lc_list (K := K) (a := P) (xs := (vis.drop (fix u vis)).map natV) (fun i H' => Same H1 H' ∧ ∃ ts, H' C = some (.lst (ts.map V.ref)) ∧ RowsH H1 ts (wr pe ((vis.drop (fix u vis)).take i))) ⟨same_new hC, [], upd_same, RowsH.nil⟩ (fun i H' _ h => SqL.of (h.1 _ _ hP1)) ?_ ?_
  · rintro i y H2 hy ⟨s2, ts, hC2, hT2⟩
    rw [List.getElem?_map] at hy
    obtain ⟨x, hx, rfl⟩ := Option.map_eq_some_iff.mp hy
    obtain ⟨t, r, hx2, ht, er, e3⟩ := fd.row hP (List.mem_of_getElem? hx)
    refine ⟨rfl, _, rfl, _, rfl, a, _, (x : Int), _, rfl, rfl, SqL.of ((s1.trans s2) _ _ ha), hx2, _, hC2, ?_, fun b o e => ?_, ts ++ [t], ?_, ?_⟩
    · rw [List.length_map, hT2.1, wr, List.length_map, List.length_take, sizeLine_eq]; omega
    · rw [upd_ne (ne_of_none e hC)]; exact s2 _ _ e
    · rw [upd_same, List.map_append]; rfl
    · rw [wr_take hx er]; exact hT2.snoc (s1 _ _ ht)
  rintro H2 ⟨s2, ts, hC2, hT2⟩
  rw [List.length_map, List.take_length] at hT2
  refine ⟨_, rfl, C, rfl, ⟨_, SqL.of hC2⟩, fun D hD => ?_⟩
  have hT22 := hT2.same s2
  refine lc_list (K := K) (a := C) (xs := ts.map V.ref) (fun i H' => Same H2 H' ∧ H' D = some (.lst ((((wr pe (vis.drop (fix u vis))).take i).map rk).map V.int))) ⟨same_new hD, upd_same⟩ (fun i H' _ h => SqL.of (h.1 _ _ hC2)) ?_ ?_
  · rintro i y H4 hy ⟨s4, hD4⟩
    rw [List.getElem?_map] at hy
    obtain ⟨t, ht, rfl⟩ := Option.map_eq_some_iff.mp hy
    obtain ⟨e, ee, he⟩ := hT22.getT ht
    have e3 : e.length = 3 := fd.wr3 e (List.mem_of_getElem? ee)
    obtain ⟨s0, r0, t0, rfl⟩ : ∃ a b c, e = [a, b, c] := by
      match e, e3 with
      | [a, b, c], _ => exact ⟨a, b, c, rfl⟩
    have et : (wr pe (vis.drop (fix u vis))).take (i + 1) = (wr pe (vis.drop (fix u vis))).take i ++ [[s0, r0, t0]] := by rw [List.take_succ, ee]; rfl
    refine ⟨rfl, _, rfl, t, _, _, _, rfl, rfl, SqT.of (s4 _ _ he), rfl, _, hD4, ?_, fun b o e => ?_, ?_⟩
    · rw [List.length_map, List.length_map, List.length_take, wr, List.length_map, sizeLine_eq]; omega
    · rw [upd_ne (ne_of_none e hD)]; exact s4 _ _ e
    · rw [upd_same, et, List.map_append, List.map_append]; rfl
  rintro H4 ⟨s4, hD4⟩
  rw [List.length_map, hT22.1, List.take_length] at hD4
  refine ⟨D, _, rfl, SqL.of hD4, ?_, fun m hm hmx => ?_⟩
  · rw [List.length_map, wr, List.length_map, List.length_drop]; omega
  have e2 : cutV ((vis ++ [u]).map natV) none (some ((fix u vis : Nat) : Int)) = (vis.take (fix u vis)).map natV := by
    rw [cut_to (by rw [lenL]; omega), ← List.map_take, List.take_append_of_le_length (by omega)]
  have hAB : atI ("AB" : Str).cps.toList (m % 2) = some (ltr (decide (m % 2 = 0))) := by
    rcases (by omega : m % 2 = 0 ∨ m % 2 = 1) with q | q
    · rw [q]; rfl
    · rw [q]; rfl
  have s14 := s1.trans (s2.trans s4)
  refine ⟨_, rfl, .inl ⟨_, rfl, _, _, rfl, rfl, (by show (0:Int) < _; decide), ("AB" : Str), m % 2, _, rfl, rfl, (by show 2 ≤ sizeLine; decide), hAB, ?_⟩⟩
  refine ⟨_, rfl, _, rfl, _, rfl, L, _, rfl, SqL.of (s14 _ _ hL), fun P3 hP3 => ?_⟩
  rw [e2]
  have s5 : Same H4 (upd H4 P3 (.lst ((vis.take (fix u vis)).map natV))) := same_new hP3
  have hP5 : (upd H4 P3 (.lst ((vis.take (fix u vis)).map natV))) P3 = some (.lst ((vis.take (fix u vis)).map natV)) := upd_same
  generalize upd H4 P3 (.lst ((vis.take (fix u vis)).map natV)) = H5 at s5 hP5 ⊢
  have s15 := s14.trans s5
  refine ⟨P3, rfl, ⟨_, SqL.of hP5⟩, fun B hB => ?_⟩
  refine lc_list (K := K) (a := P3) (xs := (vis.take (fix u vis)).map natV) (fun i H' => Same H5 H' ∧ ∃ ts, H' B = some (.lst (ts.map V.ref)) ∧ RowsH H5 ts (wr pe ((vis.take (fix u vis)).take i))) ⟨same_new hB, [], upd_same, RowsH.nil⟩ (fun i H' _ h => SqL.of (h.1 _ _ hP5)) ?_ ?_
  · rintro i y H6 hy ⟨s6, us, hB6, hU6⟩
    rw [List.getElem?_map] at hy
    obtain ⟨x, hx, rfl⟩ := Option.map_eq_some_iff.mp hy
    obtain ⟨t, r, hx2, ht, er, e3⟩ := ft.row hP (List.mem_of_getElem? hx)
    refine ⟨rfl, _, rfl, _, rfl, a, _, (x : Int), _, rfl, rfl, SqL.of ((s15.trans s6) _ _ ha), hx2, _, hB6, ?_, fun b o e => ?_, us ++ [t], ?_, ?_⟩
    · rw [List.length_map, hU6.1, wr, List.length_map, List.length_take, sizeLine_eq]; omega
    · rw [upd_ne (ne_of_none e hB)]; exact s6 _ _ e
    · rw [upd_same, List.map_append]; rfl
    · rw [wr_take hx er]; exact hU6.snoc (s15 _ _ ht)
  rintro H6 ⟨s6, us, hB6, hU6⟩
  rw [List.length_map, List.take_length] at hU6
  refine ⟨_, rfl, (by show 3 ≤ sizeLine; decide), fun t ht => ?_⟩
  have sn : Same H6 (upd H6 t (.tup [.str (strO [decide (m % 2 = 0)]), .ref B, .ref C])) := same_new ht
  have t26 := s4.trans (s5.trans s6)
  refine kk _ t m ((s15.trans s6).trans sn) (.tup upd_same (.cons (.str _) (.cons (atL_rows (sn _ _ hB6) ((hU6.same s6).same sn) ft.wr3 (by rw [wr, List.length_map]; omega)) (.cons (atL_rows (sn _ _ (t26 _ _ hC2)) (((hT2.same s2).same t26).same sn) fd.wr3 (by rw [wr, List.length_map]; omega)) .nil))) (by show 3 ≤ 100000; decide)) hm hmx
end
end LR

set_option Elab.async false
set_option maxRecDepth 100000
set_option linter.all false
set_option maxHeartbeats 4000000
namespace LR
open PySem PySem.Spec PyProof.Rows L2
section
variable {P : Program} {w : World} {K : PySem.W.Frag} {mg : Str → Option Value} {base : Heap} {ζ : Cs}
theorem cat_lst2 {H : Hp} {a b : Addr} {xs ys : List V} {Q : VK} (ha : H a = some (.lst xs)) (hb : H b = some (.lst ys)) (hz : xs.length + ys.length ≤ 10000) (k : ∀ p H', Same H H' → H p = none → H' p = some (.lst (xs ++ ys)) → Q (.ref p) H') : rCat (.ref a) (.ref b) H Q :=
  ⟨a, b, xs, ys, rfl, rfl, ha, hb, (by rw [sizeLine_eq]; omega), fun p hp => k p _ (same_new hp) hp upd_same⟩
def refN (v : Int) : List V := [.str "node", .int v, .bl true, .bl true, .bl true, .bl false]
def refB (u : Nat) : List V := [.str "plan", .int u, .bl false, .bl true, .bl true, .bl false]
def spRefusal (C : Addr) : Sp := fun vs H Q _ => ∃ (g a : Addr) (h : Int) (os : List Bool) (v : Int) (ss : List (List Int)), vs = [.ref g, .ref a, .int v] ∧ GameAt C H g h os ss ∧
  ((v.natAbs < 2 ^ 1900 ∧ ¬ (0 ≤ v ∧ v < os.length) ∧ ∀ H' m, Same H H' → H' m = some (.lst (refN v)) → Q (.ref m) H') ∨
   (∃ (n : Nat) (ps : List V) (pe : List (Option (List Int))) (vis : List Nat) (u : Nat), v = n ∧ os.length ≤ 9 ∧ (h = 1 ∨ h = 2 ∨ h = 3) ∧ (∀ e ∈ ss, EdgeOk h os.length e) ∧ ss.length ≤ 63 ∧ H a = some (.lst ps) ∧ PlanH H ps pe ∧ pe.length = os.length ∧ n < os.length ∧ run (nxt ss pe) os.length [n] = vis ++ [u] ∧ u ∉ vis ∧ u < os.length ∧ ∀ H' m, Same H H' → H' m = some (.lst (refB u)) → Q (.ref m) H'))
theorem ok_refusal (T : Txt P K mg ζ) : Cal P w K mg base 6 "_law_refusal" (spRefusal ζ.Game) := by
  have cx_play : CalX P w K mg base 5 "play" (spPlayB ζ.Game ζ.BadPlan ζ.NoSuchNode) := ok_playX T
  refine T.d_refusal.cal sc_refusal (fun vs H Q E h => ?_) (fun f cdv A outer s H vs Q E hr h => ⟨_, pss_cons (ps_set (i := 3) sc_refusal.nd rfl (Or.inl rfl) (pe_non))
 (pss_cut (ps_try_any rfl rfl sc_refusal.nd takes0 (fun W pn xe tk _ => pss_one (ps_expr (pe_cT cx_play hr (by first | decide | omega) tk (by rfl) (pa_cons (pv 0) (pa_cons (pv 1) (pa_cons (pv 2) (pa_nil))))))) (ClOk.held (i := 4) rfl rfl ⟨rfl, by decide, .inl T.mg_NoSuchNode⟩ (fun a oe cls d pn hz hf => pss_cons (ps_set (i := 3) sc_refusal.nd rfl (Or.inl rfl) (pe_lst (pa_cons (pe_str) (pa_cons (pe_xf T.e_NoSuchNode.X T.e_NoSuchNode.no hz hf (pv 4)) (pa_cons (pe_callB (call_isX T.objc hz hf) (by rfl) T.n_isinstance b_isinstance (pa_cons (pv 4) (pa_cons (pe_glob (v := .ref ζ.OutOfRange) (by rfl) T.mg_OutOfRange rfl) (pa_nil)))) (pa_cons (pe_callB (call_isX T.objc hz hf) (by rfl) T.n_isinstance b_isinstance (pa_cons (pv 4) (pa_cons (pe_glob (v := .ref ζ.LadderreachError) (by rfl) T.mg_LadderreachError rfl) (pa_nil)))) (pa_cons (pe_callB (call_isX T.objc hz hf) (by rfl) T.n_isinstance b_isinstance (pa_cons (pv 4) (pa_cons (pe_bltn (v := .ty "ValueError") (by rfl) T.n_ValueError b_ValueError rfl) (pa_nil)))) (pa_nil))))))))
 (pss_one (ps_expr (pe_bmK (K := K) rfl PySem.F.plainAttrs_list PySem.F.slot_list_append PySem.F.type_list_append mt_append (pv 3) (pa_cons (pe_callB (call_isX T.objc hz hf) (by rfl) T.n_isinstance b_isinstance (pa_cons (pv 4) (pa_cons (pe_glob (v := .ref ζ.GameError) (by rfl) T.mg_GameError rfl) (pa_nil)))) (pa_nil)))))) (ClOk.held (i := 5) rfl rfl ⟨rfl, by decide, .inl T.mg_BadPlan⟩ (fun a oe cls d pn hz hf => pss_cons (ps_set (i := 3) sc_refusal.nd rfl (Or.inl rfl) (pe_lst (pa_cons (pe_str) (pa_cons (pe_xf T.e_BadPlan.X T.e_BadPlan.no hz hf (pv 5)) (pa_cons (pe_callB (call_isX T.objc hz hf) (by rfl) T.n_isinstance b_isinstance (pa_cons (pv 5) (pa_cons (pe_glob (v := .ref ζ.OutOfRange) (by rfl) T.mg_OutOfRange rfl) (pa_nil)))) (pa_cons (pe_callB (call_isX T.objc hz hf) (by rfl) T.n_isinstance b_isinstance (pa_cons (pv 5) (pa_cons (pe_glob (v := .ref ζ.LadderreachError) (by rfl) T.mg_LadderreachError rfl) (pa_nil)))) (pa_nil)))))))
 (pss_one (ps_set (i := 3) sc_refusal.nd rfl (Or.inl rfl) (pe_op op_cat (pv 3) (pe_lst (pa_cons (pe_callB (call_isX T.objc hz hf) (by rfl) T.n_isinstance b_isinstance (pa_cons (pv 5) (pa_cons (pe_bltn (v := .ty "ValueError") (by rfl) T.n_ValueError b_ValueError rfl) (pa_nil)))) (pa_cons (pe_callB (call_isX T.objc hz hf) (by rfl) T.n_isinstance b_isinstance (pa_cons (pv 5) (pa_cons (pe_tup (pa_cons (pe_glob (v := .ref ζ.GameError) (by rfl) T.mg_GameError rfl) (pa_cons (pe_glob (v := .ref ζ.BadPlacement) (by rfl) T.mg_BadPlacement rfl) (pa_cons (pe_glob (v := .ref ζ.Misfit) (by rfl) T.mg_Misfit rfl) (pa_nil))))) (pa_nil)))) (pa_nil)))))))) (ClOk.nil))))
 (pss_one (ps_ret (pv 3)))), ?_⟩)
  · obtain ⟨g, a, h, os, v, ss, rfl, _⟩ := h; rfl
  obtain ⟨g, a, h, os, v, ss, rfl, GA, cases⟩ := h
  rcases cases with ⟨hs, bad, kk⟩ | ⟨n, ps, pe, vis, u, rfl, n9, hh, hok, hl, ha, hP, hpl, hn, hrun, huv, hul, kk⟩
  · refine ⟨fun σ' H' => ∃ (kd : Addr) (z4 z5 : Option V), Same H H' ∧ H' kd = some (.lst (refN v)) ∧ σ' = [some (.ref g), some (.ref a), some (.int v), some (.ref kd), z4, z5], ?_, ?_⟩
    · refine ⟨_, rfl, _, rfl, _, rfl, .inr ⟨g, a, h, os, v, ss, rfl, GA, hs, bad, fun d hd => ?_⟩⟩
      refine (show wCl _ _ _ _ _ _ _ _ from ⟨true, T.exm_NoSuchNode_NoSuchNode, ⟨fun _ e he => ?_, (fun z => nomatch z)⟩⟩)
      refine ⟨_, rfl, rfl, rfl, d, _, _, rfl, upd_same, rfl, ?_⟩
      refine ⟨_, rfl, ζ.NoSuchNode, rfl, T.e_NoSuchNode.E, ⟨_, upd_same⟩, .inl ⟨_, _, true, rfl, .own _, T.kit_NoSuchNode_OutOfRange, ?_⟩⟩
      refine ⟨_, rfl, ζ.NoSuchNode, rfl, T.e_NoSuchNode.E, ⟨_, upd_same⟩, .inl ⟨_, _, true, rfl, .own _, T.kit_NoSuchNode_LadderreachError, ?_⟩⟩
      refine ⟨_, rfl, ζ.NoSuchNode, rfl, T.e_NoSuchNode.E, ⟨_, upd_same⟩, .inl ⟨_, _, true, rfl, .ty _, T.kit_NoSuchNode_ValueError, (by show 5 ≤ sizeLine; decide), fun k1 hk1 => ?_⟩⟩
      have sd : Same H (upd H d (.xd [("node", .int v)])) := same_new hd
      have hdd : (upd H d (.xd [("node", .int v)])) d = some (.xd [("node", .int v)]) := upd_same
      have nk : d ≠ k1 := ne_of_none hdd hk1
      generalize upd H d (.xd [("node", .int v)]) = H2 at sd hdd hk1 ⊢
      have hk2 : (upd H2 k1 (.lst [.str "node", .int v, .bl true, .bl true, .bl true])) k1 = some (.lst [.str "node", .int v, .bl true, .bl true, .bl true]) := upd_same
      have s3 : Same H2 (upd H2 k1 (.lst [.str "node", .int v, .bl true, .bl true, .bl true])) := same_new hk1
      have hd3 := s3 _ _ hdd
      have k10 : H k1 = none := sd.free hk1
      generalize upd H2 k1 (.lst [.str "node", .int v, .bl true, .bl true, .bl true]) = H3 at s3 hd3 hk2 ⊢
      refine ⟨_, rfl, .inl ⟨rfl, _, SqL.of hk2⟩, _, rfl, ζ.NoSuchNode, rfl, T.e_NoSuchNode.E, ⟨_, hd3⟩, .inl ⟨_, _, false, rfl, .own _, T.kit_NoSuchNode_GameError, ?_⟩⟩
      refine ⟨k1, _, _, rfl, rfl, hk2, (by show 5 < sizeLine; decide), k1, _, _, fun b o e => ?_, upd_same, rfl⟩
      rw [upd_ne (ne_of_none e k10)]; exact s3 _ _ (sd _ _ e)
    · rintro σ' H2 ⟨kd, z4, z5, s2, hk, rfl⟩
      exact ⟨_, rfl, kk _ kd s2 hk⟩
  · refine ⟨fun σ' H' => ∃ (kd : Addr) (z4 z5 : Option V), Same H H' ∧ H' kd = some (.lst (refB u)) ∧ σ' = [some (.ref g), some (.ref a), some (.int (n : Int)), some (.ref kd), z4, z5], ?_, ?_⟩
    · refine ⟨_, rfl, _, rfl, _, rfl, .inl ⟨g, a, h, os, n, ss, ps, pe, vis, u, rfl, GA, n9, hh, hok, hl, ha, hP, hpl, hn, hrun, huv, hul, fun H1 s1 d hd => ?_⟩⟩
      refine (show wCl _ _ _ _ _ _ _ _ from ⟨false, T.exm_BadPlan_NoSuchNode, ⟨(fun z => nomatch z), fun _ => ⟨true, T.exm_BadPlan_BadPlan, ⟨fun _ e he => ?_, (fun z => nomatch z)⟩⟩⟩⟩)
      refine ⟨_, rfl, rfl, rfl, d, _, _, rfl, upd_same, rfl, ?_⟩
      refine ⟨_, rfl, ζ.BadPlan, rfl, T.e_BadPlan.E, ⟨_, upd_same⟩, .inl ⟨_, _, false, rfl, .own _, T.kit_BadPlan_OutOfRange, ?_⟩⟩
      refine ⟨_, rfl, ζ.BadPlan, rfl, T.e_BadPlan.E, ⟨_, upd_same⟩, .inl ⟨_, _, true, rfl, .own _, T.kit_BadPlan_LadderreachError, (by show 4 ≤ sizeLine; decide), fun k1 hk1 => ?_⟩⟩
      have sd : Same H1 (upd H1 d (.xd [("node", .int u)])) := same_new hd
      have hdd : (upd H1 d (.xd [("node", .int u)])) d = some (.xd [("node", .int u)]) := upd_same
      generalize upd H1 d (.xd [("node", .int u)]) = H2 at sd hdd hk1 ⊢
      have hk2 : (upd H2 k1 (.lst [.str "plan", .int u, .bl false, .bl true])) k1 = some (.lst [.str "plan", .int u, .bl false, .bl true]) := upd_same
      have s3 : Same H2 (upd H2 k1 (.lst [.str "plan", .int u, .bl false, .bl true])) := same_new hk1
      have hd3 := s3 _ _ hdd
      generalize upd H2 k1 (.lst [.str "plan", .int u, .bl false, .bl true]) = H3 at s3 hd3 hk2 ⊢
      refine ⟨_, rfl, _, rfl, ζ.BadPlan, rfl, T.e_BadPlan.E, ⟨_, hd3⟩, .inl ⟨_, _, true, rfl, .ty _, T.kit_BadPlan_ValueError, ?_⟩⟩
      refine ⟨_, rfl, by show 3 ≤ sizeLine; decide, fun t ht => ?_⟩
      have s4 : Same H3 (upd H3 t (.tup [.ref ζ.GameError, .ref ζ.BadPlacement, .ref ζ.Misfit])) := same_new ht
      refine ⟨ζ.BadPlan, rfl, T.e_BadPlan.E, ⟨_, s4 _ _ hd3⟩, .inr ⟨t, _, _, false, rfl, upd_same, .cons (.own _) (.cons (.own _) (.cons (.own _) .nil)), kitAny_cons T.kit_BadPlan_GameError (fun _ => kitAny_cons T.kit_BadPlan_BadPlacement (fun _ => kitAny_cons T.kit_BadPlan_Misfit (fun _ => kitAny_nil) (fun z => nomatch z)) (fun z => nomatch z)) (fun z => nomatch z), (by show 2 ≤ sizeLine; decide), fun k2 hk3 => ?_⟩⟩
      refine cat_lst2 ((same_new hk3) _ _ (s4 _ _ hk2)) upd_same (by show 6 ≤ 10000; decide) fun k4 H5 s5 _ hk5 => ?_
      exact ⟨k4, _, _, s1.trans (sd.trans (s3.trans (s4.trans ((same_new hk3).trans s5)))), hk5, rfl⟩
    · rintro σ' H2 ⟨kd, z4, z5, s2, hk, rfl⟩
      exact ⟨_, rfl, kk _ kd s2 hk⟩
end
end LR

set_option Elab.async false
set_option maxRecDepth 100000
set_option linter.all false
set_option maxHeartbeats 4000000
namespace LR
open PySem PySem.Spec PyProof.Rows L2
section
variable {P : Program} {w : World} {K : PySem.W.Frag} {mg : Str → Option Value} {base : Heap} {ζ : Cs}
theorem run_facts {f : Nat → Option Nat} {n : Nat} (lt : ∀ x g, f x = some g → g < n) : ∀ (k : Nat) (l : List Nat) (c : Nat), (∀ x ∈ l, f x ≠ none ∧ x < n) → c < n → ∃ vis u, run f k (l ++ [c]) = vis ++ [u] ∧ (∀ x ∈ vis, f x ≠ none ∧ x < n) ∧ u < n
  | 0, l, c, hl, hc => ⟨l, c, rfl, hl, hc⟩
  | k + 1, l, c, hl, hc => by
    rw [run_succ]
    cases z : f c with
    | none => exact ⟨l, c, rfl, hl, hc⟩
    | some g =>
      have hl2 : ∀ x ∈ l ++ [c], f x ≠ none ∧ x < n := fun x hx => by
        rcases List.mem_append.mp hx with q | q
        · exact hl x q
        · have : x = c := by simpa using q
          subst this; exact ⟨(by rw [z]; exact (fun z => nomatch z)), hc⟩
      simp only
      by_cases q : g ∈ l ++ [c]
      · rw [if_pos q]; exact ⟨l ++ [c], g, rfl, hl2, lt _ _ z⟩
      · rw [if_neg q]; exact run_facts lt k (l ++ [c]) g hl2 (lt _ _ z)
theorem ixN_nat0 {n : Nat} (h : 0 < n) : ixN n 0 = some 0 := by
  unfold ixN; rw [if_pos (by decide), if_pos (by omega)]; rfl
theorem run_length {f : Nat → Option Nat} : ∀ (k : Nat) (l : List Nat) (c : Nat), (run f k (l ++ [c])).length ≤ l.length + 1 + k
  | 0, l, c => by show (l ++ [c]).length ≤ _; rw [List.length_append]; simp
  | k + 1, l, c => by
    rw [run_succ]
    cases f c with
    | none => show (l ++ [c]).length ≤ _; rw [List.length_append]; show l.length + 1 ≤ _; omega
    | some g =>
      simp only
      by_cases q : g ∈ l ++ [c]
      · rw [if_pos q, List.length_append, List.length_append]; show l.length + 1 + 1 ≤ _; omega
      · rw [if_neg q]
        have := run_length (f := f) k (l ++ [c]) g
        have e : (l ++ [c]).length = l.length + 1 := by simp
        rw [e] at this; omega
theorem nxt_perm {ss es : List (List Int)} {pe : List (Option (List Int))} (p : ss.Perm es) : nxt ss pe = nxt es pe := by
  funext v
  unfold nxt
  cases pe.getD v none with
  | none => rfl
  | some r =>
    simp only
    by_cases c : r ∈ es ∧ r.head? = some (v : Int)
    · rw [if_pos c, if_pos ⟨p.mem_iff.mpr c.1, c.2⟩]
    · rw [if_neg c, if_neg fun q => c ⟨p.mem_iff.mp q.1, q.2⟩]
theorem ats_plan {H : Hp} : ∀ {ps : List V} {pe : List (Option (List Int))}, PlanH H ps pe → Ats H ps (pe.map entD)
  | [], [], _ => .nil
  | [], _ :: _, h => by have := h.1; simp at this
  | _ :: _, [], h => by have := h.1; simp at this
  | x :: ps, e :: pe, h => by
    refine .cons ?_ (ats_plan ⟨by have := h.1; simpa using this, fun k y f a b => h.2 (k + 1) y f (by simpa using a) (by simpa using b)⟩)
    rcases h.2 0 x e rfl rfl with ⟨rfl, rfl⟩ | ⟨t, r, rfl, rfl, ht, hr⟩
    · exact .non
    · exact .tup ht (ats_ints H r) (by rw [List.length_map]; omega)
theorem deps_plan : ∀ pe : List (Option (List Int)), deps (pe.map entD) ≤ 1
  | [] => Nat.zero_le _
  | none :: r => by
    have := deps_plan r
    show max 0 (deps (r.map entD)) ≤ 1
    omega
  | some e :: r => by
    have := deps_plan r
    have e1 : dep (tupD e) = 1 := by show dep (.tup (e.map Dt.int)) = 1; rw [dep, deps_ints]
    show max (dep (tupD e)) (deps (r.map entD)) ≤ 1
    omega
theorem small_v {v : Int} (h : -2000000 ≤ v ∧ v ≤ 2000000) : v.natAbs < 2 ^ 1900 := Nat.lt_of_le_of_lt (by omega : v.natAbs ≤ 2000000) (Nat.lt_of_lt_of_le (by decide : 2000000 < 2 ^ 21) (Nat.pow_le_pow_right (by decide) (by decide)))
theorem ats_refN (H : Hp) (v : Int) : Ats H (refN v) [.str "node", .int v, .bl true, .bl true, .bl true, .bl false] := .cons (.str _) (.cons (.int _) (.cons (.bl _) (.cons (.bl _) (.cons (.bl _) (.cons (.bl _) .nil)))))
theorem ats_refB (H : Hp) (u : Nat) : Ats H (refB u) [.str "plan", .int u, .bl false, .bl true, .bl true, .bl false] := .cons (.str _) (.cons (.int _) (.cons (.bl _) (.cons (.bl _) (.cons (.bl _) (.cons (.bl _) .nil)))))
def spPlayed (C : Addr) : Sp := fun vs H Q _ => ∃ (g E0 a : Addr) (h : Int) (os : List Bool) (v : Int) (ss es : List (List Int)) (ts : List Addr) (ps : List V) (pe : List (Option (List Int))), vs = [.ref g, .ref E0, .ref a, .int v] ∧ GameAt C H g h os ss ∧ (1 ≤ os.length ∧ os.length ≤ 9) ∧ (h = 1 ∨ h = 2 ∨ h = 3) ∧ (∀ e ∈ es, EdgeOk h os.length e) ∧ es.length ≤ 63 ∧ ss.Perm es ∧ H E0 = some (.lst (ts.map V.ref)) ∧ RowsH H ts es ∧ H a = some (.lst ps) ∧ PlanH H ps pe ∧ pe.length = os.length ∧ (-2000000 ≤ v ∧ v ≤ 2000000) ∧ ∀ H', Same H H' → Q (.bl true) H'
theorem ok_played (T : Txt P K mg ζ) : Cal P w K mg base 7 "_law_played" (spPlayed ζ.Game) := by
  have c_same : Cal P w K mg base 6 "_law_same" (spSame 4) := ok_same T 4
  have c_refusal : Cal P w K mg base 6 "_law_refusal" (spRefusal ζ.Game) := ok_refusal T
  have c_line : Cal P w K mg base 2 "_law_line" spLine := ok_line T
  have c_walked : Cal P w K mg base 1 "_law_walked" spWalked := ok_walked T
  have c_play : Cal P w K mg base 4 "play" (spPlay ζ.Game) := ok_play T
  refine T.d_played.cal sc_played (fun vs H Q E h => ?_) (fun f cdv A outer s H vs Q E hr h => ⟨_, pss_cons (ps_set (i := 4) sc_played.nd rfl (Or.inl rfl) (pe_callTy call_list_of (by rfl) T.n_list b_list (pa_cons (pv 2) (pa_nil))))
 (pss_cons (ps_if (PW.pt (pw_or (pt_cmpR op_lt (pv 3) (pe_int) (nomark _)) (pw_or1 (pt_cmpR op_ge (pv 3) (pe_callB call_len_seq (by rfl) T.n_len b_len (pa_cons (pv 2) (pa_nil))) (nomark _)))))
 (pss_cons (ps_set (i := 5) sc_played.nd rfl (Or.inl rfl) (pe_lst (pa_cons (pe_str) (pa_cons (pv 3) (pa_cons (pe_bl) (pa_cons (pe_bl) (pa_cons (pe_bl) (pa_cons (pe_bl) (pa_nil)))))))))
 (pss_one (ps_ret (pe_and (pe_c c_same hr (by first | decide | omega) (by rfl) (pa_cons (pe_c c_refusal hr (by first | decide | omega) (by rfl) (pa_cons (pv 0) (pa_cons (pv 4) (pa_cons (pv 3) (pa_nil))))) (pa_cons (pv 5) (pa_nil)))) (pe_one (pe_c c_same hr (by first | decide | omega) (by rfl) (pa_cons (pv 4) (pa_cons (pv 2) (pa_nil)))))))))
 (pss_nil))
 (pss_cons (ps_set (i := 6) sc_played.nd rfl (Or.inl rfl) (pe_c c_line hr (by first | decide | omega) (by rfl) (pa_cons (pv 1) (pa_cons (pv 2) (pa_cons (pv 3) (pa_nil))))))
 (pss_cons (ps_set (i := 7) sc_played.nd rfl (Or.inl rfl) (pe_ix ix_list (pv 6) (pe_op op_sub (pe_callB call_len_seq (by rfl) T.n_len b_len (pa_cons (pv 6) (pa_nil))) (pe_int)) (fun _ _ => rfl)))
 (pss_cons (ps_if (pt_cmpR op_notIn_seq (pv 7) (pe_slice sl_list (pv 6) (po_none) (po_some (pe_op op_sub (pe_callB call_len_seq (by rfl) T.n_len b_len (pa_cons (pv 6) (pa_nil))) (pe_int)))) rfl)
 (pss_cons (ps_set (i := 5) sc_played.nd rfl (Or.inl rfl) (pe_lst (pa_cons (pe_str) (pa_cons (pv 7) (pa_cons (pe_bl) (pa_cons (pe_bl) (pa_cons (pe_bl) (pa_cons (pe_bl) (pa_nil)))))))))
 (pss_one (ps_ret (pe_and (pe_c c_same hr (by first | decide | omega) (by rfl) (pa_cons (pe_c c_refusal hr (by first | decide | omega) (by rfl) (pa_cons (pv 0) (pa_cons (pv 4) (pa_cons (pv 3) (pa_nil))))) (pa_cons (pv 5) (pa_nil)))) (pe_one (pe_c c_same hr (by first | decide | omega) (by rfl) (pa_cons (pv 4) (pa_cons (pv 2) (pa_nil)))))))))
 (pss_nil))
 (pss_cons (ps_for PassesOwn.never rfl (pi_range1 rfl T.n_range (pa_cons (pe_int) (pa_nil))) (pg_name (i := 8) sc_played.nd rfl (Or.inl rfl))
 (pss_cons (ps_set (i := 9) sc_played.nd rfl (Or.inl rfl) (pe_c c_play hr (by first | decide | omega) (by rfl) (pa_cons (pv 0) (pa_cons (pv 4) (pa_cons (pv 3) (pa_nil))))))
 (pss_cons (ps_if (PW.pt (pw_or (pt_not (pt_val (pe_c c_same hr (by first | decide | omega) (by rfl) (pa_cons (pv 9) (pa_cons (pe_c c_walked hr (by first | decide | omega) (by rfl) (pa_cons (pv 2) (pa_cons (pv 6) (pa_nil)))) (pa_nil)))))) (pw_or1 (pt_not (pt_val (pe_c c_same hr (by first | decide | omega) (by rfl) (pa_cons (pv 4) (pa_cons (pv 2) (pa_nil)))))))))
 (pss_one (ps_ret (pe_bl)))
 (pss_nil))
 (pss_cons (ps_expr (pe_bm PySem.F.plainAttrs_list PySem.F.slot_list_append PySem.F.type_list_append mt_append (pe_ix ix_tup (pv 9) pe_int (fun _ _ => rfl)) (pa_cons (pe_ix ix_list (pe_ix ix_tup (pv 9) pe_int (fun _ _ => rfl)) pe_int (fun _ _ => rfl)) (pa_nil))))
 (pss_cons (ps_asg (pe_tup (pa_cons (pe_int) (pa_cons (pe_int) (pa_cons (pe_int) (pa_nil))))) (pg_sub (pe_ix ix_tup (pv 9) pe_int (fun _ _ => rfl)) (pe_int) set_list))
 (pss_one (ps_expr (pe_bm PySem.F.plainAttrs_list PySem.F.slot_list_append PySem.F.type_list_append mt_append (pe_ix ix_tup (pv 9) pe_int (fun _ _ => rfl)) (pa_cons (pe_tup (pa_cons (pe_int) (pa_cons (pe_int) (pa_cons (pe_int) (pa_nil))))) (pa_nil))))))))))
 (pss_one (ps_ret (pe_bl)))))))), ?_⟩)
  · obtain ⟨g, E0, a, h, os, v, ss, es, ts, ps, pe, rfl, _⟩ := h; rfl
  obtain ⟨g, E0, a, h, os, v, ss, es, ts, ps, pe, rfl, GA, hn, hh, hok, hl, pm, hE, hT, ha, hP, hpl, hv, kk⟩ := h
  refine ⟨_, rfl, a, _, rfl, .inl (SqL.of ha), fun B hB => ?_⟩
  have s1 : Same H (upd H B (.lst ps)) := same_new hB
  have hB1 : (upd H B (.lst ps)) B = some (.lst ps) := upd_same
  generalize upd H B (.lst ps) = H1 at s1 hB1 ⊢
  have psl : ps.length ≤ 100000 := by have := hP.1; omega
  have plAt : ∀ H' b, Same H H' → H' b = some (.lst ps) → At H' (.ref b) (.lst (pe.map entD)) := fun H' b s hb => .lst hb (ats_plan (hP.same s)) psl
  have plD : dep (.lst (pe.map entD)) < 4 := by have := deps_plan pe; rw [dep]; omega
  have ssok : ∀ e ∈ ss, EdgeOk h os.length e := fun e he => hok e (pm.mem_iff.mp he)
  have ssl : ss.length ≤ 63 := by rw [pm.length_eq]; exact hl
  have hpsl := hP.1
  refine ⟨_, rfl, _, _, rfl, rfl, _, rfl, ite_b (fun c1 => iteT ?_) (fun c1 => ⟨_, rfl, _, rfl, a, _, rfl, .inl (SqL.of (s1 _ _ ha)), _, _, rfl, rfl, _, rfl, ite_b (fun c2 => ?_) (fun c2 => ?_)⟩)⟩
  · have c1 := of_decide_eq_true c1
    · skip
      refine ⟨_, rfl, (by show 6 ≤ sizeLine; decide), fun U hU => ?_⟩
      have s2 : Same H1 (upd H1 U (.lst [.str "node", .int v, .bl true, .bl true, .bl true, .bl false])) := same_new hU
      have hU2 : (upd H1 U (.lst [.str "node", .int v, .bl true, .bl true, .bl true, .bl false])) U = some (.lst (refN v)) := upd_same
      generalize upd H1 U (.lst [.str "node", .int v, .bl true, .bl true, .bl true, .bl false]) = H2 at s2 hU2 ⊢
      refine ⟨_, rfl, _, rfl, _, rfl, g, B, h, os, v, ss, rfl, (GA.same s1).same s2, .inl ⟨small_v hv, (by omega), fun H3 m s3 hm => ?_⟩⟩
      refine ⟨_, rfl, _, _, _, _, rfl, .lst hm (ats_refN H3 v) (by show 6 ≤ 100000; decide), .lst (s3 _ _ hU2) (ats_refN H3 v) (by show 6 ≤ 100000; decide), (by show 0 + 1 < 4; decide), fun b hb => ?_⟩
      rw [hb.mpr rfl]
      have t3 := s1.trans (s2.trans s3)
      refine ⟨_, rfl, iteT ⟨_, rfl, _, rfl, _, _, _, _, rfl, plAt _ _ t3 ((s2.trans s3) _ _ hB1), plAt _ _ t3 (t3 _ _ ha), plD, fun b2 hb2 => ?_⟩⟩
      rw [hb2.mpr rfl]
      exact kk _ t3
  · have c2 := of_decide_eq_true c2
    · skip
      refine ⟨_, rfl, (by show 6 ≤ sizeLine; decide), fun U hU => ?_⟩
      have s2 : Same H1 (upd H1 U (.lst [.str "node", .int v, .bl true, .bl true, .bl true, .bl false])) := same_new hU
      have hU2 : (upd H1 U (.lst [.str "node", .int v, .bl true, .bl true, .bl true, .bl false])) U = some (.lst (refN v)) := upd_same
      generalize upd H1 U (.lst [.str "node", .int v, .bl true, .bl true, .bl true, .bl false]) = H2 at s2 hU2 ⊢
      refine ⟨_, rfl, _, rfl, _, rfl, g, B, h, os, v, ss, rfl, (GA.same s1).same s2, .inl ⟨small_v hv, (by omega), fun H3 m s3 hm => ?_⟩⟩
      refine ⟨_, rfl, _, _, _, _, rfl, .lst hm (ats_refN H3 v) (by show 6 ≤ 100000; decide), .lst (s3 _ _ hU2) (ats_refN H3 v) (by show 6 ≤ 100000; decide), (by show 0 + 1 < 4; decide), fun b hb => ?_⟩
      rw [hb.mpr rfl]
      have t3 := s1.trans (s2.trans s3)
      refine ⟨_, rfl, iteT ⟨_, rfl, _, rfl, _, _, _, _, rfl, plAt _ _ t3 ((s2.trans s3) _ _ hB1), plAt _ _ t3 (t3 _ _ ha), plD, fun b2 hb2 => ?_⟩⟩
      rw [hb2.mpr rfl]
      exact kk _ t3
  have c1 := of_decide_eq_false c1
  have c2 := of_decide_eq_false c2
  obtain ⟨n, rfl⟩ : ∃ n : Nat, v = n := ⟨v.toNat, by omega⟩
  have hnl : n < pe.length := by omega
  have hok2 : ∀ e ∈ es, EdgeOk h pe.length e := by rw [hpl]; exact hok
  refine ⟨_, rfl, _, rfl, _, rfl, E0, a, h, n, ts, es, ps, pe, rfl, s1 _ _ hE, hT.same s1, hok2, s1 _ _ ha, hP.same s1, hnl, by omega, fun H2 L s2 _ hL => ?_⟩
  obtain ⟨vis, u, er, hvis, hu9⟩ := run_facts (f := nxt es pe) (n := pe.length) (fun x g q => nxt_lt hok2 q) pe.length [] n (fun x z => by cases z) hnl
  have er : run (nxt es pe) pe.length [n] = vis ++ [u] := er
  rw [er] at hL
  have ers : run (nxt ss pe) os.length [n] = vis ++ [u] := by rw [nxt_perm pm, ← hpl]; exact er
  have lenL : ((vis ++ [u]).map natV).length = vis.length + 1 := by rw [List.length_map, List.length_append]; rfl
  have atl : atI ((vis ++ [u]).map natV) ((((vis ++ [u]).map natV).length : Int) - 1) = some (natV u) := by
    rw [lenL, show (((vis.length + 1 : Nat) : Int) - 1) = (vis.length : Int) by omega]
    exact atI_nat (by rw [List.getElem?_map, List.getElem?_append_right (Nat.le_refl _), Nat.sub_self]; rfl)
  have ec : cutV ((vis ++ [u]).map natV) none (some ((((vis ++ [u]).map natV).length : Int) - 1)) = vis.map natV := by
    rw [lenL, show (((vis.length + 1 : Nat) : Int) - 1) = (vis.length : Int) by omega, cut_to (by rw [lenL]; omega), ← List.map_take, List.take_left' rfl]
  refine ⟨_, rfl, _, rfl, L, _, rfl, .inl (SqL.of hL), _, _, rfl, rfl, L, _, _, natV u, rfl, rfl, SqL.of hL, atl, ?_⟩
  refine ⟨_, rfl, _, rfl, _, rfl, L, _, rfl, .inl (SqL.of hL), _, _, rfl, rfl, _, rfl, L, _, rfl, SqL.of hL, fun P hP3 => ?_⟩
  rw [ec]
  have s3 : Same H2 (upd H2 P (.lst (vis.map natV))) := same_new hP3
  refine ⟨P, _, rfl, .inl (SqL.of upd_same), rfl, flat_nats vis, _, rfl, ?_⟩
  have t1 := inV_nats u vis
  show (if (!inV (natV u) (vis.map natV)) = true then _ else _)
  rw [t1]
  generalize upd H2 P (.lst (vis.map natV)) = H3 at s3 ⊢
  have s13 := s2.trans s3
  have t3 := s1.trans s13
  refine ite_b (fun d => ?_) (fun d => ?_)
  · have un : u ∉ vis := fun z => by rw [decide_eq_true z] at d; cases d
    refine ⟨_, rfl, (by show 6 ≤ sizeLine; decide), fun U hU => ?_⟩
    have s4 : Same H3 (upd H3 U (.lst [.str "plan", natV u, .bl false, .bl true, .bl true, .bl false])) := same_new hU
    have hU4 : (upd H3 U (.lst [.str "plan", natV u, .bl false, .bl true, .bl true, .bl false])) U = some (.lst (refB u)) := upd_same
    generalize upd H3 U (.lst [.str "plan", natV u, .bl false, .bl true, .bl true, .bl false]) = H4 at s4 hU4 ⊢
    have t4 := t3.trans s4
    refine ⟨_, rfl, _, rfl, _, rfl, g, B, h, os, (n : Int), ss, rfl, GA.same t4, .inr ⟨n, ps, pe, vis, u, rfl, hn.2, hh, ssok, ssl, (s13.trans s4) _ _ hB1, hP.same t4, hpl, by omega, ers, un, by omega, fun H5 m s5 hm => ?_⟩⟩
    refine ⟨_, rfl, _, _, _, _, rfl, .lst hm (ats_refB H5 u) (by show 6 ≤ 100000; decide), .lst (s5 _ _ hU4) (ats_refB H5 u) (by show 6 ≤ 100000; decide), (by show 0 + 1 < 4; decide), fun b hb => ?_⟩
    rw [hb.mpr rfl]
    have t5 := t4.trans s5
    refine ⟨_, rfl, iteT ⟨_, rfl, _, rfl, _, _, _, _, rfl, plAt _ _ t5 ((s13.trans (s4.trans s5)) _ _ hB1), plAt _ _ t5 (t5 _ _ ha), plD, fun b2 hb2 => ?_⟩⟩
    rw [hb2.mpr rfl]
    exact kk _ t5
  · have uin : u ∈ vis := by
      by_cases z : u ∈ vis
      · exact z
      · rw [decide_eq_false z] at d; cases d
    have hF : Full pe vis := fun x hx => by
      obtain ⟨q1, q2⟩ := hvis x hx
      obtain ⟨r, er, rin, _, _⟩ := nxt_row q1
      obtain ⟨_, _, _, rfl, _⟩ := hok r rin
      exact ⟨q2, _, er, rfl⟩
    have run_len : run (nxt es pe) pe.length [n] = vis ++ [u] → vis.length ≤ 9 := fun e => by
      have := run_length (f := nxt es pe) pe.length [] n
      have e2 : run (nxt es pe) pe.length ([] ++ [n]) = vis ++ [u] := e
      rw [e2, List.length_append] at this
      simp at this; omega
    have fl := fix_lt uin
    refine ⟨_, rfl, by decide, by decide, ?_⟩
    have hB3 := s13 _ _ hB1
    have hL3 := s3 _ _ hL
    refine for_range (lo := 0) (n := 2) (fun i σ H' => Same H3 H' ∧ ∃ z5 z8 z9 : Option V, σ = [some (.ref g), some (.ref E0), some (.ref a), some (.int (n : Int)), some (.ref B), z5, some (.ref L), some (natV u), z8, z9]) ⟨Same.refl _, _, _, _, rfl⟩ ?_ ?_
    · rintro i σ H4 hi ⟨s4, z5, z8, z9, rfl⟩
      have t4 := t3.trans s4
      refine ⟨_, rfl, _, rfl, _, rfl, g, B, h, os, n, ss, ps, pe, vis, u, rfl, GA.same t4, hn.2, hh, ssok, ssl, s4 _ _ hB3, hP.same t4, hpl, by omega, ers, uin, fun H5 t w c us ts2 m s5 hw hc nwc ht hwl hwr hcl hcr hm hmx => ?_⟩
      have t5 := t4.trans s5
      refine ⟨_, rfl, _, rfl, _, rfl, a, L, ps, pe, vis, u, rfl, t5 _ _ ha, hP.same t5, s5 _ _ (s4 _ _ hL3), uin, hF, run_len er, fun H6 t6 m2 s6 hat hm2 hmx2 => ?_⟩
      have em : m2 = m := Int.le_antisymm (hmx m2 hm2) (hmx2 m hm)
      subst em
      have fd : Full pe (vis.drop (fix u vis)) := fun x hx => hF x (List.mem_of_mem_drop hx)
      have ft : Full pe (vis.take (fix u vis)) := fun x hx => hF x (List.mem_of_mem_take hx)
      have v9 := run_len er
      have dl : (wr pe (vis.drop (fix u vis))).length ≤ 100 := by rw [wr, List.length_map, List.length_drop]; omega
      have tl : (wr pe (vis.take (fix u vis))).length ≤ 100 := by rw [wr, List.length_map, List.length_take]; omega
      have hcl6 := s6 _ _ hcl
      have hwl6 := s6 _ _ hwl
      have ht6 := s6 _ _ ht
      have wD : dep (walkD pe vis u m2) < 4 := by
        have a1 := deps_parts (wr pe (vis.take (fix u vis)))
        have a2 := deps_parts (wr pe (vis.drop (fix u vis)))
        unfold walkD
        rw [dep]
        show max 0 (max (deps ((wr pe (vis.take (fix u vis))).map tupD) + 1) (max (deps ((wr pe (vis.drop (fix u vis))).map tupD) + 1) 0)) + 1 < 4
        omega
      refine ⟨_, _, walkD pe vis u m2, walkD pe vis u m2, rfl, .tup ht6 (.cons (.str _) (.cons (atL_rows hwl6 (hwr.same s6) ft.wr3 tl) (.cons (atL_rows hcl6 (hcr.same s6) fd.wr3 dl) .nil))) (by show 3 ≤ 100000; decide), hat, wD, fun b hb => ?_⟩
      rw [hb.mpr rfl]
      have t46 := t5.trans s6
      refine ⟨_, rfl, iteF ⟨_, rfl, _, rfl, _, _, _, _, rfl, plAt _ _ t46 ((s4.trans (s5.trans s6)) _ _ hB3), plAt _ _ t46 (t46 _ _ ha), plD, fun b2 hb2 => ?_⟩⟩
      rw [hb2.mpr rfl]
      refine ⟨_, rfl, iteF ?_⟩
      have cl : 0 < ts2.length := by rw [hcr.1, wr, List.length_map, List.length_drop]; omega
      obtain ⟨y0, ey⟩ : ∃ y0, ts2[0]? = some y0 := ⟨_, List.getElem?_eq_getElem cl⟩
      have at0 : atI (ts2.map V.ref) 0 = some (V.ref y0) := atI_nat (j := 0) (by rw [List.getElem?_map, ey]; rfl)
      have ntc : t ≠ c := ne_of ht hcl (by intro z; cases z)
      have ntw : t ≠ w := ne_of ht hwl (by intro z; cases z)
      have tsl : ts2.length ≤ 100 := by rw [hcr.1]; exact dl
      have usl : us.length ≤ 100 := by rw [hwr.1]; exact tl
      refine ⟨_, rfl, t, _, _, .ref c, rfl, rfl, SqT.of ht6, rfl, .inl ⟨rfl, _, SqL.of hcl6⟩, _, rfl, t, _, _, .ref c, rfl, rfl, SqT.of ht6, rfl, c, _, _, _, rfl, rfl, SqL.of hcl6, at0, c, _, _, rfl, rfl, hcl6, (by rw [List.length_map, sizeLine_eq]; omega), ?_⟩
      have k7 : Keep c H6 (upd H6 c (.lst (ts2.map V.ref ++ [V.ref y0]))) := Keep.refl.upd
      have hc7 : (upd H6 c (.lst (ts2.map V.ref ++ [V.ref y0]))) c = some (.lst (ts2.map V.ref ++ [V.ref y0])) := upd_same
      generalize upd H6 c (.lst (ts2.map V.ref ++ [V.ref y0])) = H7 at k7 hc7 ⊢
      refine ⟨(by show 3 ≤ sizeLine; decide), fun t8 ht8 => ?_⟩
      have s8 : Same H7 (upd H7 t8 (.tup [.int 0, .int 0, .int 0])) := same_new ht8
      generalize upd H7 t8 (.tup [.int 0, .int 0, .int 0]) = H8 at s8 ⊢
      have ht8 := s8 _ _ (k7 _ ntc _ ht6)
      have hc8 := s8 _ _ hc7
      refine ⟨_, rfl, t, _, _, .ref c, rfl, rfl, SqT.of ht8, rfl, c, _, 0, 0, rfl, rfl, hc8, ixN_nat0 (by rw [List.length_append]; simp), ?_⟩
      have k9 : Keep c H8 (upd H8 c (.lst ((ts2.map V.ref ++ [V.ref y0]).set 0 (V.ref t8)))) := Keep.refl.upd
      generalize upd H8 c (.lst ((ts2.map V.ref ++ [V.ref y0]).set 0 (V.ref t8))) = H9 at k9 ⊢
      have kc : Keep c H6 H9 := fun b nb o e => k9 _ nb _ (s8 _ _ (k7 _ nb _ e))
      have ht9 := kc _ ntc _ ht6
      have hw9 := kc _ nwc _ hwl6
      refine ⟨_, rfl, t, _, _, .ref w, rfl, rfl, SqT.of ht9, rfl, .inl ⟨rfl, _, SqL.of hw9⟩, (by show 3 ≤ sizeLine; decide), fun t10 ht10 => ?_⟩
      have s10 : Same H9 (upd H9 t10 (.tup [.int 0, .int 0, .int 0])) := same_new ht10
      generalize upd H9 t10 (.tup [.int 0, .int 0, .int 0]) = H10 at s10 ⊢
      have hw10 := s10 _ _ hw9
      refine ⟨w, _, _, rfl, rfl, hw10, (by rw [List.length_map, sizeLine_eq]; omega), fun b o e => ?_, _, _, _, rfl⟩
      have eb := s4 _ _ e
      have nbc : b ≠ c := ne_of_none eb hc
      have nbw : b ≠ w := ne_of_none eb hw
      rw [upd_ne nbw]
      exact s10 _ _ (kc _ nbc _ (s6 _ _ (s5 _ _ eb)))
    · rintro σ H4 ⟨s4, _⟩
      exact kk _ (t3.trans s4)
end
end LR

set_option Elab.async false
set_option maxRecDepth 100000
set_option linter.all false
set_option maxHeartbeats 4000000
namespace LR
open PySem PySem.Spec PyProof.Rows L2
section
variable {P : Program} {w : World} {K : PySem.W.Frag} {mg : Str → Option Value} {base : Heap} {ζ : Cs}
def spOwners : Sp := fun vs H Q _ => ∃ (p : Addr) (n : Nat), vs = [.ref p, .int n] ∧ IsPool H p ∧ n ≤ 9 ∧ ∀ H' (os : List Bool), Keep p H H' → IsPool H' p → os.length = n → Q (.str (strO os)) H'
theorem ok_owners (T : Txt P K mg ζ) : Cal P w K mg base 2 "_law_owners" spOwners := by
  have c_draw : Cal P w K mg base 1 "_law_draw" spDraw := ok_draw T
  refine T.d_owners.cal sc_owners (fun vs H Q E h => ?_) (fun f cdv A outer s H vs Q E hr h => ⟨_, pss_cons (ps_set (i := 2) sc_owners.nd rfl (Or.inl rfl) (pe_str))
 (pss_cons (ps_for PassesOwn.never rfl (pi_range1 rfl T.n_range (pa_cons (pv 1) (pa_nil))) (pg_name (i := 3) sc_owners.nd rfl (Or.inl rfl))
 (pss_one (ps_set (i := 2) sc_owners.nd rfl (Or.inl rfl) (pe_op op_add_str (pv 2) (pe_ix ix_str pe_str (pe_c c_draw hr (by first | decide | omega) (by rfl) (pa_cons (pv 0) (pa_cons (pe_int) (pa_nil)))) (fun _ _ => rfl))))))
 (pss_one (ps_ret (pv 2)))), ?_⟩)
  · obtain ⟨p, n, rfl, _⟩ := h; rfl
  obtain ⟨p, n, rfl, hp, hn, kk⟩ := h
  refine ⟨_, rfl, _, rfl, by omega, by omega, ?_⟩
  refine for_range (lo := 0) (n := ((n : Nat) : Int).toNat) (fun i σ H' => Keep p H H' ∧ IsPool H' p ∧ ∃ (os : List Bool) (z : Option V), os.length = i ∧ σ = [some (.ref p), some (.int n), some (.str (strO os)), z]) ⟨Keep.refl, hp, [], none, rfl, rfl⟩ ?_ ?_
  · rintro i σ H2 hi ⟨k2, p2, os, z, hl, rfl⟩
    rw [Int.toNat_natCast] at hi
    have hle := strO_len os
    refine ⟨_, rfl, _, rfl, p, 2, rfl, p2, by decide, by decide, fun d H3 d0 d1 k3 p3 => ?_⟩
    obtain ⟨b, hb⟩ : ∃ b : Bool, atI ("AB" : Str).cps.toList d = some (ltr b) := by
      rcases (by omega : d = 0 ∨ d = 1) with q | q
      · subst q; exact ⟨true, rfl⟩
      · subst q; exact ⟨false, rfl⟩
    refine ⟨("AB" : Str), d, ltr b, rfl, rfl, (by show 2 ≤ sizeLine; decide), hb, strO os, ⟨#[ltr b]⟩, rfl, rfl, ?_, k2.trans k3, p3, os ++ [b], some (.int (0 + (i : Nat))), ?_, ?_⟩
    · rw [hle, sizeLine_eq]; show _ + 1 ≤ _; omega
    · rw [List.length_append, hl]; rfl
    · rw [strO_snoc]; rfl
  · rintro σ H2 ⟨k2, p2, os, z, hl, rfl⟩
    exact ⟨_, rfl, kk _ os k2 p2 (by rw [hl, Int.toNat_natCast])⟩
end
end LR

set_option Elab.async false
set_option maxRecDepth 100000
set_option linter.all false
set_option maxHeartbeats 4000000
namespace LR
open PySem PySem.Spec PyProof.Rows L2
section
variable {P : Program} {w : World} {K : PySem.W.Frag} {mg : Str → Option Value} {base : Heap} {ζ : Cs}
def HasAll (n : Nat) (es : List (List Int)) : Prop := ∀ v : Nat, v < n → ∃ e ∈ es, e.head? = some (v : Int)
def spEdges (m : Nat) : Sp := fun vs H Q _ => ∃ (p : Addr) (h : Int) (n : Nat), vs = [.ref p, .int h, .int n] ∧ IsPool H p ∧ (h = 1 ∨ h = 2 ∨ h = 3) ∧ (1 ≤ n ∧ n ≤ m) ∧
  ∀ H' D ts es, Keep p H H' → IsPool H' p → H D = none → D ≠ p → H' D = some (.lst (ts.map V.ref)) → RowsH H' ts es → es.length ≤ 63 → (∀ e ∈ es, EdgeOk h n e) → es.Nodup → HasAll n es → Q (.ref D) H'
theorem edge_app {p D t : Addr} {H H8 : Hp} {ts : List Addr} {es : List (List Int)} {h : Int} {n : Nat} {e : List Int} (nD : D ≠ p) (hD0 : H D = none) (k8 : Keep p H H8) (p8 : IsPool H8 p) (hL8 : H8 D = some (.lst (ts.map V.ref))) (hT8 : RowsH H8 ts es) (he : H8 t = some (.tup (e.map V.int))) (eok : EdgeOk h n e) (nin : e ∉ es) (hok : ∀ e ∈ es, EdgeOk h n e) (hnd : es.Nodup) :
    Keep p H (upd H8 D (.lst (ts.map V.ref ++ [.ref t]))) ∧ IsPool (upd H8 D (.lst (ts.map V.ref ++ [.ref t]))) p ∧ (upd H8 D (.lst (ts.map V.ref ++ [.ref t]))) D = some (.lst ((ts ++ [t]).map V.ref)) ∧ RowsH (upd H8 D (.lst (ts.map V.ref ++ [.ref t]))) (ts ++ [t]) (es ++ [e]) ∧ (∀ f ∈ es ++ [e], EdgeOk h n f) ∧ (es ++ [e]).Nodup := by
  have tD : ∀ (k : Nat) (u : Addr) (e : List Int), ts[k]? = some u → es[k]? = some e → u ≠ D := fun k u e a b => ne_of (hT8.2 k u e a b) hL8 (by intro z; cases z)
  refine ⟨fun b nb o e => ?_, ?_, by rw [upd_same, List.map_append]; rfl, RowsH.snoc ⟨hT8.1, fun k u e a b => ?_⟩ ?_, fun f hf => ?_, ?_⟩
  · rw [upd_ne (ne_of_none e hD0)]; exact k8 b nb o e
  · obtain ⟨x, y, z, q, p8⟩ := p8
    exact ⟨x, y, z, q, by rw [upd_ne nD.symm, p8]⟩
  · rw [upd_ne (tD k u e a b)]; exact hT8.2 k u e a b
  · rw [upd_ne (ne_of he hL8 (by intro z; cases z))]; exact he
  · rcases List.mem_append.mp hf with q | q
    · exact hok f q
    · have : f = e := by simpa using q
      subst this; exact eok
  · rw [List.nodup_append]
    exact ⟨hnd, by simp, fun a ha b hb q => by have : b = e := by simpa using hb
                                               subst this; subst q; exact nin ha⟩
theorem HasAll.app {n : Nat} {es l : List (List Int)} (a : HasAll n es) : HasAll n (es ++ l) := fun v hv => by
  obtain ⟨e, he, q⟩ := a v hv
  exact ⟨e, List.mem_append_left _ he, q⟩
theorem HasAll.up {n : Nat} {es : List (List Int)} {e : List Int} (a : HasAll n es) (he : e ∈ es) (q : e.head? = some (n : Int)) : HasAll (n + 1) es := fun v hv => by
  rcases Nat.lt_succ_iff_lt_or_eq.mp hv with l | rfl
  · exact a v l
  · exact ⟨e, he, q⟩
theorem ok_ring (T : Txt P K mg ζ) : Cal P w K mg base 2 "_law_ring_edges" (spEdges 7) := by
  have c_draw : Cal P w K mg base 1 "_law_draw" spDraw := ok_draw T
  refine T.d_ring_edges.cal sc_ring_edges (fun vs H Q E h => ?_) (fun f cdv A outer s H vs Q E hr h => ⟨_, pss_cons (ps_set (i := 3) sc_ring_edges.nd rfl (Or.inl rfl) (pe_lst (pa_nil)))
 (pss_cons (ps_for PassesOwn.never rfl (pi_range1 rfl T.n_range (pa_cons (pv 2) (pa_nil))) (pg_name (i := 4) sc_ring_edges.nd rfl (Or.inl rfl))
 (pss_one (ps_for PassesOwn.never rfl (pi_range1 rfl T.n_range (pa_cons (pe_op op_add (pe_int) (pe_c c_draw hr (by first | decide | omega) (by rfl) (pa_cons (pv 0) (pa_cons (pe_int) (pa_nil))))) (pa_nil))) (pg_name (i := 5) sc_ring_edges.nd rfl (Or.inl rfl))
 (pss_cons (ps_set (i := 6) sc_ring_edges.nd rfl (Or.inl rfl) (pe_c c_draw hr (by first | decide | omega) (by rfl) (pa_cons (pv 0) (pa_cons (pe_op op_add (pe_op op_mul (pe_int) (pv 1)) (pe_int)) (pa_nil)))))
 (pss_cons (ps_set (i := 7) sc_ring_edges.nd rfl (Or.inl rfl) (pe_c c_draw hr (by first | decide | omega) (by rfl) (pa_cons (pv 0) (pa_cons (pe_op op_add (pv 2) (pv 2)) (pa_nil)))))
 (pss_cons (ps_set (i := 8) sc_ring_edges.nd rfl (Or.inl rfl) (pe_tup (pa_cons (pv 4) (pa_cons (pv 6) (pa_cons (pv 7) (pa_nil))))))
 (pss_cut (ps_if (pt_cmpR op_ge (pv 7) (pv 2) (nomark _))
 (pss_one (ps_set (i := 8) sc_ring_edges.nd rfl (Or.inl rfl) (pe_tup (pa_cons (pv 4) (pa_cons (pv 6) (pa_cons (pe_op op_mod (pe_callTy call_int1 (by rfl) T.n_int b_int (pa_cons (pe_op op_add (pv 4) (pe_int)) (pa_nil))) (pv 2)) (pa_nil)))))))
 (pss_nil))
 (pss_one (ps_if (pt_cmpR (op_notInD (Room.u65 hr)) (pv 8) (pv 3) rfl)
 (pss_one (ps_expr (pe_bm PySem.F.plainAttrs_list PySem.F.slot_list_append PySem.F.type_list_append mt_append (pv 3) (pa_cons (pv 8) (pa_nil)))))
 (pss_nil))))))))))
 (pss_one (ps_ret (pv 3)))), ?_⟩)
  · obtain ⟨p, h, n, rfl, _⟩ := h; rfl
  obtain ⟨p, h, n, rfl, hp, hh, hn, kk⟩ := h
  refine ⟨(by show 0 ≤ sizeLine; decide), fun D hD => ?_⟩
  have nD := hp.free hD
  refine ⟨_, rfl, _, rfl, by omega, by omega, ?_⟩
  refine for_range (lo := 0) (n := ((n : Nat) : Int).toNat) (fun i σ H' => Keep p H H' ∧ IsPool H' p ∧ (∃ ts es, H' D = some (.lst (ts.map V.ref)) ∧ RowsH H' ts es ∧ es.length ≤ 3 * i ∧ (∀ e ∈ es, EdgeOk h n e) ∧ es.Nodup ∧ HasAll i es) ∧ ∃ z4 z5 z6 z7 z8 : Option V, σ = [some (.ref p), some (.int h), some (.int n), some (.ref D), z4, z5, z6, z7, z8]) ⟨Keep.refl.new hD, hp.same (same_new hD), ⟨[], [], upd_same, RowsH.nil, Nat.le_refl _, (fun e z => by cases z), List.nodup_nil, fun v hv => absurd hv (Nat.not_lt_zero _)⟩, none, none, none, none, none, rfl⟩ ?_ ?_
  · rintro i σ H4 hi ⟨k4, p4, ⟨ts, es, hL, hT, hl, hok, hnd, hall⟩, z4, z5, z6, z7, z8, rfl⟩
    rw [Int.toNat_natCast] at hi
    rw [Int.zero_add]
    refine ⟨_, rfl, p, 3, rfl, p4, by decide, by decide, fun d H5 d0 d1 k5 p5 => ⟨_, _, rfl, rfl, _, rfl, by omega, by omega, ?_⟩⟩
    refine for_range (lo := 0) (n := (1 + d).toNat) (fun j σ H' => Keep p H H' ∧ IsPool H' p ∧ (∃ ts es, H' D = some (.lst (ts.map V.ref)) ∧ RowsH H' ts es ∧ es.length ≤ 3 * i + j ∧ (∀ e ∈ es, EdgeOk h n e) ∧ es.Nodup ∧ HasAll i es ∧ (0 < j → HasAll (i + 1) es)) ∧ ∃ z5 z6 z7 z8 : Option V, σ = [some (.ref p), some (.int h), some (.int n), some (.ref D), some (.int (i : Nat)), z5, z6, z7, z8]) ⟨k4.trans k5, p5, ⟨ts, es, k5 _ nD _ hL, hT.keep k5 p4.some, hl, hok, hnd, hall, fun z => absurd z (Nat.lt_irrefl _)⟩, z5, z6, z7, z8, rfl⟩ ?_ ?_
    · rintro j σ H6 hj ⟨k6, p6, ⟨ts, es, hL, hT, hl, hok, hnd, hall, _⟩, z5, z6, z7, z8, rfl⟩
      refine ⟨_, rfl, _, rfl, _, _, rfl, rfl, .inl ⟨by decide, by decide⟩, _, _, rfl, rfl, p, _, rfl, p6, by omega, by omega, fun r0 H7 r00 r01 k7 p7 => ?_⟩
      refine ⟨_, rfl, _, rfl, _, rfl, _, _, rfl, rfl, p, _, rfl, p7, by omega, by omega, fun g0 H8 g00 g01 k8 p8 => ?_⟩
      refine ⟨_, rfl, _, rfl, _, rfl, (by show 3 ≤ sizeLine; decide), fun t1 ht1 => ?_⟩
      have sA : Same H8 (upd H8 t1 (.tup [.int (i : Nat), .int r0, .int g0])) := same_new ht1
      have heA : (upd H8 t1 (.tup [.int (i : Nat), .int r0, .int g0])) t1 = some (.tup (([(i : Int), r0, g0] : List Int).map V.int)) := upd_same
      generalize upd H8 t1 (.tup [.int (i : Nat), .int r0, .int g0]) = HA at sA heA ⊢
      refine ⟨fun σ' H' => Same H8 H' ∧ ∃ (t : Addr) (gl : Int), (0 ≤ gl ∧ gl < n) ∧ H' t = some (.tup (([(i : Int), r0, gl] : List Int).map V.int)) ∧ σ' = [some (.ref p), some (.int h), some (.int n), some (.ref D), some (.int (i : Nat)), some (.int (0 + (j : Nat))), some (.int r0), some (.int g0), some (.ref t)], ?_, ?_⟩
      · refine ⟨_, rfl, _, rfl, _, _, rfl, rfl, _, rfl, ite_b (fun c => ?_) (fun c => ⟨sA, t1, g0, ⟨g00, ?_⟩, heA, rfl⟩)⟩
        · refine ⟨_, rfl, _, rfl, _, rfl, _, _, rfl, rfl, .inl ⟨_, rfl, _, rfl, _, _, rfl, rfl, (by omega), (by show 3 ≤ sizeLine; decide), fun t ht => ⟨sA.new ht, t, _, ⟨Int.emod_nonneg _ (by omega), Int.emod_lt_of_pos _ (by omega)⟩, upd_same, rfl⟩⟩⟩
        · have := of_decide_eq_false c
          omega
      rintro σ' H9 ⟨s9, t, gl, ⟨gl0, gl1⟩, he, rfl⟩
      have k68 := k7.trans k8
      have k9 : Keep p H H9 := (k6.trans k68).same s9
      have hL9 := s9 _ _ (k68 _ nD _ hL)
      have hT9 := (hT.keep k68 p6.some).same s9
      have p9 := p8.same s9
      have eok : EdgeOk h n [(i : Int), r0, gl] := ⟨i, r0, gl, rfl, ⟨by omega, by omega⟩, ⟨by omega, by omega⟩, ⟨by omega, by omega⟩⟩
      refine ⟨_, rfl, _, rfl, edgeP [(i : Int), r0, gl], es.map edgeP, dp_edge he, hT9.dp hL9, shaped_edge _, shaped_edges es, _, rfl, ?_⟩
      rw [any_edge]
      refine ite_b (fun c => ?_) (fun c => ?_)
      · have nin : [(i : Int), r0, gl] ∉ es := fun z => by rw [decide_eq_true z] at c; cases c
        refine ⟨_, rfl, .inl ⟨rfl, _, SqL.of hL9⟩, _, rfl, D, _, _, rfl, rfl, hL9, (by rw [List.length_map, hT9.1, sizeLine_eq]; omega), ?_⟩
        obtain ⟨a1, a2, a3, a4, a5, a6⟩ := edge_app nD hD k9 p9 hL9 hT9 he eok nin hok hnd
        exact ⟨a1, a2, ⟨_, _, a3, a4, by rw [List.length_append]; simp; omega, a5, a6, hall.app, fun _ => hall.app.up (List.mem_append_right _ List.mem_cons_self) rfl⟩, _, _, _, _, rfl⟩
      · have isin : [(i : Int), r0, gl] ∈ es := by
          by_cases z : [(i : Int), r0, gl] ∈ es
          · exact z
          · rw [decide_eq_false z] at c; cases c
        exact ⟨k9, p9, ⟨ts, es, hL9, hT9, by omega, hok, hnd, hall, fun _ => hall.up isin rfl⟩, _, _, _, _, rfl⟩
    · rintro σ H6 ⟨k6, p6, ⟨ts, es, hL, hT, hl, hok, hnd, hall, hall2⟩, z5, z6, z7, z8, rfl⟩
      exact ⟨k6, p6, ⟨ts, es, hL, hT, by omega, hok, hnd, hall2 (by omega)⟩, _, _, _, _, _, rfl⟩
  · rintro σ H4 ⟨k4, p4, ⟨ts, es, hL, hT, hl, hok, hnd, hall⟩, z4, z5, z6, z7, z8, rfl⟩
    rw [Int.toNat_natCast] at hl hall
    exact ⟨_, rfl, kk _ D ts es k4 p4 hD nD hL hT (by omega) hok hnd hall⟩
theorem ok_any (T : Txt P K mg ζ) : Cal P w K mg base 2 "_law_any_edges" (spEdges 9) := by
  have c_draw : Cal P w K mg base 1 "_law_draw" spDraw := ok_draw T
  refine T.d_any_edges.cal sc_any_edges (fun vs H Q E h => ?_) (fun f cdv A outer s H vs Q E hr h => ⟨_, pss_cons (ps_setLc (i := 3) (own := [("node", 4)]) (g := gName 4) (tt := tYes)  rfl sc_any_edges.nd rfl rfl (sw_true rfl rfl rfl (by decide +kernel)) (pi_range1 rfl T.n_range (pa_cons (pv 2) (pa_nil))) (blkOk_by (N := N_any_edges) (sc := defScope s_any_edges) (by decide +kernel)) (fun _ _ _ _ _ => pg_name (i := 4) sc_any_edges.nd rfl (Or.inl rfl)) (fun _ _ _ _ _ => pts_nil) (fun _ _ _ _ _ => pe_tup (pa_cons (pv 4) (pa_cons (pe_c c_draw hr (by first | decide | omega) (by rfl) (pa_cons (pv 0) (pa_cons (pe_op op_add (pe_op op_mul (pe_int) (pv 1)) (pe_int)) (pa_nil)))) (pa_cons (pe_c c_draw hr (by first | decide | omega) (by rfl) (pa_cons (pv 0) (pa_cons (pv 2) (pa_nil)))) (pa_nil))))))
 (pss_cons (ps_for PassesOwn.never rfl (pi_range1 rfl T.n_range (pa_cons (pe_c c_draw hr (by first | decide | omega) (by rfl) (pa_cons (pv 0) (pa_cons (pe_op op_sub (pe_int) (pv 2)) (pa_nil)))) (pa_nil))) (pg_name (i := 5) sc_any_edges.nd rfl (Or.inl rfl))
 (pss_cons (ps_set (i := 6) sc_any_edges.nd rfl (Or.inl rfl) (pe_tup (pa_cons (pe_c c_draw hr (by first | decide | omega) (by rfl) (pa_cons (pv 0) (pa_cons (pv 2) (pa_nil)))) (pa_cons (pe_c c_draw hr (by first | decide | omega) (by rfl) (pa_cons (pv 0) (pa_cons (pe_op op_add (pe_op op_mul (pe_int) (pv 1)) (pe_int)) (pa_nil)))) (pa_cons (pe_c c_draw hr (by first | decide | omega) (by rfl) (pa_cons (pv 0) (pa_cons (pv 2) (pa_nil)))) (pa_nil))))))
 (pss_one (ps_if (pt_cmpR (op_notInD (Room.u65 hr)) (pv 6) (pv 3) rfl)
 (pss_one (ps_expr (pe_bm PySem.F.plainAttrs_list PySem.F.slot_list_append PySem.F.type_list_append mt_append (pv 3) (pa_cons (pv 6) (pa_nil)))))
 (pss_nil)))))
 (pss_one (ps_ret (pv 3)))), ?_⟩)
  · obtain ⟨p, h, n, rfl, _⟩ := h; rfl
  obtain ⟨p, h, n, rfl, hp, hh, hn, kk⟩ := h
  refine ⟨_, rfl, _, rfl, by omega, by omega, fun D hD => ?_⟩
  have nD := hp.free hD
  refine lc_it (walk_range (lo := 0) (n := ((n : Nat) : Int).toNat)) (fun i H' => Keep p H H' ∧ IsPool H' p ∧ (∃ ts es, H' D = some (.lst (ts.map V.ref)) ∧ RowsH H' ts es ∧ es.length = i ∧ (∀ e ∈ es, EdgeOk h n e) ∧ es.Nodup ∧ HasAll i es ∧ ∀ e ∈ es, e.getD 0 0 < i)) ⟨Keep.refl.new hD, hp.same (same_new hD), ⟨[], [], upd_same, RowsH.nil, rfl, (fun e z => by cases z), List.nodup_nil, (fun v hv => absurd hv (Nat.not_lt_zero _)), (fun e z => by cases z)⟩⟩ (fun _ _ _ _ => trivial) ?_ ?_
  · rintro i x H5 H6 hi ⟨k5, p5, ts, es, hL, hT, hl, hok, hnd, hall, hlt⟩ ⟨rfl, rfl⟩
    rw [Int.toNat_natCast] at hi
    rw [show (fun i : Nat => V.int (0 + (i : Int))) i = V.int (i : Int) from congrArg V.int (Int.zero_add _)]
    refine ⟨rfl, _, rfl, _, rfl, _, rfl, _, _, rfl, rfl, .inl ⟨by decide, by decide⟩, _, _, rfl, rfl, p, _, rfl, p5, by omega, by omega, fun r0 H7 r00 r01 k7 p7 => ⟨_, rfl, _, rfl, p, _, rfl, p7, by omega, by omega, fun t0 H8 t00 t01 k8 p8 => ⟨(by show 3 ≤ sizeLine; decide), fun t ht => ?_⟩⟩⟩
    have k68 := k7.trans k8
    have s9 : Same H8 (upd H8 t (.tup [.int (i : Nat), .int r0, .int t0])) := same_new ht
    have he : (upd H8 t (.tup [.int (i : Nat), .int r0, .int t0])) t = some (.tup (([(i : Int), r0, t0] : List Int).map V.int)) := upd_same
    have k9 : Keep p H (upd H8 t (.tup [.int (i : Nat), .int r0, .int t0])) := (k5.trans k68).new ht
    have hL9 := s9 _ _ (k68 _ nD _ hL)
    have hT9 := (hT.keep k68 p5.some).same s9
    have p9 := p8.same s9
    generalize upd H8 t (.tup [.int (i : Nat), .int r0, .int t0]) = H9 at s9 he k9 hL9 hT9 p9 ⊢
    have eok : EdgeOk h n [(i : Int), r0, t0] := ⟨i, r0, t0, rfl, ⟨by omega, by omega⟩, ⟨by omega, by omega⟩, ⟨by omega, by omega⟩⟩
    have nin : [(i : Int), r0, t0] ∉ es := fun z => by
      have := hlt _ z
      exact absurd this (Int.lt_irrefl _)
    obtain ⟨a1, a2, a3, a4, a5, a6⟩ := edge_app nD hD k9 p9 hL9 hT9 he eok nin hok hnd
    refine ⟨_, hL9, (by rw [List.length_map, hT9.1, sizeLine_eq]; omega), a1, a2, _, _, a3, a4, by rw [List.length_append, hl]; rfl, a5, a6, hall.app.up (List.mem_append_right _ List.mem_cons_self) rfl, fun e he2 => ?_⟩
    rcases List.mem_append.mp he2 with q | q
    · have := hlt e q; omega
    · have : e = [(i : Int), r0, t0] := by simpa using q
      subst this
      show (i : Int) < ((i + 1 : Nat) : Int)
      omega
  · rintro H5 ⟨k5, p5, ts, es, hL, hT, hl, hok, hnd, hall, _⟩
    rw [Int.toNat_natCast] at hl hall
    refine ⟨_, rfl, _, rfl, _, _, rfl, rfl, p, _, rfl, p5, by omega, by omega, fun ct H6 c0 c1 k6 p6 => ⟨_, rfl, by omega, by omega, ?_⟩⟩
    refine for_range (lo := 0) (n := ct.toNat) (fun i σ H' => Keep p H H' ∧ IsPool H' p ∧ (∃ ts es, H' D = some (.lst (ts.map V.ref)) ∧ RowsH H' ts es ∧ es.length ≤ n + i ∧ (∀ e ∈ es, EdgeOk h n e) ∧ es.Nodup ∧ HasAll n es) ∧ ∃ z4 z5 z6 : Option V, σ = [some (.ref p), some (.int h), some (.int n), some (.ref D), z4, z5, z6]) ⟨k5.trans k6, p6, ⟨ts, es, k6 _ nD _ hL, hT.keep k6 p5.some, by omega, hok, hnd, hall⟩, none, none, none, rfl⟩ ?_ ?_
    · rintro i σ H4 hi ⟨k4, p4, ⟨ts, es, hL, hT, hl, hok, hnd, hall⟩, z4, z5, z6, rfl⟩
      refine ⟨_, rfl, _, rfl, p, n, rfl, p4, by omega, by omega, fun s0 H5 s00 s01 k5 p5 => ?_⟩
      refine ⟨_, rfl, _, rfl, _, _, rfl, rfl, .inl ⟨by decide, by decide⟩, _, _, rfl, rfl, p, _, rfl, p5, by omega, by omega, fun r0 H6 r00 r01 k6 p6 => ?_⟩
      refine ⟨_, rfl, _, rfl, p, n, rfl, p6, by omega, by omega, fun t0 H7 t00 t01 k7 p7 => ⟨(by show 3 ≤ sizeLine; decide), fun t ht => ?_⟩⟩
      have k47 := (k5.trans k6).trans k7
      have s8 : Same H7 (upd H7 t (.tup [.int s0, .int r0, .int t0])) := same_new ht
      have he : (upd H7 t (.tup [.int s0, .int r0, .int t0])) t = some (.tup (([s0, r0, t0] : List Int).map V.int)) := upd_same
      have k8 : Keep p H (upd H7 t (.tup [.int s0, .int r0, .int t0])) := (k4.trans k47).new ht
      have hL8 := s8 _ _ (k47 _ nD _ hL)
      have hT8 := (hT.keep k47 p4.some).same s8
      have p8 := p7.same s8
      generalize upd H7 t (.tup [.int s0, .int r0, .int t0]) = H8 at s8 he k8 hL8 hT8 p8 ⊢
      have eok : EdgeOk h n [s0, r0, t0] := ⟨s0, r0, t0, rfl, ⟨by omega, by omega⟩, ⟨by omega, by omega⟩, ⟨by omega, by omega⟩⟩
      refine ⟨_, rfl, _, rfl, edgeP [s0, r0, t0], es.map edgeP, dp_edge he, hT8.dp hL8, shaped_edge _, shaped_edges es, _, rfl, ?_⟩
      rw [any_edge]
      refine ite_b (fun c => ?_) (fun c => ⟨k8, p8, ⟨ts, es, hL8, hT8, by omega, hok, hnd, hall⟩, _, _, _, rfl⟩)
      have nin : [s0, r0, t0] ∉ es := fun z => by rw [decide_eq_true z] at c; cases c
      refine ⟨_, rfl, .inl ⟨rfl, _, SqL.of hL8⟩, _, rfl, D, _, _, rfl, rfl, hL8, (by rw [List.length_map, hT8.1, sizeLine_eq]; omega), ?_⟩
      obtain ⟨a1, a2, a3, a4, a5, a6⟩ := edge_app nD hD k8 p8 hL8 hT8 he eok nin hok hnd
      exact ⟨a1, a2, ⟨_, _, a3, a4, by rw [List.length_append]; simp; omega, a5, a6, hall.app⟩, _, _, _, rfl⟩
    · rintro σ H4 ⟨k4, p4, ⟨ts, es, hL, hT, hl, hok, hnd, hall⟩, z4, z5, z6, rfl⟩
      exact ⟨_, rfl, kk _ D ts es k4 p4 hD nD hL hT (by omega) hok hnd hall⟩
end
end LR

set_option Elab.async false
set_option maxRecDepth 100000
set_option linter.all false
set_option maxHeartbeats 4000000
namespace LR
open PySem PySem.Spec PyProof.Rows L2
section
variable {P : Program} {w : World} {K : PySem.W.Frag} {mg : Str → Option Value} {base : Heap} {ζ : Cs}
def AllIn (es : List (List Int)) (pe : List (Option (List Int))) : Prop := ∀ e ∈ pe, ∃ r, e = some r ∧ r ∈ es
def spGoodP : Sp := fun vs H Q _ => ∃ (p E0 : Addr) (h : Int) (n : Nat) (ts : List Addr) (es : List (List Int)), vs = [.ref p, .ref E0, .int n] ∧ IsPool H p ∧ E0 ≠ p ∧ n ≤ 9 ∧ H E0 = some (.lst (ts.map V.ref)) ∧ RowsH H ts es ∧ es.length ≤ 63 ∧ (∀ e ∈ es, EdgeOk h n e) ∧ HasAll n es ∧
  ∀ H' a ps pe, Keep p H H' → IsPool H' p → H a = none → a ≠ p → H' a = some (.lst ps) → PlanH H' ps pe → pe.length = n → AllIn es pe → Q (.ref a) H'
theorem ok_goodP (T : Txt P K mg ζ) : Cal P w K mg base 2 "_law_good_plan" spGoodP := by
  have c_draw : Cal P w K mg base 1 "_law_draw" spDraw := ok_draw T
  refine T.d_good_plan.cal sc_good_plan (fun vs H Q E h => ?_) (fun f cdv A outer s H vs Q E hr h => ⟨_, pss_cons (ps_set (i := 3) sc_good_plan.nd rfl (Or.inl rfl) (pe_lst (pa_nil)))
 (pss_cons (ps_for PassesOwn.never rfl (pi_range1 rfl T.n_range (pa_cons (pv 2) (pa_nil))) (pg_name (i := 4) sc_good_plan.nd rfl (Or.inr rfl))
 (pss_cons (ps_setLc (i := 5) (own := [("edge", 6)]) (g := gName 6)  rfl sc_good_plan.nd rfl rfl (sw_true rfl rfl rfl (by decide +kernel)) (pi_list (pv 1)) (blkOk_by (N := N_good_plan) (sc := defScope s_good_plan) (by decide +kernel)) (fun _ _ _ _ _ => pg_name (i := 6) sc_good_plan.nd rfl (Or.inl rfl)) (fun _ _ _ _ _ => pts_one (pt_cmpR op_eq (pe_ix (ix_tupK (K := K) rfl) (pv 6) pe_int (fun _ _ => rfl)) (pv 4) (nomark _))) (fun _ _ _ _ _ => pv 6))
 (pss_one (ps_expr (pe_bm PySem.F.plainAttrs_list PySem.F.slot_list_append PySem.F.type_list_append mt_append (pv 3) (pa_cons (pe_ix ix_list (pv 5) (pe_c c_draw hr (by first | decide | omega) (by rfl) (pa_cons (pv 0) (pa_cons (pe_callB call_len_seq (by rfl) T.n_len b_len (pa_cons (pv 5) (pa_nil))) (pa_nil)))) (fun _ _ => rfl)) (pa_nil)))))))
 (pss_one (ps_ret (pv 3)))), ?_⟩)
  · obtain ⟨p, E0, h, n, ts, es, rfl, _⟩ := h; rfl
  obtain ⟨p, E0, h, n, ts, es, rfl, hp, nE, n9, hE, hT, hl, hok, hall, kk⟩ := h
  refine ⟨(by show 0 ≤ sizeLine; decide), fun A0 hA => ?_⟩
  have nA := hp.free hA
  refine ⟨_, rfl, _, rfl, by omega, by omega, ?_⟩
  refine for_range (lo := 0) (n := ((n : Nat) : Int).toNat) (fun i σ H' => Keep p H H' ∧ IsPool H' p ∧ (∃ ps pe, H' A0 = some (.lst ps) ∧ PlanH H' ps pe ∧ pe.length = i ∧ AllIn es pe) ∧ ∃ z4 z5 z6 : Option V, σ = [some (.ref p), some (.ref E0), some (.int n), some (.ref A0), z4, z5, z6]) ⟨Keep.refl.new hA, hp.same (same_new hA), ⟨[], [], upd_same, PlanH.nil, rfl, fun e z => by cases z⟩, none, none, none, rfl⟩ ?_ ?_
  · rintro i σ H2 hi ⟨k2, p2, ⟨ps, pe, hA2, hP2, hpl, hin⟩, z4, z5, z6, rfl⟩
    rw [Int.toNat_natCast] at hi
    rw [Int.zero_add]
    have hE2 := k2 _ nE _ hE
    have hT2 := hT.keep k2 hp.some
    refine ⟨_, rfl, E0, rfl, ⟨_, SqL.of hE2⟩, fun D hD => ?_⟩
    refine lc_list (K := K) (a := E0) (xs := ts.map V.ref) (fun j H' => Same H2 H' ∧ ∃ ws, H' D = some (.lst (ws.map V.ref)) ∧ RowsH H2 ws ((es.take j).filter fun e => decide (e.head? = some (i : Int)))) ⟨same_new hD, [], upd_same, RowsH.nil⟩ (fun j H' _ h => SqL.of (h.1 _ _ hE2)) ?_ ?_
    · rintro j y H3 hy ⟨s3, ws, hD3, hW⟩
      rw [List.getElem?_map] at hy
      obtain ⟨t, ht, rfl⟩ := Option.map_eq_some_iff.mp hy
      obtain ⟨e, ee, he⟩ := hT2.getT ht
      obtain ⟨s0, r0, t0, rfl, _⟩ := hok e (List.mem_of_getElem? ee)
      have et : es.take (j + 1) = es.take j ++ [[s0, r0, t0]] := by rw [List.take_succ, ee]; rfl
      refine ⟨rfl, _, rfl, t, _, _, _, rfl, rfl, SqT.of (s3 _ _ he), rfl, _, rfl, rfl, _, rfl, ?_⟩
      have em : decide (V.int s0 = V.int (i : Int)) = decide (s0 = (i : Int)) := by simp
      rw [em]
      refine ite_b (fun c => ?_) (fun c => ?_)
      · have wl : ws.length ≤ 63 := by
          have := List.length_filter_le (fun e : List Int => decide (e.head? = some (i : Int))) (es.take j)
          rw [← hW.1, List.length_take] at this; omega
        have c1 : decide ([s0, r0, t0].head? = some (i : Int)) = true := by simp; exact of_decide_eq_true c
        refine ⟨_, rfl, _, hD3, (by rw [List.length_map, sizeLine_eq]; omega), fun b o e => ?_, ws ++ [t], ?_, ?_⟩
        · rw [upd_ne (ne_of_none e hD)]; exact s3 _ _ e
        · rw [upd_same, List.map_append]; rfl
        · rw [et, List.filter_append, List.filter_cons, List.filter_nil, if_pos c1]
          exact hW.snoc he
      · have c1 : ¬ decide ([s0, r0, t0].head? = some (i : Int)) = true := by
          intro z; simp at z; rw [decide_eq_true z] at c; cases c
        refine ⟨s3, ws, hD3, ?_⟩
        rw [et, List.filter_append, List.filter_cons, List.filter_nil, if_neg c1, List.append_nil]
        exact hW
    · rintro H3 ⟨s3, ws, hD3, hW⟩
      rw [List.length_map, hT2.1, List.take_length] at hW
      have wpos : 0 < ws.length := by
        obtain ⟨e, he, q⟩ := hall i hi
        rw [hW.1]
        exact List.length_pos_of_mem (List.mem_filter.mpr ⟨he, decide_eq_true q⟩)
      have wl : ws.length ≤ 63 := by
        have := List.length_filter_le (fun e : List Int => decide (e.head? = some (i : Int))) es
        rw [← hW.1] at this; omega
      have p3 := p2.same s3
      have hA3 := s3 _ _ hA2
      refine ⟨_, rfl, .inl ⟨rfl, _, SqL.of hA3⟩, _, rfl, _, rfl, _, rfl, D, _, rfl, .inl (SqL.of hD3), p, _, rfl, p3, (by rw [List.length_map]; omega), (by rw [List.length_map]; omega), fun d H4 d0 d1 k4 p4 => ?_⟩
      rw [List.length_map] at d1
      have nDp : D ≠ p := (p2.free hD)
      have hD4 := k4 _ nDp _ hD3
      obtain ⟨t, ht⟩ : ∃ t, ws[d.toNat]? = some t := ⟨_, List.getElem?_eq_getElem (by omega)⟩
      obtain ⟨e, ee, he⟩ := hW.getT ht
      have ein := (List.mem_filter.mp (List.mem_of_getElem? ee)).1
      obtain ⟨s0, r0, t0, rfl, _⟩ := hok e ein
      have atd : atI (ws.map V.ref) d = some (V.ref t) := by
        have := atI_nat (xs := ws.map V.ref) (j := d.toNat) (v := V.ref t) (by rw [List.getElem?_map, ht]; rfl)
        rwa [Int.toNat_of_nonneg d0] at this
      have hA4 := k4 _ nA _ hA3
      have he3 := s3 _ _ he
      obtain ⟨_, _, _, _, hpp⟩ := id p3
      have he4 := k4 _ (ne_of he3 hpp (by intro z; cases z)) _ he3
      refine ⟨D, _, d, _, rfl, rfl, SqL.of hD4, atd, A0, _, _, rfl, rfl, hA4, (by rw [hP2.1, hpl, sizeLine_eq]; omega), ?_⟩
      have k24 : Keep p H2 H4 := s3.keep.trans k4
      have hP4 := hP2.keep k24 p2.some
      have k5 : Keep A0 H4 (upd H4 A0 (.lst (ps ++ [.ref t]))) := Keep.refl.upd
      refine ⟨fun b nb o e => ?_, ?_, ⟨_, _, upd_same, PlanH.snoc (hP4.keep k5 ⟨_, hA4⟩) (e := some [s0, r0, t0]) (.inr ⟨t, _, rfl, rfl, ?_, rfl⟩), by rw [List.length_append, hpl]; rfl, fun e he2 => ?_⟩, _, _, _, rfl⟩
      · rw [upd_ne (ne_of_none e hA)]; exact k24 _ nb _ (k2 _ nb _ e)
      · obtain ⟨x, y, z, t, p8⟩ := p4
        exact ⟨x, y, z, t, by rw [upd_ne nA.symm, p8]⟩
      · rw [upd_ne (ne_of he4 hA4 (by intro z; cases z))]; exact he4
      · rcases List.mem_append.mp he2 with z | z
        · exact hin e z
        · have : e = some [s0, r0, t0] := by simpa using z
          exact ⟨_, this, ein⟩
  · rintro σ H2 ⟨k2, p2, ⟨ps, pe, hA2, hP2, hpl, hin⟩, z4, z5, z6, rfl⟩
    rw [Int.toNat_natCast] at hpl
    exact ⟨_, rfl, kk _ A0 ps pe k2 p2 hA nA hA2 hP2 hpl hin⟩
end
end LR

set_option Elab.async false
set_option maxRecDepth 100000
set_option linter.all false
set_option maxHeartbeats 4000000
namespace LR
open PySem PySem.Spec PyProof.Rows L2
section
variable {P : Program} {w : World} {K : PySem.W.Frag} {mg : Str → Option Value} {base : Heap} {ζ : Cs}
theorem ixN_i {n : Nat} {d : Int} (h0 : 0 ≤ d) (h1 : d < n) : ixN n d = some d.toNat := by
  unfold ixN
  rw [if_pos h0, if_pos h1]
theorem PlanH.set {H : Hp} {ps : List V} {pe : List (Option (List Int))} (h : PlanH H ps pe) {x : V} {e : Option (List Int)} (hx : EntH H x e) (k : Nat) : PlanH H (ps.set k x) (pe.set k e) := by
  refine ⟨by rw [List.length_set, List.length_set]; exact h.1, fun j y f a b => ?_⟩
  rw [List.getElem?_set] at a b
  by_cases c : k = j
  · rw [if_pos c] at a b
    have hl := h.1
    by_cases d : k < ps.length
    · rw [if_pos d] at a; rw [if_pos (by omega)] at b
      cases a; cases b; exact hx
    · rw [if_neg d] at a; cases a
  · rw [if_neg c] at a b
    exact h.2 j y f a b
def spSpoil : Sp := fun vs H Q _ => ∃ (p a : Addr) (h : Int) (ps : List V) (pe : List (Option (List Int))), vs = [.ref p, .int h, .ref a] ∧ IsPool H p ∧ (h = 1 ∨ h = 2 ∨ h = 3) ∧ a ≠ p ∧ H a = some (.lst ps) ∧ PlanH H ps pe ∧ (1 ≤ pe.length ∧ pe.length ≤ 9) ∧
  ∀ H' b ps2 pe2, Keep p H H' → IsPool H' p → H b = none → b ≠ p → H' b = some (.lst ps2) → PlanH H' ps2 pe2 → pe2.length = pe.length → Q (.ref b) H'
theorem ok_spoil (T : Txt P K mg ζ) : Cal P w K mg base 2 "_law_spoilt_plan" spSpoil := by
  have c_draw : Cal P w K mg base 1 "_law_draw" spDraw := ok_draw T
  refine T.d_spoilt_plan.cal sc_spoilt_plan (fun vs H Q E h => ?_) (fun f cdv A outer s H vs Q E hr h => ⟨_, pss_cons (ps_set (i := 3) sc_spoilt_plan.nd rfl (Or.inl rfl) (pe_callB call_len_seq (by rfl) T.n_len b_len (pa_cons (pv 2) (pa_nil))))
 (pss_cons (ps_set (i := 4) sc_spoilt_plan.nd rfl (Or.inl rfl) (pe_callTy call_list_of (by rfl) T.n_list b_list (pa_cons (pv 2) (pa_nil))))
 (pss_cons (ps_set (i := 5) sc_spoilt_plan.nd rfl (Or.inl rfl) (pe_op op_add (pe_int) (pe_c c_draw hr (by first | decide | omega) (by rfl) (pa_cons (pv 0) (pa_cons (pe_int) (pa_nil))))))
 (pss_cut (ps_if (pt_cmpR op_eq (pe_c c_draw hr (by first | decide | omega) (by rfl) (pa_cons (pv 0) (pa_cons (pe_int) (pa_nil)))) (pe_int) (nomark _))
 (pss_one (ps_set (i := 5) sc_spoilt_plan.nd rfl (Or.inl rfl) (pv 3)))
 (pss_nil))
 (pss_cons (ps_for PassesOwn.never rfl (pi_range1 rfl T.n_range (pa_cons (pv 5) (pa_nil))) (pg_name (i := 6) sc_spoilt_plan.nd rfl (Or.inl rfl))
 (pss_cons (ps_set (i := 7) sc_spoilt_plan.nd rfl (Or.inl rfl) (pe_c c_draw hr (by first | decide | omega) (by rfl) (pa_cons (pv 0) (pa_cons (pv 3) (pa_nil)))))
 (pss_cons (ps_asg (pe_non) (pg_sub (pv 4) (pv 7) set_list))
 (pss_one (ps_if (pt_cmpR op_eq (pe_c c_draw hr (by first | decide | omega) (by rfl) (pa_cons (pv 0) (pa_cons (pe_int) (pa_nil)))) (pe_int) (nomark _))
 (pss_one (ps_asg (pe_tup (pa_cons (pe_c c_draw hr (by first | decide | omega) (by rfl) (pa_cons (pv 0) (pa_cons (pv 3) (pa_nil)))) (pa_cons (pe_c c_draw hr (by first | decide | omega) (by rfl) (pa_cons (pv 0) (pa_cons (pe_op op_add (pe_op op_mul (pe_int) (pv 1)) (pe_int)) (pa_nil)))) (pa_cons (pe_c c_draw hr (by first | decide | omega) (by rfl) (pa_cons (pv 0) (pa_cons (pv 3) (pa_nil)))) (pa_nil))))) (pg_sub (pv 4) (pv 7) set_list)))
 (pss_nil))))))
 (pss_one (ps_ret (pv 4))))))), ?_⟩)
  · obtain ⟨p, a, h, ps, pe, rfl, _⟩ := h; rfl
  obtain ⟨p, a, h, ps, pe, rfl, hp, hh, na, ha, hP, hn, kk⟩ := h
  have hpsl := hP.1
  refine ⟨_, rfl, a, _, rfl, .inl (SqL.of ha), _, rfl, a, _, rfl, .inl (SqL.of ha), fun A0 hA => ?_⟩
  have nA := hp.free hA
  have s1 : Same H (upd H A0 (.lst ps)) := same_new hA
  have hA1 : (upd H A0 (.lst ps)) A0 = some (.lst ps) := upd_same
  generalize upd H A0 (.lst ps) = H1 at s1 hA1 ⊢
  have p1 := hp.same s1
  refine ⟨_, rfl, p, 3, rfl, p1, by decide, by decide, fun m0 H2 m00 m01 k2 p2 => ⟨_, _, rfl, rfl, ?_⟩⟩
  refine ⟨fun σ' H' => Keep p H1 H' ∧ IsPool H' p ∧ ∃ mn : Int, (0 ≤ mn ∧ mn ≤ 100) ∧ σ' = [some (.ref p), some (.int h), some (.ref a), some (.int ps.length), some (.ref A0), some (.int mn), none, none], ?_, ?_⟩
  · refine ⟨_, rfl, p, 8, rfl, p2, by decide, by decide, fun d H3 d0 d1 k3 p3 => ⟨rfl, _, rfl, ite_b (fun c => ?_) (fun c => ⟨k2.trans k3, p3, 1 + m0, ⟨by omega, by omega⟩, rfl⟩)⟩⟩
    exact ⟨_, rfl, k2.trans k3, p3, _, ⟨by omega, by omega⟩, rfl⟩
  rintro σ' H3 ⟨k3, p3, mn, ⟨mn0, mn1⟩, rfl⟩
  have k03 : Keep p H H3 := s1.keep.trans k3
  refine ⟨_, rfl, _, rfl, by omega, by omega, ?_⟩
  refine for_range (lo := 0) (n := mn.toNat) (fun i σ H' => Keep p H H' ∧ IsPool H' p ∧ (∃ ps2 pe2, H' A0 = some (.lst ps2) ∧ PlanH H' ps2 pe2 ∧ pe2.length = pe.length) ∧ ∃ z6 z7 : Option V, σ = [some (.ref p), some (.int h), some (.ref a), some (.int ps.length), some (.ref A0), some (.int mn), z6, z7]) ⟨k03, p3, ⟨ps, pe, k3 _ nA _ hA1, hP.keep k03 hp.some, rfl⟩, none, none, rfl⟩ ?_ ?_
  · rintro i σ H4 hi ⟨k4, p4, ⟨ps2, pe2, hA4, hP4, hpl⟩, z6, z7, rfl⟩
    have hl4 := hP4.1
    refine ⟨_, rfl, _, rfl, p, _, rfl, p4, by omega, by omega, fun d H5 d0 d1 k5 p5 => ?_⟩
    have hA5 := k5 _ nA _ hA4
    have hP5 := hP4.keep k5 p4.some
    refine ⟨_, rfl, _, rfl, A0, _, d, d.toNat, rfl, rfl, hA5, ixN_i d0 (by omega), ?_⟩
    have kA : Keep A0 H5 (upd H5 A0 (.lst (ps2.set d.toNat .non))) := Keep.refl.upd
    have hA6 : (upd H5 A0 (.lst (ps2.set d.toNat .non))) A0 = some (.lst (ps2.set d.toNat .non)) := upd_same
    have hP6 := (hP5.keep kA ⟨_, hA5⟩).set (x := .non) (e := none) (.inl ⟨rfl, rfl⟩) d.toNat
    have p6 : IsPool (upd H5 A0 (.lst (ps2.set d.toNat .non))) p := by
      obtain ⟨x, y, z, t, p8⟩ := p5
      exact ⟨x, y, z, t, by rw [upd_ne nA.symm, p8]⟩
    have k6 : Keep p H (upd H5 A0 (.lst (ps2.set d.toNat .non))) := fun b nb o e => by rw [upd_ne (ne_of_none e hA)]; exact k5 _ nb _ (k4 _ nb _ e)
    generalize upd H5 A0 (.lst (ps2.set d.toNat .non)) = H6 at kA hA6 hP6 p6 k6 ⊢
    refine ⟨_, rfl, p, 2, rfl, p6, by decide, by decide, fun c2 H7 c20 c21 k7 p7 => ⟨rfl, _, rfl, ite_b (fun c => ?_) (fun c => ⟨k6.trans k7, p7, ⟨_, _, k7 _ nA _ hA6, hP6.keep k7 p6.some, by rw [List.length_set]; exact hpl⟩, _, _, rfl⟩)⟩⟩
    refine ⟨_, rfl, _, rfl, p, _, rfl, p7, by omega, by omega, fun x0 H8 x00 x01 k8 p8 => ?_⟩
    refine ⟨_, rfl, _, rfl, _, _, rfl, rfl, .inl ⟨by decide, by decide⟩, _, _, rfl, rfl, p, _, rfl, p8, by omega, by omega, fun x1 H9 x10 x11 k9 p9 => ?_⟩
    refine ⟨_, rfl, _, rfl, p, _, rfl, p9, by omega, by omega, fun x2 H10 x20 x21 k10 p10 => ⟨(by show 3 ≤ sizeLine; decide), fun t ht => ?_⟩⟩
    have k610 := ((k7.trans k8).trans k9).trans k10
    have s11 : Same H10 (upd H10 t (.tup [.int x0, .int x1, .int x2])) := same_new ht
    have ht11 : (upd H10 t (.tup [.int x0, .int x1, .int x2])) t = some (.tup (([x0, x1, x2] : List Int).map V.int)) := upd_same
    generalize upd H10 t (.tup [.int x0, .int x1, .int x2]) = H11 at s11 ht11 ⊢
    have hA11 := s11 _ _ (k610 _ nA _ hA6)
    have hP11 := (hP6.keep k610 p6.some).same s11
    have p11 := p10.same s11
    refine ⟨_, rfl, _, rfl, A0, _, d, d.toNat, rfl, rfl, hA11, ixN_i d0 (by rw [List.length_set]; omega), fun b nb o e => ?_, ?_, ⟨_, (pe2.set d.toNat none).set d.toNat (some [x0, x1, x2]), upd_same, ?_, ?_⟩, _, _, rfl⟩
    · rw [upd_ne (ne_of_none e hA)]; exact s11 _ _ (k610 _ nb _ (k6 _ nb _ e))
    · obtain ⟨x, y, z, t, p8⟩ := p11
      exact ⟨x, y, z, t, by rw [upd_ne nA.symm, p8]⟩
    · refine (hP11.keep (Keep.refl.upd) ⟨_, hA11⟩).set (e := some [x0, x1, x2]) (.inr ⟨t, _, rfl, rfl, ?_, rfl⟩) d.toNat
      rw [upd_ne (ne_of ht11 hA11 (by intro z; cases z))]; exact ht11
    · rw [List.length_set, List.length_set]; exact hpl
  · rintro σ H4 ⟨k4, p4, ⟨ps2, pe2, hA4, hP4, hpl⟩, z6, z7, rfl⟩
    exact ⟨_, rfl, kk _ A0 ps2 pe2 k4 p4 hA nA hA4 hP4 hpl⟩
def spStrange : Sp := fun vs H Q _ => ∃ (p a : Addr) (h : Int) (ps : List V) (pe : List (Option (List Int))) (es : List (List Int)), vs = [.ref p, .int h, .ref a] ∧ IsPool H p ∧ (h = 1 ∨ h = 2 ∨ h = 3) ∧ a ≠ p ∧ H a = some (.lst ps) ∧ PlanH H ps pe ∧ (1 ≤ pe.length ∧ pe.length ≤ 9) ∧ AllIn es pe ∧ (∀ e ∈ es, EdgeOk h pe.length e) ∧
  ∀ H' b ps2 pe2, Keep p H H' → IsPool H' p → H b = none → b ≠ p → H' b = some (.lst ps2) → PlanH H' ps2 pe2 → pe2.length = pe.length → Q (.ref b) H'
theorem three {l : List Int} (h : l.length = 3) : ∃ x y z, l = [x, y, z] := match l, h with
  | [x, y, z], _ => ⟨x, y, z, rfl⟩
theorem at_some {l : List Int} {d : Int} (h0 : 0 ≤ d) (h1 : d < l.length) : ∃ w, atI (l.map V.int) d = some (V.int w) := by
  have hlt : d.toNat < l.length := by omega
  refine ⟨l[d.toNat], ?_⟩
  have := atI_nat (xs := l.map V.int) (j := d.toNat) (v := V.int l[d.toNat]) (by rw [List.getElem?_map, List.getElem?_eq_getElem hlt]; rfl)
  rwa [Int.toNat_of_nonneg h0] at this
theorem ok_strange (T : Txt P K mg ζ) : Cal P w K mg base 2 "_law_strange_plan" spStrange := by
  have c_draw : Cal P w K mg base 1 "_law_draw" spDraw := ok_draw T
  refine T.d_strange_plan.cal sc_strange_plan (fun vs H Q E h => ?_) (fun f cdv A outer s H vs Q E hr h => ⟨_, pss_cons (ps_set (i := 3) sc_strange_plan.nd rfl (Or.inl rfl) (pe_callB call_len_seq (by rfl) T.n_len b_len (pa_cons (pv 2) (pa_nil))))
 (pss_cons (ps_set (i := 4) sc_strange_plan.nd rfl (Or.inl rfl) (pe_lst (pa_nil)))
 (pss_cons (ps_for PassesOwn.never rfl (pi_range1 rfl T.n_range (pa_cons (pv 3) (pa_nil))) (pg_name (i := 5) sc_strange_plan.nd rfl (Or.inl rfl))
 (pss_cons (ps_set (i := 6) sc_strange_plan.nd rfl (Or.inl rfl) (pe_ix ix_list (pv 2) (pv 5) (fun _ _ => rfl)))
 (pss_cut (ps_if (pt_cmpR op_eq (pe_c c_draw hr (by first | decide | omega) (by rfl) (pa_cons (pv 0) (pa_cons (pe_int) (pa_nil)))) (pe_int) (nomark _))
 (pss_cons (ps_set (i := 7) sc_strange_plan.nd rfl (Or.inl rfl) (pe_lst (pa_cons (pe_ix ix_tup (pv 6) pe_int (fun _ _ => rfl)) (pa_cons (pe_ix ix_tup (pv 6) pe_int (fun _ _ => rfl)) (pa_cons (pe_ix ix_tup (pv 6) pe_int (fun _ _ => rfl)) (pa_nil))))))
 (pss_cons (ps_set (i := 8) sc_strange_plan.nd rfl (Or.inl rfl) (pe_c c_draw hr (by first | decide | omega) (by rfl) (pa_cons (pv 0) (pa_cons (pe_int) (pa_nil)))))
 (pss_cons (ps_set (i := 9) sc_strange_plan.nd rfl (Or.inl rfl) (pe_op op_mul (pe_c c_draw hr (by first | decide | omega) (by rfl) (pa_cons (pv 0) (pa_cons (pe_int) (pa_nil)))) (pe_c c_draw hr (by first | decide | omega) (by rfl) (pa_cons (pv 0) (pa_cons (pe_int) (pa_nil))))))
 (pss_cons (ps_asg (pe_ix ix_list (pe_lst (pa_cons (pe_op op_sub (pe_op op_sub (pe_int) (pe_int)) (pv 9)) (pa_cons (pe_op op_add (pe_ix ix_list (pe_lst (pa_cons (pv 3) (pa_cons (pe_op op_add (pe_op op_mul (pe_int) (pv 1)) (pe_int)) (pa_cons (pv 3) (pa_nil))))) (pv 8) (fun _ _ => rfl)) (pv 9)) (pa_nil)))) (pe_c c_draw hr (by first | decide | omega) (by rfl) (pa_cons (pv 0) (pa_cons (pe_int) (pa_nil)))) (fun _ _ => rfl)) (pg_sub (pv 7) (pv 8) set_list))
 (pss_one (ps_set (i := 6) sc_strange_plan.nd rfl (Or.inl rfl) (pe_tup (pa_cons (pe_ix ix_list (pv 7) (pe_int) (fun _ _ => rfl)) (pa_cons (pe_ix ix_list (pv 7) (pe_int) (fun _ _ => rfl)) (pa_cons (pe_ix ix_list (pv 7) (pe_int) (fun _ _ => rfl)) (pa_nil)))))))))))
 (pss_nil))
 (pss_one (ps_expr (pe_bm PySem.F.plainAttrs_list PySem.F.slot_list_append PySem.F.type_list_append mt_append (pv 4) (pa_cons (pv 6) (pa_nil))))))))
 (pss_one (ps_ret (pv 4))))), ?_⟩)
  · obtain ⟨p, a, h, ps, pe, es, rfl, _⟩ := h; rfl
  obtain ⟨p, a, h, ps, pe, es, rfl, hp, hh, na, ha, hP, hn, hin, hok, kk⟩ := h
  have hpsl := hP.1
  refine ⟨_, rfl, a, _, rfl, .inl (SqL.of ha), (by show 0 ≤ sizeLine; decide), fun A0 hA => ?_⟩
  have nA := hp.free hA
  refine ⟨_, rfl, _, rfl, by omega, by omega, ?_⟩
  refine for_range (lo := 0) (n := ((ps.length : Nat) : Int).toNat) (fun i σ H' => Keep p H H' ∧ IsPool H' p ∧ (∃ ps2 pe2, H' A0 = some (.lst ps2) ∧ PlanH H' ps2 pe2 ∧ pe2.length = i) ∧ ∃ z5 z6 z7 z8 z9 : Option V, σ = [some (.ref p), some (.int h), some (.ref a), some (.int ps.length), some (.ref A0), z5, z6, z7, z8, z9]) ⟨Keep.refl.new hA, hp.same (same_new hA), ⟨[], [], upd_same, PlanH.nil, rfl⟩, none, none, none, none, none, rfl⟩ ?_ ?_
  · rintro i σ H2 hi ⟨k2, p2, ⟨ps2, pe2, hA2, hP2, hpl⟩, z5, z6, z7, z8, z9, rfl⟩
    rw [Int.toNat_natCast] at hi
    rw [Int.zero_add]
    have ha2 := k2 _ na _ ha
    have hPk := hP.keep k2 hp.some
    obtain ⟨x, hx, ex⟩ := hPk.get (k := i) (by omega)
    obtain ⟨r, er, rin⟩ := hin (pe.getD i none) (by rw [List.getD_eq_getElem?_getD, List.getElem?_eq_getElem (by omega)]; exact List.getElem_mem _)
    obtain ⟨s0, r0, t0, rfl, _⟩ := hok r rin
    rw [er] at ex
    rcases ex with ⟨_, z⟩ | ⟨tr, r, rfl, z, htr, _⟩
    · cases z
    cases z
    refine ⟨_, rfl, _, rfl, a, _, _, _, rfl, rfl, SqL.of ha2, atI_nat hx, ?_⟩
    refine ⟨fun σ' H' => Keep p H2 H' ∧ IsPool H' p ∧ ∃ (t : Addr) (r : List Int) (z7 z8 z9 : Option V), H' t = some (.tup (r.map V.int)) ∧ r.length = 3 ∧ σ' = [some (.ref p), some (.int h), some (.ref a), some (.int ps.length), some (.ref A0), some (.int (i : Nat)), some (.ref t), z7, z8, z9], ?_, ?_⟩
    · refine ⟨_, rfl, p, 4, rfl, p2, by decide, by decide, fun d H3 d0 d1 k3 p3 => ⟨rfl, _, rfl, ite_b (fun c => ?_) (fun c => ⟨k3, p3, tr, [s0, r0, t0], _, _, _, ?_, rfl, rfl⟩)⟩⟩
      · obtain ⟨_, _, _, _, hpp⟩ := id p2
        have htr3 := k3 _ (ne_of htr hpp (by intro z; cases z)) _ htr
        refine ⟨_, rfl, tr, _, _, _, rfl, rfl, SqT.of htr3, rfl, _, rfl, tr, _, _, _, rfl, rfl, SqT.of htr3, rfl, _, rfl, tr, _, _, _, rfl, rfl, SqT.of htr3, rfl, (by show 3 ≤ sizeLine; decide), fun PP hPP => ?_⟩
        have nPp := p3.free hPP
        have s4 : Same H3 (upd H3 PP (.lst [.int s0, .int r0, .int t0])) := same_new hPP
        have hP4 : (upd H3 PP (.lst [.int s0, .int r0, .int t0])) PP = some (.lst (([s0, r0, t0] : List Int).map V.int)) := upd_same
        generalize upd H3 PP (.lst [.int s0, .int r0, .int t0]) = H4 at s4 hP4 ⊢
        have p4 := p3.same s4
        refine ⟨_, rfl, p, 3, rfl, p4, by decide, by decide, fun pl H5 pl0 pl1 k5 p5 => ?_⟩
        refine ⟨_, rfl, p, 2, rfl, p5, by decide, by decide, fun f1 H6 f10 f11 k6 p6 => ?_⟩
        refine ⟨_, rfl, p, 900000, rfl, p6, by decide, by decide, fun f2 H7 f20 f21 k7 p7 => ⟨_, _, rfl, rfl, .inl ⟨by omega, by omega⟩, ?_⟩⟩
        have k47 := (k5.trans k6).trans k7
        have hP7 := k47 _ nPp _ hP4
        have p7' := p7
        obtain ⟨w0, hw0⟩ := at_some (l := [(ps.length : Int), 2 * h + 1, (ps.length : Int)]) pl0 pl1
        refine ⟨_, _, rfl, rfl, _, rfl, _, _, rfl, rfl, _, rfl, _, rfl, _, _, rfl, rfl, .inl ⟨by decide, by decide⟩, _, _, rfl, rfl, _, rfl, (by show 3 ≤ sizeLine; decide), fun q1 hq1 => ?_⟩
        have s8 := same_new (o := .lst [.int (ps.length : Int), .int (2 * h + 1), .int (ps.length : Int)]) hq1
        refine ⟨_, rfl, q1, _, pl, .int w0, rfl, rfl, SqL.of upd_same, hw0, _, rfl, _, _, rfl, rfl, (by show 2 ≤ sizeLine; decide), fun q2 hq2 => ?_⟩
        obtain ⟨H8, e8⟩ : ∃ H8, upd H7 q1 (.lst [.int (ps.length : Int), .int (2 * h + 1), .int (ps.length : Int)]) = H8 := ⟨_, rfl⟩
        have s9 := s8.trans (same_new (o := .lst [.int (0 - 1 - f1 * f2), .int (w0 + f1 * f2)]) hq2)
        have hq2b : (upd (upd H7 q1 (.lst [.int (ps.length : Int), .int (2 * h + 1), .int (ps.length : Int)])) q2 (.lst [.int (0 - 1 - f1 * f2), .int (w0 + f1 * f2)])) q2 = some (.lst (([0 - 1 - f1 * f2, w0 + f1 * f2] : List Int).map V.int)) := upd_same
        refine ⟨_, rfl, p, 2, rfl, p7.same s9, by decide, by decide, fun c2 H10 c20 c21 k10 p10 => ?_⟩
        obtain ⟨w1, hw1⟩ := at_some (l := [0 - 1 - f1 * f2, w0 + f1 * f2]) c20 c21
        have nq2 : q2 ≠ p := (p7.same s8).free hq2
        have hq10 := k10 _ nq2 _ hq2b
        have hP10 := k10 _ nPp _ (s9 _ _ hP7)
        refine ⟨q2, _, c2, .int w1, rfl, rfl, SqL.of hq10, hw1, _, rfl, _, rfl, PP, _, pl, pl.toNat, rfl, rfl, hP10, ixN_i pl0 pl1, ?_⟩
        obtain ⟨x, y, z, hxyz⟩ := three (l := ([s0, r0, t0] : List Int).set pl.toNat w1) (by rw [List.length_set]; rfl)
        have kP : Keep PP H10 (upd H10 PP (.lst ((([s0, r0, t0] : List Int).map V.int).set pl.toNat (V.int w1)))) := Keep.refl.upd
        have hP11 : (upd H10 PP (.lst ((([s0, r0, t0] : List Int).map V.int).set pl.toNat (V.int w1)))) PP = some (.lst (([x, y, z] : List Int).map V.int)) := by
          rw [upd_same, ← hxyz, List.map_set]
        have p11 : IsPool (upd H10 PP (.lst ((([s0, r0, t0] : List Int).map V.int).set pl.toNat (V.int w1)))) p := by
          obtain ⟨x, y, z, t, p8⟩ := p10
          exact ⟨x, y, z, t, by rw [upd_ne nPp.symm]; exact p8⟩
        generalize upd H10 PP (.lst ((([s0, r0, t0] : List Int).map V.int).set pl.toNat (V.int w1))) = H11 at kP hP11 p11 ⊢
        refine ⟨_, rfl, PP, _, 0, .int x, rfl, rfl, SqL.of hP11, rfl, _, rfl, PP, _, 1, .int y, rfl, rfl, SqL.of hP11, rfl, _, rfl, PP, _, 2, .int z, rfl, rfl, SqL.of hP11, rfl, (by show 3 ≤ sizeLine; decide), fun t ht => ?_⟩
        have k11 : Keep p H2 H11 := fun b nb o e => by
          have e3 := k3 _ nb _ e
          have nbP : b ≠ PP := ne_of_none e3 hPP
          exact kP _ nbP _ (k10 _ nb _ (s9 _ _ (k47 _ nb _ (s4 _ _ e3))))
        exact ⟨k11.new ht, p11.same (same_new ht), t, [x, y, z], _, _, _, upd_same, rfl, rfl⟩
      · obtain ⟨_, _, _, _, hpp⟩ := id p2
        exact k3 _ (ne_of htr hpp (by intro z; cases z)) _ htr
    rintro σ' H3 ⟨k3, p3, t, r, z7, z8, z9, ht, r3, rfl⟩
    have hA3 := k3 _ nA _ hA2
    refine ⟨_, rfl, .inl ⟨rfl, _, SqL.of hA3⟩, _, rfl, A0, _, _, rfl, rfl, hA3, (by rw [hP2.1, hpl, sizeLine_eq]; omega), fun b nb o e => ?_, ?_, ⟨_, pe2 ++ [some r], upd_same, ?_, by rw [List.length_append, hpl]; rfl⟩, _, _, _, _, _, rfl⟩
    · rw [upd_ne (ne_of_none e hA)]; exact k3 _ nb _ (k2 _ nb _ e)
    · obtain ⟨x, y, z, t, p8⟩ := p3
      exact ⟨x, y, z, t, by rw [upd_ne nA.symm, p8]⟩
    · refine ((hP2.keep k3 p2.some).keep Keep.refl.upd ⟨_, hA3⟩).snoc (.inr ⟨t, _, rfl, rfl, ?_, r3⟩)
      rw [upd_ne (ne_of ht hA3 (by intro z; cases z))]; exact ht
  · rintro σ H2 ⟨k2, p2, ⟨ps2, pe2, hA2, hP2, hpl⟩, z5, z6, z7, z8, z9, rfl⟩
    rw [Int.toNat_natCast] at hpl
    exact ⟨_, rfl, kk _ A0 ps2 pe2 k2 p2 hA nA hA2 hP2 (by omega)⟩
end
end LR

set_option Elab.async false
set_option maxRecDepth 100000
set_option linter.all false
set_option maxHeartbeats 4000000
namespace LR
open PySem PySem.Spec PyProof.Rows L2
section
variable {P : Program} {w : World} {K : PySem.W.Frag} {mg : Str → Option Value} {base : Heap} {ζ : Cs}
abbrev lawLevel : Nat := 8
/-- what stands in the law from the drawing of the goals on -/
structure L9 (C : Addr) (H : Hp) (g E0 : Addr) (h : Int) (os : List Bool) (ts : List Addr) (es ss : List (List Int)) : Prop where
  G : GameAt C H g h os ss
  e : H E0 = some (.lst (ts.map V.ref))
  T : RowsH H ts es
theorem L9.same {C H H' g E0 h os ts es ss} (s : Same H H') (a : L9 C H g E0 h os ts es ss) : L9 C H' g E0 h os ts es ss := ⟨a.G.same s, s _ _ a.e, a.T.same s⟩
theorem L9.keep {C H H' g E0 h os ts es ss q} (s : Keep q H H') (hq : ∃ l, H q = some (.lst l)) (n : E0 ≠ q) (a : L9 C H g E0 h os ts es ss) : L9 C H' g E0 h os ts es ss := ⟨a.G.keep s hq, s _ n _ a.e, a.T.keep s hq⟩
def PlansH (H : Hp) (n : Nat) (as : List Addr) : Prop := ∀ a ∈ as, ∃ ps pe, H a = some (.lst ps) ∧ PlanH H ps pe ∧ pe.length = n
theorem PlansH.same {H H' n as} (s : Same H H') (h : PlansH H n as) : PlansH H' n as := fun a ha => by
  obtain ⟨ps, pe, h1, h2, h3⟩ := h a ha
  exact ⟨ps, pe, s _ _ h1, h2.same s, h3⟩
theorem PlansH.keep {H H' n as q} (s : Keep q H H') (hq : ∃ l, H q = some (.lst l)) (nq : ∀ a ∈ as, a ≠ q) (h : PlansH H n as) : PlansH H' n as := fun a ha => by
  obtain ⟨ps, pe, h1, h2, h3⟩ := h a ha
  exact ⟨ps, pe, s _ (nq a ha) _ h1, h2.keep s hq, h3⟩
theorem elt_asym {e f : List Int} (a : elt e f) (b : elt f e) : e = f := by
  obtain ⟨s, r, t, s', r', t', rfl, rfl, a⟩ := a
  obtain ⟨x, y, z, x', y', z', e1, e2, b⟩ := b
  injection e1 with e1 e1b; injection e1b with e1b e1c; injection e1c with e1c
  injection e2 with e2 e2b; injection e2b with e2b e2c; injection e2c with e2c
  subst e1 e1b e1c e2 e2b e2c
  omega
theorem ok_law (T : Txt P K mg ζ) {f : Addr} {fd : FuncData} (F : Fun K "law" "law" s_law f fd) : FnOk P w K mg base CX0 8 f fd ["script"] (spLaw K) := by
  have c_pool : Cal P w K mg base 1 "_law_pool" (spPool K) := ok_pool T
  have c_draw : Cal P w K mg base 1 "_law_draw" spDraw := ok_draw T
  have c_owners : Cal P w K mg base 2 "_law_owners" spOwners := ok_owners T
  have c_ring_edges : Cal P w K mg base 2 "_law_ring_edges" (spEdges 7) := ok_ring T
  have c_any_edges : Cal P w K mg base 2 "_law_any_edges" (spEdges 9) := ok_any T
  have c_good_plan : Cal P w K mg base 2 "_law_good_plan" spGoodP := ok_goodP T
  have c_spoilt_plan : Cal P w K mg base 2 "_law_spoilt_plan" spSpoil := ok_spoil T
  have c_strange_plan : Cal P w K mg base 2 "_law_strange_plan" spStrange := ok_strange T
  have c_Game : Mak P w K mg base 3 "Game" ζ.Game (spGame ζ.Game) := ok_game T
  have c_played : Cal P w K mg base 7 "_law_played" (spPlayed ζ.Game) := ok_played T
  have c_same : Cal P w K mg base 6 "_law_same" (spSame 4) := ok_same T 4
  refine F.ok sc_law (fun vs H Q E h => ?_) (fun cdv A outer s H vs Q E hr h => ⟨_, pss_cons (ps_set (i := 1) sc_law.nd rfl (Or.inl rfl) (pe_c c_pool hr (by first | decide | omega) (by rfl) (pa_cons (pv 0) (pa_cons (pe_int) (pa_nil)))))
 (pss_cons (ps_set (i := 2) sc_law.nd rfl (Or.inl rfl) (pe_op op_add (pe_int) (pe_c c_draw hr (by first | decide | omega) (by rfl) (pa_cons (pv 1) (pa_cons (pe_int) (pa_nil))))))
 (pss_cut (ps_if (pt_cmpR op_eq (pe_c c_draw hr (by first | decide | omega) (by rfl) (pa_cons (pv 1) (pa_cons (pe_int) (pa_nil)))) (pe_int) (nomark _))
 (pss_cons (ps_set (i := 3) sc_law.nd rfl (Or.inl rfl) (pe_op op_add (pe_int) (pe_c c_draw hr (by first | decide | omega) (by rfl) (pa_cons (pv 1) (pa_cons (pe_int) (pa_nil))))))
 (pss_cons (ps_set (i := 4) sc_law.nd rfl (Or.inl rfl) (pe_c c_owners hr (by first | decide | omega) (by rfl) (pa_cons (pv 1) (pa_cons (pv 3) (pa_nil)))))
 (pss_one (ps_set (i := 5) sc_law.nd rfl (Or.inl rfl) (pe_c c_any_edges hr (by first | decide | omega) (by rfl) (pa_cons (pv 1) (pa_cons (pv 2) (pa_cons (pv 3) (pa_nil)))))))))
 (pss_cons (ps_set (i := 3) sc_law.nd rfl (Or.inl rfl) (pe_op op_add (pe_int) (pe_c c_draw hr (by first | decide | omega) (by rfl) (pa_cons (pv 1) (pa_cons (pe_int) (pa_nil))))))
 (pss_cons (ps_set (i := 4) sc_law.nd rfl (Or.inl rfl) (pe_c c_owners hr (by first | decide | omega) (by rfl) (pa_cons (pv 1) (pa_cons (pv 3) (pa_nil)))))
 (pss_one (ps_set (i := 5) sc_law.nd rfl (Or.inl rfl) (pe_c c_ring_edges hr (by first | decide | omega) (by rfl) (pa_cons (pv 1) (pa_cons (pv 2) (pa_cons (pv 3) (pa_nil))))))))))
 (pss_cons (ps_set (i := 6) sc_law.nd rfl (Or.inl rfl) (pe_mk c_Game hr (by first | decide | omega) (by rfl) (pa_cons (pv 2) (pa_cons (pv 4) (pa_cons (pe_callTy call_list_of (by rfl) T.n_list b_list (pa_cons (pv 5) (pa_nil))) (pa_nil))))))
 (pss_cons (ps_set (i := 1) sc_law.nd rfl (Or.inl rfl) (pe_c c_pool hr (by first | decide | omega) (by rfl) (pa_cons (pv 0) (pa_cons (pe_int) (pa_nil)))))
 (pss_cons (ps_set (i := 7) sc_law.nd rfl (Or.inl rfl) (pe_c c_good_plan hr (by first | decide | omega) (by rfl) (pa_cons (pv 1) (pa_cons (pv 5) (pa_cons (pv 3) (pa_nil))))))
 (pss_cons (ps_set (i := 8) sc_law.nd rfl (Or.inl rfl) (pe_lst (pa_cons (pv 7) (pa_nil))))
 (pss_cut (ps_if (pt_cmpR op_eq (pe_c c_draw hr (by first | decide | omega) (by rfl) (pa_cons (pv 1) (pa_cons (pe_int) (pa_nil)))) (pe_int) (nomark _))
 (pss_one (ps_set (i := 8) sc_law.nd rfl (Or.inl rfl) (pe_lst (pa_cons (pe_c c_spoilt_plan hr (by first | decide | omega) (by rfl) (pa_cons (pv 1) (pa_cons (pv 2) (pa_cons (pv 7) (pa_nil))))) (pa_cons (pv 7) (pa_nil))))))
 (pss_nil))
 (pss_cons (ps_expr (pe_bm PySem.F.plainAttrs_list PySem.F.slot_list_append PySem.F.type_list_append mt_append (pv 8) (pa_cons (pe_c c_strange_plan hr (by first | decide | omega) (by rfl) (pa_cons (pe_c c_pool hr (by first | decide | omega) (by rfl) (pa_cons (pv 0) (pa_cons (pe_int) (pa_nil)))) (pa_cons (pv 2) (pa_cons (pv 7) (pa_nil))))) (pa_nil))))
 (pss_cons (ps_set (i := 9) sc_law.nd rfl (Or.inl rfl) (pe_op op_add (pv 3) (pe_c c_draw hr (by first | decide | omega) (by rfl) (pa_cons (pv 1) (pa_cons (pe_int) (pa_nil))))))
 (pss_cut (ps_if (pt_cmpR op_eq (pe_c c_draw hr (by first | decide | omega) (by rfl) (pa_cons (pv 1) (pa_cons (pe_int) (pa_nil)))) (pe_int) (nomark _))
 (pss_one (ps_set (i := 9) sc_law.nd rfl (Or.inl rfl) (pe_op op_sub (pe_un un_neg (pe_int)) (pv 9))))
 (pss_nil))
 (pss_cons (ps_for PassesOwn.never rfl (pi_list (pv 8)) (pg_name (i := 10) sc_law.nd rfl (Or.inl rfl))
 (pss_one (ps_for PassesOwn.never rfl (pi_seq (pe_op op_cat (pe_listRg rfl (by rfl) T.n_list (prg_2 rfl T.n_range (pe_un un_neg (pe_int)) (pe_op op_add (pv 3) (pe_int)))) (pe_lst (pa_cons (pv 9) (pa_nil))))) (pg_name (i := 11) sc_law.nd rfl (Or.inl rfl))
 (pss_one (ps_if (pt_not (pt_val (pe_c c_played hr (by first | decide | omega) (by rfl) (pa_cons (pv 6) (pa_cons (pv 5) (pa_cons (pv 10) (pa_cons (pv 11) (pa_nil))))))))
 (pss_one (ps_ret (pe_bl)))
 (pss_nil))))))
 (pss_one (ps_ret (pe_and (pe_c c_same hr (by first | decide | omega) (by rfl) (pa_cons (pe_fld (pv 6) rfl) (pa_cons (pv 4) (pa_nil)))) (pe_one (pe_c c_same hr (by first | decide | omega) (by rfl) (pa_cons (pe_fld (pv 6) rfl) (pa_cons (pe_callTy call_tuple_of (by rfl) T.n_tuple b_tuple (pa_cons (pe_callB (cr_sortQ (d := 3) (B := 64) (by decide)) (by rfl) T.n_sorted b_sorted (pa_cons (pv 5) pa_nil)) (pa_nil))) (pa_nil))))))))))))))))))), ?_⟩)
  · obtain ⟨a, ns, rfl, _⟩ := h; rfl
  obtain ⟨a, ns, rfl, hS, kk⟩ := h
  refine ⟨_, rfl, a, ns, 0, rfl, hS, fun p x1 x2 x3 x4 hp => ?_⟩
  have p1 : IsPool (upd H p (.lst [.int x1, .int x2, .int x3, .int x4])) p := .upd
  have k1 : Keep p H (upd H p (.lst [.int x1, .int x2, .int x3, .int x4])) := Keep.refl.upd
  generalize upd H p (.lst [.int x1, .int x2, .int x3, .int x4]) = H1 at p1 k1 ⊢
  refine ⟨_, rfl, p, 3, rfl, p1, by decide, by decide, fun h0 H2 h00 h01 k2 p2 => ⟨_, _, rfl, rfl, ?_⟩⟩
  have hh : 1 + h0 = 1 ∨ 1 + h0 = 2 ∨ 1 + h0 = 3 := by omega
  refine ⟨fun σ' H' => Keep p H H' ∧ ∃ (E0 : Addr) (os : List Bool) (ts : List Addr) (es : List (List Int)), (1 ≤ os.length ∧ os.length ≤ 9) ∧ H' E0 = some (.lst (ts.map V.ref)) ∧ RowsH H' ts es ∧ es.length ≤ 63 ∧ (∀ e ∈ es, EdgeOk (1 + h0) os.length e) ∧ es.Nodup ∧ HasAll os.length es ∧ σ' = [some (.ref a), some (.ref p), some (.int (1 + h0)), some (.int os.length), some (.str (strO os)), some (.ref E0), none, none, none, none, none, none], ?_, ?_⟩
  · refine ⟨_, rfl, p, 16, rfl, p2, by decide, by decide, fun d H3 d0 d1 k3 p3 => ⟨rfl, _, rfl, ite_b (fun c => ?_) (fun c => ?_)⟩⟩
    · refine ⟨_, rfl, p, 9, rfl, p3, by decide, by decide, fun n0 H4 n00 n01 k4 p4 => ⟨_, _, rfl, rfl, ?_⟩⟩
      obtain ⟨n, hn⟩ : ∃ n : Nat, 1 + n0 = n := ⟨(1 + n0).toNat, by omega⟩
      rw [show (fun i j : Int => V.int (i + j)) 1 n0 = V.int (n : Int) from congrArg V.int hn]
      refine ⟨_, rfl, _, rfl, p, n, rfl, p4, by omega, fun H5 os k5 p5 hos => ?_⟩
      subst hos
      refine ⟨_, rfl, _, rfl, _, rfl, p, _, os.length, rfl, p5, hh, by omega, fun H6 E0 ts es k6 p6 _ _ hE hT hl hok hnd hall => ?_⟩
      exact ⟨((((k1.trans k2).trans k3).trans k4).trans k5).trans k6, E0, os, ts, es, by omega, hE, hT, hl, hok, hnd, hall, rfl⟩
    · refine ⟨_, rfl, p, 7, rfl, p3, by decide, by decide, fun n0 H4 n00 n01 k4 p4 => ⟨_, _, rfl, rfl, ?_⟩⟩
      obtain ⟨n, hn⟩ : ∃ n : Nat, 1 + n0 = n := ⟨(1 + n0).toNat, by omega⟩
      rw [show (fun i j : Int => V.int (i + j)) 1 n0 = V.int (n : Int) from congrArg V.int hn]
      refine ⟨_, rfl, _, rfl, p, n, rfl, p4, by omega, fun H5 os k5 p5 hos => ?_⟩
      subst hos
      refine ⟨_, rfl, _, rfl, _, rfl, p, _, os.length, rfl, p5, hh, by omega, fun H6 E0 ts es k6 p6 _ _ hE hT hl hok hnd hall => ?_⟩
      exact ⟨((((k1.trans k2).trans k3).trans k4).trans k5).trans k6, E0, os, ts, es, by omega, hE, hT, hl, hok, hnd, hall, rfl⟩
  rintro σ' H3 ⟨k3, E0, os, ts, es, hn, hE, hT, hl, hok, hnd, hall, rfl⟩
  refine ⟨_, rfl, _, rfl, _, rfl, E0, _, rfl, .inl (SqL.of hE), fun L hL => ?_⟩
  have s4 : Same H3 (upd H3 L (.lst (ts.map V.ref))) := same_new hL
  have hL4 : (upd H3 L (.lst (ts.map V.ref))) L = some (.lst (ts.map V.ref)) := upd_same
  generalize upd H3 L (.lst (ts.map V.ref)) = H4 at s4 hL4 ⊢
  intro g dg ng ndg nedg
  have s5 : Same H4 (upd (upd H4 dg (.own g)) g (.ins ζ.Game dg [])) := (same_new ndg).new (by rw [upd_ne nedg.symm]; exact ng)
  refine ⟨g, L, dg, 1 + h0, os, ts, es, rfl, upd_same, .inl (s5 _ _ hL4), (hT.same s4).same s5, hh, hn, hl, hok, hnd, hall, fun H5 ss k5 GA pm pw' => ⟨rfl, ?_⟩⟩
  have s6 : Same H4 H5 := fun b o e => k5 b (ne_of_none e ng) o (s5 b o e)
  have L0 : L9 ζ.Game H5 g E0 (1 + h0) os ts es ss := ⟨GA, s6 _ _ (s4 _ _ hE), (hT.same s4).same s6⟩
  have kH : Keep p H H5 := (k3.same s4).same s6
  refine ⟨_, rfl, a, ns, 1, rfl, seq_after hS hp kH, fun q y1 y2 y3 y4 hq => ?_⟩
  have L1 : L9 ζ.Game (upd H5 q (.lst [.int y1, .int y2, .int y3, .int y4])) g E0 (1 + h0) os ts es ss := L0.same (same_new hq)
  have q1 : IsPool (upd H5 q (.lst [.int y1, .int y2, .int y3, .int y4])) q := .upd
  have nEq : E0 ≠ q := ne_of_none L0.e hq
  have eq6 : ∀ b, b ≠ q → (upd H5 q (.lst [.int y1, .int y2, .int y3, .int y4])) b = H5 b := fun b nb => upd_ne nb
  generalize upd H5 q (.lst [.int y1, .int y2, .int y3, .int y4]) = H6 at L1 q1 eq6 ⊢
  have hss : ∀ e ∈ ss, EdgeOk (1 + h0) os.length e := fun e he => hok e (pm.mem_iff.mp he)
  have lss : ss.length ≤ 63 := by rw [pm.length_eq]; exact hl
  have allss : HasAll os.length ss := fun v hv => by
    obtain ⟨e, he, q⟩ := hall v hv
    exact ⟨e, pm.mem_iff.mpr he, q⟩
  have K6 : ∀ b, b ≠ p → ∀ o, H b = some o → H6 b = some o ∧ b ≠ q := fun b nb o e => by
    have e5 := kH b nb o e
    exact ⟨eq6 b (ne_of_none e5 hq) ▸ e5, ne_of_none e5 hq⟩
  refine ⟨_, rfl, _, rfl, _, rfl, q, E0, 1 + h0, os.length, ts, es, rfl, q1, nEq, hn.2, L1.e, L1.T, hl, hok, hall, fun H7 g0 ps pe k7 q7 hg0 ng0 hG7 hP7 hpl hin => ?_⟩
  have L7 := L1.keep k7 q1.some nEq
  refine ⟨_, rfl, (by show 1 ≤ sizeLine; decide), fun M hM => ?_⟩
  have s8 : Same H7 (upd H7 M (.lst [.ref g0])) := same_new hM
  have hM8 : (upd H7 M (.lst [.ref g0])) M = some (.lst (([g0] : List Addr).map V.ref)) := upd_same
  have nMq : M ≠ q := q7.free hM
  have ngM : g0 ≠ M := ne_of_none hG7 hM
  generalize upd H7 M (.lst [.ref g0]) = H8 at s8 hM8 ⊢
  have q8 := q7.same s8
  have L8 := L7.same s8
  have hG8 := s8 _ _ hG7
  have hP8 := hP7.same s8
  refine ⟨fun σ' H' => Keep q H8 H' ∧ IsPool H' q ∧ ∃ (M : Addr) (as : List Addr), M ≠ q ∧ H' M = some (.lst (as.map V.ref)) ∧ PlansH H' os.length as ∧ as.length ≤ 2 ∧ (∀ a ∈ as, a ≠ q ∧ a ≠ M) ∧ E0 ≠ M ∧ g0 ≠ M ∧ σ' = [some (.ref a), some (.ref q), some (.int (1 + h0)), some (.int os.length), some (.str (strO os)), some (.ref E0), some (.ref g), some (.ref g0), some (.ref M), none, none, none], ?_, ?_⟩
  · refine ⟨_, rfl, q, 2, rfl, q8, by decide, by decide, fun d H9 d0 d1 k9 q9 => ⟨rfl, _, rfl, ite_b (fun c => ?_) (fun c => ⟨k9, q9, M, [g0], nMq, k9 _ nMq _ hM8, fun x hx => ?_, (by show 1 ≤ 2; decide), fun x hx => ?_, ne_of_none L7.e hM, ngM, rfl⟩)⟩⟩
    · have hG9 := k9 _ ng0 _ hG8
      have hP9 := hP8.keep k9 q8.some
      refine ⟨_, rfl, _, rfl, _, rfl, q, g0, 1 + h0, ps, pe, rfl, q9, hh, ng0, hG9, hP9, by omega, fun H10 b ps2 pe2 k10 q10 hb nb hb2 hPb hlb => ⟨_, rfl, (by show 2 ≤ sizeLine; decide), fun M2 hM2 => ?_⟩⟩
      have s11 : Same H10 (upd H10 M2 (.lst [.ref b, .ref g0])) := same_new hM2
      have hG10 := k10 _ ng0 _ hG9
      have hP10 := hP9.keep k10 q9.some
      refine ⟨(k9.trans k10).same s11, q10.same s11, M2, [b, g0], q10.free hM2, upd_same, fun x hx => ?_, (by show 2 ≤ 2; decide), fun x hx => ?_, ne_of_none ((L8.keep k9 q8.some nEq).keep k10 q9.some nEq).e hM2, ne_of_none hG10 hM2, rfl⟩
      · rcases List.mem_cons.mp hx with z | z
        · subst z; exact ⟨ps2, pe2, s11 _ _ hb2, hPb.same s11, by omega⟩
        · have : x = g0 := by simpa using z
          subst this; exact ⟨ps, pe, s11 _ _ hG10, hP10.same s11, hpl⟩
      · rcases List.mem_cons.mp hx with z | z
        · subst z; exact ⟨nb, ne_of_none hb2 hM2⟩
        · have : x = g0 := by simpa using z
          subst this; exact ⟨ng0, ne_of_none hG10 hM2⟩
    · have : x = g0 := by simpa using hx
      subst this; exact ⟨ps, pe, k9 _ ng0 _ hG8, hP8.keep k9 q8.some, hpl⟩
    · have : x = g0 := by simpa using hx
      subst this; exact ⟨ng0, ngM⟩
  rintro σ' H9 ⟨k9, q9, M, as, nMq, hM9, hAs9, hal, hna, nEM, ngM, rfl⟩
  have KH9 : Keep p H H9 := fun b nb o e => by
    obtain ⟨e6, bq⟩ := K6 b nb o e
    exact k9 _ bq _ (s8 _ _ (k7 _ bq _ e6))
  have L9' := L8.keep k9 q8.some nEq
  have hG9 := k9 _ ng0 _ hG8
  have hP9 := hP8.keep k9 q8.some
  refine ⟨_, rfl, .inl ⟨rfl, _, SqL.of hM9⟩, _, rfl, a, ns, 2, rfl, seq_after hS hp KH9, fun r z1 z2 z3 z4 hr0 => ?_⟩
  have sr : Same H9 (upd H9 r (.lst [.int z1, .int z2, .int z3, .int z4])) := same_new hr0
  have pr : IsPool (upd H9 r (.lst [.int z1, .int z2, .int z3, .int z4])) r := .upd
  have ngr : g0 ≠ r := ne_of_none hG9 hr0
  have nEr : E0 ≠ r := ne_of_none L9'.e hr0
  have nMr : M ≠ r := ne_of_none hM9 hr0
  have nqr : q ≠ r := by obtain ⟨_, _, _, _, qq⟩ := id q9; exact ne_of_none qq hr0
  have nar : ∀ x ∈ as, x ≠ r := fun x hx => by
    obtain ⟨_, _, e, _⟩ := hAs9 x hx
    exact ne_of_none e hr0
  have L10 := L9'.same sr
  have hAs10 := hAs9.same sr
  have hM10 := sr _ _ hM9
  have hG10 := sr _ _ hG9
  have q10 := q9.same sr
  generalize upd H9 r (.lst [.int z1, .int z2, .int z3, .int z4]) = H10 at sr pr L10 hAs10 hM10 hG10 q10 ⊢
  refine ⟨_, rfl, _, rfl, r, g0, 1 + h0, ps, pe, es, rfl, pr, hh, ngr, hG10, hP9.same sr, by omega, hin, (by rw [hpl]; exact hok), fun H11 b ps2 pe2 k11 r11 hb nbr hb2 hPb hlb => ?_⟩
  have hM11 := k11 _ nMr _ hM10
  have nMb : M ≠ b := ne_of_none hM10 hb
  refine ⟨M, _, _, rfl, rfl, hM11, (by rw [List.length_map, sizeLine_eq]; omega), ?_⟩
  have kM : Keep M H11 (upd H11 M (.lst (as.map V.ref ++ [.ref b]))) := Keep.refl.upd
  have hM12 : (upd H11 M (.lst (as.map V.ref ++ [.ref b]))) M = some (.lst ((as ++ [b]).map V.ref)) := by rw [upd_same, List.map_append]; rfl
  have L12 := (L10.keep k11 pr.some nEr).keep kM ⟨_, hM11⟩ nEM
  have hAs12 : PlansH (upd H11 M (.lst (as.map V.ref ++ [.ref b]))) os.length (as ++ [b]) := fun x hx => by
    rcases List.mem_append.mp hx with z | z
    · exact ((hAs10.keep k11 pr.some nar).keep kM ⟨_, hM11⟩ fun x hx => (hna x hx).2) x z
    · have : x = b := by simpa using z
      subst this
      exact ⟨ps2, pe2, kM _ nMb.symm _ hb2, hPb.keep kM ⟨_, hM11⟩, by omega⟩
  have q12 : IsPool (upd H11 M (.lst (as.map V.ref ++ [.ref b]))) q := by
    obtain ⟨x, y, z, t, qq⟩ := q10
    exact ⟨x, y, z, t, kM _ nMq.symm _ (k11 _ nqr _ qq)⟩
  have nbq : b ≠ q := by obtain ⟨_, _, _, _, qq⟩ := id q10; exact (ne_of_none qq hb).symm
  generalize upd H11 M (.lst (as.map V.ref ++ [.ref b])) = H12 at hM12 L12 hAs12 q12 ⊢
  refine ⟨_, rfl, _, rfl, q, 900000, rfl, q12, by decide, by decide, fun f0 H13 f00 f01 k13 q13 => ⟨_, _, rfl, rfl, ?_⟩⟩
  refine ⟨fun σ' H' => Keep q H12 H' ∧ ∃ fr : Int, (-1000000 ≤ fr ∧ fr ≤ 1000000) ∧ σ' = [some (.ref a), some (.ref q), some (.int (1 + h0)), some (.int os.length), some (.str (strO os)), some (.ref E0), some (.ref g), some (.ref g0), some (.ref M), some (.int fr), none, none], ?_, ?_⟩
  · refine ⟨_, rfl, q, 2, rfl, q13, by decide, by decide, fun d H14 d0 d1 k14 q14 => ⟨rfl, _, rfl, ite_b (fun c => ?_) (fun c => ⟨k13.trans k14, _, ⟨by omega, by omega⟩, rfl⟩)⟩⟩
    exact ⟨_, rfl, _, rfl, _, _, rfl, rfl, k13.trans k14, _, ⟨by omega, by omega⟩, rfl⟩
  rintro σ' H14 ⟨k14, fr, ⟨fr0, fr1⟩, rfl⟩
  have L14 := L12.keep k14 q12.some nEq
  have hAs14 := hAs12.keep k14 q12.some fun x hx => by
    rcases List.mem_append.mp hx with z | z
    · exact (hna x z).1
    · have : x = b := by simpa using z
      subst this; exact nbq
  have hM14 := k14 _ nMq _ hM12
  refine ⟨_, rfl, M, rfl, ⟨_, SqL.of hM14⟩, for_list (K := K) (a := M) (xs := (as ++ [b]).map V.ref) (fun i σ H' => Same H14 H' ∧ ∃ z10 z11 : Option V, σ = [some (.ref a), some (.ref q), some (.int (1 + h0)), some (.int os.length), some (.str (strO os)), some (.ref E0), some (.ref g), some (.ref g0), some (.ref M), some (.int fr), z10, z11]) ⟨Same.refl _, _, _, rfl⟩ (fun i σ H' _ h => SqL.of (h.1 _ _ hM14)) ?_ ?_⟩
  · rintro i x σ H15 hx ⟨s15, z10, z11, rfl⟩
    rw [List.getElem?_map] at hx
    obtain ⟨pa, hpa, rfl⟩ := Option.map_eq_some_iff.mp hx
    have hpm := List.mem_of_getElem? hpa
    obtain ⟨psx, pex, hpx, hPx, hlx⟩ := hAs14 pa hpm
    refine ⟨_, rfl, _, rfl, _, _, rfl, rfl, _, _, rfl, rfl, ⟨by omega, by omega, by omega, by omega, by omega⟩, fun R hR => ⟨_, rfl, (by show 1 ≤ sizeLine; decide), fun F2 hF2 => ?_⟩⟩
    have sR := same_new (o := .lst (rgV (-1) ((os.length : Int) + 1))) hR
    have rl : (rgV (-1) ((os.length : Int) + 1)).length ≤ 100 := by rw [rgV_length]; omega
    refine cat_lst2 ((same_new hF2) _ _ upd_same) upd_same (by show _ + 1 ≤ 10000; omega) fun Z HZ sZ _ hZ => ?_
    have sH : Same H15 HZ := (sR.trans (same_new hF2)).trans sZ
    have bnd : ∀ x ∈ rgV (-1) ((os.length : Int) + 1) ++ [V.int fr], ∃ v : Int, x = .int v ∧ (-2000000 ≤ v ∧ v ≤ 2000000) := fun x hx => by
      rcases List.mem_append.mp hx with z | z
      · obtain ⟨k, hk, rfl⟩ := List.mem_map.mp z
        rw [List.mem_range] at hk
        exact ⟨_, rfl, by omega, by omega⟩
      · have : x = V.int fr := by simpa using z
        exact ⟨_, this, by omega, by omega⟩
    refine ⟨Z, rfl, (show Sq K HZ Z _ from .inl (SqL.of hZ)).walk (fun _ _ h => h) fun J G W g1 g2 => for_it W (fun j σ H' => Same HZ H' ∧ ∃ z11 : Option V, σ = [some (.ref a), some (.ref q), some (.int (1 + h0)), some (.int os.length), some (.str (strO os)), some (.ref E0), some (.ref g), some (.ref g0), some (.ref M), some (.int fr), some (.ref pa), z11]) ⟨fun _ _ h => h, _, rfl⟩ (fun j σ H' _ h => g1 _ h.1) ?_ ?_⟩
    · rintro j x σ H16 H17 hj ⟨s16, z11, rfl⟩ ⟨rfl, hx⟩
      obtain ⟨v, rfl, hv⟩ := bnd x (List.mem_of_getElem? hx)
      have t16 := s15.trans (sH.trans s16)
      have L16 := L14.same t16
      refine ⟨_, rfl, _, rfl, _, rfl, _, rfl, g, E0, pa, 1 + h0, os, v, ss, es, ts, psx, pex, rfl, L16.G, hn, hh, hok, hl, pm, L16.e, L16.T, t16 _ _ hpx, hPx.same t16, hlx, hv, fun H18 s18 => ⟨_, rfl, iteF ⟨s16.trans s18, _, rfl⟩⟩⟩
    · rintro σ H16 ⟨s16, z11, rfl⟩
      exact ⟨s15.trans (sH.trans s16), _, _, rfl⟩
  · rintro σ H15 ⟨s15, z10, z11, rfl⟩
    have L15 := L14.same s15
    obtain ⟨dx, te, us, w1, w2, w3⟩ := id L15.G
    refine ⟨_, rfl, g, ζ.Game, dx, _, _, rfl, w1, T.cl_Game, T.na_Game_owners, rfl, _, rfl, _, _, .str (strO os), .str (strO os), rfl, .str _, .str _, (by show 0 < 4; decide), fun b1 hb1 => ?_⟩
    rw [hb1.mpr rfl]
    refine ⟨_, rfl, iteT ⟨_, rfl, g, ζ.Game, dx, _, _, rfl, w1, T.cl_Game, T.na_Game_edges, rfl, _, rfl, E0, ts.map V.ref, rfl, .inl (SqL.of L15.e), (by rw [List.length_map, L15.T.1]; omega), fun y hy => ?_, fun ys pz perm pw hp2 => ?_⟩⟩
    · obtain ⟨t, ht, rfl⟩ := List.mem_map.mp hy
      obtain ⟨j, hj⟩ := List.mem_iff_getElem?.mp ht
      obtain ⟨e, ee, he⟩ := L15.T.getT hj
      obtain ⟨b1, b2⟩ := edge_bd (by omega) (by omega) (hok e (List.mem_of_getElem? ee))
      exact ⟨e, ⟨t, rfl, SqT.of he⟩, b1, b2⟩
    obtain ⟨vs2, rfl, pu, hU, pss⟩ := L15.T.perm perm
    have rowU : ∀ t ∈ vs2, TupI K H15 (.ref t) (rowH H15 t) := fun t ht => by
      obtain ⟨j, hj⟩ := List.mem_iff_getElem?.mp ht
      obtain ⟨e, _, he⟩ := hU.getT hj
      exact ⟨t, rfl, by rw [rowH_of he]; exact SqT.of he⟩
    have okU : ∀ t ∈ vs2, EdgeOk (1 + h0) os.length (rowH H15 t) := fun t ht => hok _ (pss.mem_iff.mp (List.mem_map.mpr ⟨t, ht, rfl⟩))
    have pw2 : (vs2.map (rowH H15)).Pairwise elt := by
      rw [List.pairwise_map]
      have nd3 := List.pairwise_map.mp (pss.nodup_iff.mpr hnd)
      have pw1 := List.pairwise_map.mp pw
      refine List.Pairwise.imp_of_mem (fun {u v} hu hv hw => ?_) (pw1.and nd3)
      exact elt_code (by omega) (by omega) (okU u hu) (okU v hv) (hw.1 _ _ (rowU u hu) (rowU v hv)) hw.2
    have eqs : vs2.map (rowH H15) = ss := List.Perm.eq_of_pairwise (fun a b _ _ x y => elt_asym x y) pw2 pw' (pss.trans pm.symm)
    refine ⟨pz, _, rfl, .inl ⟨SqL.of upd_same, fun tq htq => ?_⟩⟩
    have s16 := (same_new (o := .lst (vs2.map V.ref)) hp2).trans (same_new (o := .tup (vs2.map V.ref)) htq)
    have z3 : ∀ e ∈ ss, e.length ≤ 100000 := fun e he => by
      obtain ⟨_, _, _, rfl, _⟩ := hss e he
      show 3 ≤ 100000; decide
    rw [eqs] at hU
    refine ⟨_, _, .tup (ss.map tupD), .tup (ss.map tupD), rfl, .tup (s16 _ _ w2) ((w3.same s16).ats z3) (by rw [List.length_map, w3.1]; omega), .tup upd_same ((hU.same s16).ats z3) (by rw [List.length_map, hU.1]; omega), (by have := deps_parts ss; rw [dep]; omega), fun b2 hb2 => ?_⟩
    rw [hb2.mpr rfl]
    exact kk _
end
end LR

set_option Elab.async false
set_option maxRecDepth 100000
set_option linter.all false
set_option maxHeartbeats 4000000
namespace LR
open PySem PySem.Spec PyProof.Rows L2
theorem all_mk {P : Program} {K : PySem.W.Frag} {h : Heap} {mg : Str → Option Value} (X : K.In h) (G : h.Ns mainGlobals mg)
    {od_check_count an_check_count : Option Addr} {sl_check_count : Array (Option Value)} {oc_check_count kV_check_count dc_check_count pm_check_count ct_check_count : Value} {f_check_count : Addr} {cd_check_count : Value} {od_check_height an_check_height : Option Addr} {sl_check_height : Array (Option Value)} {oc_check_height kV_check_height dc_check_height pm_check_height ct_check_height : Value} {f_check_height : Addr} {cd_check_height : Value} {od_check_node an_check_node : Option Addr} {sl_check_node : Array (Option Value)} {oc_check_node kV_check_node dc_check_node pm_check_node ct_check_node : Value} {f_check_node : Addr} {cd_check_node : Value} {od_wanting an_wanting : Option Addr} {sl_wanting : Array (Option Value)} {oc_wanting kV_wanting dc_wanting pm_wanting ct_wanting : Value} {f_wanting : Addr} {cd_wanting : Value} {od_play an_play : Option Addr} {sl_play : Array (Option Value)} {oc_play kV_play dc_play pm_play ct_play : Value} {f_play : Addr} {cd_play : Value} {od__check_edges an__check_edges : Option Addr} {sl__check_edges : Array (Option Value)} {oc__check_edges kV__check_edges dc__check_edges pm__check_edges ct__check_edges : Value} {f__check_edges : Addr} {cd__check_edges : Value} {od__check_owners an__check_owners : Option Addr} {sl__check_owners : Array (Option Value)} {oc__check_owners kV__check_owners dc__check_owners pm__check_owners ct__check_owners : Value} {f__check_owners : Addr} {cd__check_owners : Value} {od__check_dead_ends an__check_dead_ends : Option Addr} {sl__check_dead_ends : Array (Option Value)} {oc__check_dead_ends kV__check_dead_ends dc__check_dead_ends pm__check_dead_ends ct__check_dead_ends : Value} {f__check_dead_ends : Addr} {cd__check_dead_ends : Value} {od_pool an_pool : Option Addr} {sl_pool : Array (Option Value)} {oc_pool kV_pool dc_pool pm_pool ct_pool : Value} {f_pool : Addr} {cd_pool : Value} {od_draw an_draw : Option Addr} {sl_draw : Array (Option Value)} {oc_draw kV_draw dc_draw pm_draw ct_draw : Value} {f_draw : Addr} {cd_draw : Value} {od_owners an_owners : Option Addr} {sl_owners : Array (Option Value)} {oc_owners kV_owners dc_owners pm_owners ct_owners : Value} {f_owners : Addr} {cd_owners : Value} {od_number an_number : Option Addr} {sl_number : Array (Option Value)} {oc_number kV_number dc_number pm_number ct_number : Value} {f_number : Addr} {cd_number : Value} {od_same an_same : Option Addr} {sl_same : Array (Option Value)} {oc_same kV_same dc_same pm_same ct_same : Value} {f_same : Addr} {cd_same : Value} {od_ring_edges an_ring_edges : Option Addr} {sl_ring_edges : Array (Option Value)} {oc_ring_edges kV_ring_edges dc_ring_edges pm_ring_edges ct_ring_edges : Value} {f_ring_edges : Addr} {cd_ring_edges : Value} {od_any_edges an_any_edges : Option Addr} {sl_any_edges : Array (Option Value)} {oc_any_edges kV_any_edges dc_any_edges pm_any_edges ct_any_edges : Value} {f_any_edges : Addr} {cd_any_edges : Value} {od_good_plan an_good_plan : Option Addr} {sl_good_plan : Array (Option Value)} {oc_good_plan kV_good_plan dc_good_plan pm_good_plan ct_good_plan : Value} {f_good_plan : Addr} {cd_good_plan : Value} {od_spoilt_plan an_spoilt_plan : Option Addr} {sl_spoilt_plan : Array (Option Value)} {oc_spoilt_plan kV_spoilt_plan dc_spoilt_plan pm_spoilt_plan ct_spoilt_plan : Value} {f_spoilt_plan : Addr} {cd_spoilt_plan : Value} {od_strange_plan an_strange_plan : Option Addr} {sl_strange_plan : Array (Option Value)} {oc_strange_plan kV_strange_plan dc_strange_plan pm_strange_plan ct_strange_plan : Value} {f_strange_plan : Addr} {cd_strange_plan : Value} {od_wrong_entry an_wrong_entry : Option Addr} {sl_wrong_entry : Array (Option Value)} {oc_wrong_entry kV_wrong_entry dc_wrong_entry pm_wrong_entry ct_wrong_entry : Value} {f_wrong_entry : Addr} {cd_wrong_entry : Value} {od_line an_line : Option Addr} {sl_line : Array (Option Value)} {oc_line kV_line dc_line pm_line ct_line : Value} {f_line : Addr} {cd_line : Value} {od_walked an_walked : Option Addr} {sl_walked : Array (Option Value)} {oc_walked kV_walked dc_walked pm_walked ct_walked : Value} {f_walked : Addr} {cd_walked : Value} {od_refusal an_refusal : Option Addr} {sl_refusal : Array (Option Value)} {oc_refusal kV_refusal dc_refusal pm_refusal ct_refusal : Value} {f_refusal : Addr} {cd_refusal : Value} {od_played an_played : Option Addr} {sl_played : Array (Option Value)} {oc_played kV_played dc_played pm_played ct_played : Value} {f_played : Addr} {cd_played : Value} {od_law an_law : Option Addr} {sl_law : Array (Option Value)} {oc_law kV_law dc_law pm_law ct_law : Value} {f_law : Addr} {cd_law : Value} {C_Web : Addr} {od_W_init an_W_init : Option Addr} {sl_W_init : Array (Option Value)} {oc_W_init kV_W_init dc_W_init pm_W_init ct_W_init : Value} {f_W_init : Addr} {cd_W_init : Value} {od_W_out an_W_out : Option Addr} {sl_W_out : Array (Option Value)} {oc_W_out kV_W_out dc_W_out pm_W_out ct_W_out : Value} {f_W_out : Addr} {cd_W_out : Value} {u_Web_MOST_NODES : Value} {u_Web_MOST_EDGES : Value} {C_Game : Addr} {od_G_init an_G_init : Option Addr} {sl_G_init : Array (Option Value)} {oc_G_init kV_G_init dc_G_init pm_G_init ct_G_init : Value} {f_G_init : Addr} {cda_G_init cc_G_init : Addr} {ccl_G_init : Value} {cdd_G_init : Option Addr} {cvs_G_init : Array Value} {ccs_G_init : Array (Option Value)} {cfi_G_init : Str} {ctf_G_init : Tok} {ecl_G_init : Value} {eld_G_init : Option Addr} {esl_G_init : Array (Option Value)} {od_G_out an_G_out : Option Addr} {sl_G_out : Array (Option Value)} {oc_G_out kV_G_out dc_G_out pm_G_out ct_G_out : Value} {f_G_out : Addr} {cda_G_out cc_G_out : Addr} {ccl_G_out : Value} {cdd_G_out : Option Addr} {cvs_G_out : Array Value} {ccs_G_out : Array (Option Value)} {cfi_G_out : Str} {ctf_G_out : Tok} {ecl_G_out : Value} {eld_G_out : Option Addr} {esl_G_out : Array (Option Value)} {C_NoSuchNode : Addr} {nm_NoSuchNode qn_NoSuchNode : Str} {ns_NoSuchNode : Addr} {bs_NoSuchNode bm_NoSuchNode sb_NoSuchNode : List Value} {sn_NoSuchNode : List Str} {ab_NoSuchNode : Bool} {co_NoSuchNode : Option Bool} {dd_NoSuchNode : Option Addr} {k0_NoSuchNode k1_NoSuchNode k2_NoSuchNode k3_NoSuchNode k5_NoSuchNode : Option Value} {od_NoSuchNode_init an_NoSuchNode_init : Option Addr} {sl_NoSuchNode_init : Array (Option Value)} {oc_NoSuchNode_init kV_NoSuchNode_init dc_NoSuchNode_init pm_NoSuchNode_init ct_NoSuchNode_init : Value} {f_NoSuchNode_init : Addr} {cda_NoSuchNode_init cc_NoSuchNode_init : Addr} {ccl_NoSuchNode_init : Value} {cdd_NoSuchNode_init : Option Addr} {cvs_NoSuchNode_init : Array Value} {ccs_NoSuchNode_init : Array (Option Value)} {cfi_NoSuchNode_init : Str} {ctf_NoSuchNode_init : Tok} {ecl_NoSuchNode_init : Value} {eld_NoSuchNode_init : Option Addr} {esl_NoSuchNode_init : Array (Option Value)} {C_BadPlan : Addr} {nm_BadPlan qn_BadPlan : Str} {ns_BadPlan : Addr} {bs_BadPlan bm_BadPlan sb_BadPlan : List Value} {sn_BadPlan : List Str} {ab_BadPlan : Bool} {co_BadPlan : Option Bool} {dd_BadPlan : Option Addr} {k0_BadPlan k1_BadPlan k2_BadPlan k3_BadPlan k5_BadPlan : Option Value} {od_BadPlan_init an_BadPlan_init : Option Addr} {sl_BadPlan_init : Array (Option Value)} {oc_BadPlan_init kV_BadPlan_init dc_BadPlan_init pm_BadPlan_init ct_BadPlan_init : Value} {f_BadPlan_init : Addr} {cda_BadPlan_init cc_BadPlan_init : Addr} {ccl_BadPlan_init : Value} {cdd_BadPlan_init : Option Addr} {cvs_BadPlan_init : Array Value} {ccs_BadPlan_init : Array (Option Value)} {cfi_BadPlan_init : Str} {ctf_BadPlan_init : Tok} {ecl_BadPlan_init : Value} {eld_BadPlan_init : Option Addr} {esl_BadPlan_init : Array (Option Value)} {C_OutOfRange : Addr} {C_LadderreachError : Addr} {C_GameError : Addr} {C_BadPlacement : Addr} {C_Misfit : Addr}
    (z_super : PySem.W.nsIn K mainGlobals "super" = some none)
    (zt_any : PySem.W.nsIn K cStatics "thirdparty.any" = some none)
    (z_top : (P.main.scope.names.lookup ("super" : Str)).isSome = false)
    (z_len : PySem.W.nsIn K mainGlobals "len" = some none)
    (z_abs : PySem.W.nsIn K mainGlobals "abs" = some none)
    (z_isinstance : PySem.W.nsIn K mainGlobals "isinstance" = some none)
    (z_int : PySem.W.nsIn K mainGlobals "int" = some none)
    (z_bool : PySem.W.nsIn K mainGlobals "bool" = some none)
    (z_str : PySem.W.nsIn K mainGlobals "str" = some none)
    (z_list : PySem.W.nsIn K mainGlobals "list" = some none)
    (z_tuple : PySem.W.nsIn K mainGlobals "tuple" = some none)
    (z_range : PySem.W.nsIn K mainGlobals "range" = some none)
    (z_enumerate : PySem.W.nsIn K mainGlobals "enumerate" = some none)
    (z_set : PySem.W.nsIn K mainGlobals "set" = some none)
    (z_sorted : PySem.W.nsIn K mainGlobals "sorted" = some none)
    (z_any : PySem.W.nsIn K mainGlobals "any" = some none)
    (z_max : PySem.W.nsIn K mainGlobals "max" = some none)
    (z_ValueError : PySem.W.nsIn K mainGlobals "ValueError" = some none)
    (o_gt : PySem.W.specialIn K (.builtin "object.__class__") "__get__" = some (some (.builtin "getset_descriptor.__get__")))
    (o_tk : PySem.W.takesIn K (.builtin "object.__class__") = some true)
    (a_check_count : PySem.W.nsIn K mainGlobals "check_count" = some (some (.ref f_check_count)))
    (l_check_count : K.lookup f_check_count = some ⟨oc_check_count, od_check_count, .func (PySem.W.fnOf "check_count" "check_count" (defArgs s_check_count) (defBody s_check_count) (defScope s_check_count) .none kV_check_count dc_check_count pm_check_count an_check_count cd_check_count ct_check_count), sl_check_count⟩)
    (c_check_count : PySem.W.codeIn K cd_check_count "check_count" = true)
    (k_check_count : PySem.W.keepIn K (.ref f_check_count) = true)
    (a_check_height : PySem.W.nsIn K mainGlobals "check_height" = some (some (.ref f_check_height)))
    (l_check_height : K.lookup f_check_height = some ⟨oc_check_height, od_check_height, .func (PySem.W.fnOf "check_height" "check_height" (defArgs s_check_height) (defBody s_check_height) (defScope s_check_height) .none kV_check_height dc_check_height pm_check_height an_check_height cd_check_height ct_check_height), sl_check_height⟩)
    (c_check_height : PySem.W.codeIn K cd_check_height "check_height" = true)
    (k_check_height : PySem.W.keepIn K (.ref f_check_height) = true)
    (a_check_node : PySem.W.nsIn K mainGlobals "check_node" = some (some (.ref f_check_node)))
    (l_check_node : K.lookup f_check_node = some ⟨oc_check_node, od_check_node, .func (PySem.W.fnOf "check_node" "check_node" (defArgs s_check_node) (defBody s_check_node) (defScope s_check_node) .none kV_check_node dc_check_node pm_check_node an_check_node cd_check_node ct_check_node), sl_check_node⟩)
    (c_check_node : PySem.W.codeIn K cd_check_node "check_node" = true)
    (k_check_node : PySem.W.keepIn K (.ref f_check_node) = true)
    (a_wanting : PySem.W.nsIn K mainGlobals "wanting" = some (some (.ref f_wanting)))
    (l_wanting : K.lookup f_wanting = some ⟨oc_wanting, od_wanting, .func (PySem.W.fnOf "wanting" "wanting" (defArgs s_wanting) (defBody s_wanting) (defScope s_wanting) .none kV_wanting dc_wanting pm_wanting an_wanting cd_wanting ct_wanting), sl_wanting⟩)
    (c_wanting : PySem.W.codeIn K cd_wanting "wanting" = true)
    (k_wanting : PySem.W.keepIn K (.ref f_wanting) = true)
    (a_play : PySem.W.nsIn K mainGlobals "play" = some (some (.ref f_play)))
    (l_play : K.lookup f_play = some ⟨oc_play, od_play, .func (PySem.W.fnOf "play" "play" (defArgs s_play) (defBody s_play) (defScope s_play) .none kV_play dc_play pm_play an_play cd_play ct_play), sl_play⟩)
    (c_play : PySem.W.codeIn K cd_play "play" = true)
    (k_play : PySem.W.keepIn K (.ref f_play) = true)
    (a__check_edges : PySem.W.nsIn K mainGlobals "_check_edges" = some (some (.ref f__check_edges)))
    (l__check_edges : K.lookup f__check_edges = some ⟨oc__check_edges, od__check_edges, .func (PySem.W.fnOf "_check_edges" "_check_edges" (defArgs s__check_edges) (defBody s__check_edges) (defScope s__check_edges) .none kV__check_edges dc__check_edges pm__check_edges an__check_edges cd__check_edges ct__check_edges), sl__check_edges⟩)
    (c__check_edges : PySem.W.codeIn K cd__check_edges "_check_edges" = true)
    (k__check_edges : PySem.W.keepIn K (.ref f__check_edges) = true)
    (a__check_owners : PySem.W.nsIn K mainGlobals "_check_owners" = some (some (.ref f__check_owners)))
    (l__check_owners : K.lookup f__check_owners = some ⟨oc__check_owners, od__check_owners, .func (PySem.W.fnOf "_check_owners" "_check_owners" (defArgs s__check_owners) (defBody s__check_owners) (defScope s__check_owners) .none kV__check_owners dc__check_owners pm__check_owners an__check_owners cd__check_owners ct__check_owners), sl__check_owners⟩)
    (c__check_owners : PySem.W.codeIn K cd__check_owners "_check_owners" = true)
    (k__check_owners : PySem.W.keepIn K (.ref f__check_owners) = true)
    (a__check_dead_ends : PySem.W.nsIn K mainGlobals "_check_dead_ends" = some (some (.ref f__check_dead_ends)))
    (l__check_dead_ends : K.lookup f__check_dead_ends = some ⟨oc__check_dead_ends, od__check_dead_ends, .func (PySem.W.fnOf "_check_dead_ends" "_check_dead_ends" (defArgs s__check_dead_ends) (defBody s__check_dead_ends) (defScope s__check_dead_ends) .none kV__check_dead_ends dc__check_dead_ends pm__check_dead_ends an__check_dead_ends cd__check_dead_ends ct__check_dead_ends), sl__check_dead_ends⟩)
    (c__check_dead_ends : PySem.W.codeIn K cd__check_dead_ends "_check_dead_ends" = true)
    (k__check_dead_ends : PySem.W.keepIn K (.ref f__check_dead_ends) = true)
    (a_pool : PySem.W.nsIn K mainGlobals "_law_pool" = some (some (.ref f_pool)))
    (l_pool : K.lookup f_pool = some ⟨oc_pool, od_pool, .func (PySem.W.fnOf "_law_pool" "_law_pool" (defArgs s_pool) (defBody s_pool) (defScope s_pool) .none kV_pool dc_pool pm_pool an_pool cd_pool ct_pool), sl_pool⟩)
    (c_pool : PySem.W.codeIn K cd_pool "_law_pool" = true)
    (k_pool : PySem.W.keepIn K (.ref f_pool) = true)
    (a_draw : PySem.W.nsIn K mainGlobals "_law_draw" = some (some (.ref f_draw)))
    (l_draw : K.lookup f_draw = some ⟨oc_draw, od_draw, .func (PySem.W.fnOf "_law_draw" "_law_draw" (defArgs s_draw) (defBody s_draw) (defScope s_draw) .none kV_draw dc_draw pm_draw an_draw cd_draw ct_draw), sl_draw⟩)
    (c_draw : PySem.W.codeIn K cd_draw "_law_draw" = true)
    (k_draw : PySem.W.keepIn K (.ref f_draw) = true)
    (a_owners : PySem.W.nsIn K mainGlobals "_law_owners" = some (some (.ref f_owners)))
    (l_owners : K.lookup f_owners = some ⟨oc_owners, od_owners, .func (PySem.W.fnOf "_law_owners" "_law_owners" (defArgs s_owners) (defBody s_owners) (defScope s_owners) .none kV_owners dc_owners pm_owners an_owners cd_owners ct_owners), sl_owners⟩)
    (c_owners : PySem.W.codeIn K cd_owners "_law_owners" = true)
    (k_owners : PySem.W.keepIn K (.ref f_owners) = true)
    (a_number : PySem.W.nsIn K mainGlobals "_law_number" = some (some (.ref f_number)))
    (l_number : K.lookup f_number = some ⟨oc_number, od_number, .func (PySem.W.fnOf "_law_number" "_law_number" (defArgs s_number) (defBody s_number) (defScope s_number) .none kV_number dc_number pm_number an_number cd_number ct_number), sl_number⟩)
    (c_number : PySem.W.codeIn K cd_number "_law_number" = true)
    (k_number : PySem.W.keepIn K (.ref f_number) = true)
    (a_same : PySem.W.nsIn K mainGlobals "_law_same" = some (some (.ref f_same)))
    (l_same : K.lookup f_same = some ⟨oc_same, od_same, .func (PySem.W.fnOf "_law_same" "_law_same" (defArgs s_same) (defBody s_same) (defScope s_same) .none kV_same dc_same pm_same an_same cd_same ct_same), sl_same⟩)
    (c_same : PySem.W.codeIn K cd_same "_law_same" = true)
    (k_same : PySem.W.keepIn K (.ref f_same) = true)
    (a_ring_edges : PySem.W.nsIn K mainGlobals "_law_ring_edges" = some (some (.ref f_ring_edges)))
    (l_ring_edges : K.lookup f_ring_edges = some ⟨oc_ring_edges, od_ring_edges, .func (PySem.W.fnOf "_law_ring_edges" "_law_ring_edges" (defArgs s_ring_edges) (defBody s_ring_edges) (defScope s_ring_edges) .none kV_ring_edges dc_ring_edges pm_ring_edges an_ring_edges cd_ring_edges ct_ring_edges), sl_ring_edges⟩)
    (c_ring_edges : PySem.W.codeIn K cd_ring_edges "_law_ring_edges" = true)
    (k_ring_edges : PySem.W.keepIn K (.ref f_ring_edges) = true)
    (a_any_edges : PySem.W.nsIn K mainGlobals "_law_any_edges" = some (some (.ref f_any_edges)))
    (l_any_edges : K.lookup f_any_edges = some ⟨oc_any_edges, od_any_edges, .func (PySem.W.fnOf "_law_any_edges" "_law_any_edges" (defArgs s_any_edges) (defBody s_any_edges) (defScope s_any_edges) .none kV_any_edges dc_any_edges pm_any_edges an_any_edges cd_any_edges ct_any_edges), sl_any_edges⟩)
    (c_any_edges : PySem.W.codeIn K cd_any_edges "_law_any_edges" = true)
    (k_any_edges : PySem.W.keepIn K (.ref f_any_edges) = true)
    (a_good_plan : PySem.W.nsIn K mainGlobals "_law_good_plan" = some (some (.ref f_good_plan)))
    (l_good_plan : K.lookup f_good_plan = some ⟨oc_good_plan, od_good_plan, .func (PySem.W.fnOf "_law_good_plan" "_law_good_plan" (defArgs s_good_plan) (defBody s_good_plan) (defScope s_good_plan) .none kV_good_plan dc_good_plan pm_good_plan an_good_plan cd_good_plan ct_good_plan), sl_good_plan⟩)
    (c_good_plan : PySem.W.codeIn K cd_good_plan "_law_good_plan" = true)
    (k_good_plan : PySem.W.keepIn K (.ref f_good_plan) = true)
    (a_spoilt_plan : PySem.W.nsIn K mainGlobals "_law_spoilt_plan" = some (some (.ref f_spoilt_plan)))
    (l_spoilt_plan : K.lookup f_spoilt_plan = some ⟨oc_spoilt_plan, od_spoilt_plan, .func (PySem.W.fnOf "_law_spoilt_plan" "_law_spoilt_plan" (defArgs s_spoilt_plan) (defBody s_spoilt_plan) (defScope s_spoilt_plan) .none kV_spoilt_plan dc_spoilt_plan pm_spoilt_plan an_spoilt_plan cd_spoilt_plan ct_spoilt_plan), sl_spoilt_plan⟩)
    (c_spoilt_plan : PySem.W.codeIn K cd_spoilt_plan "_law_spoilt_plan" = true)
    (k_spoilt_plan : PySem.W.keepIn K (.ref f_spoilt_plan) = true)
    (a_strange_plan : PySem.W.nsIn K mainGlobals "_law_strange_plan" = some (some (.ref f_strange_plan)))
    (l_strange_plan : K.lookup f_strange_plan = some ⟨oc_strange_plan, od_strange_plan, .func (PySem.W.fnOf "_law_strange_plan" "_law_strange_plan" (defArgs s_strange_plan) (defBody s_strange_plan) (defScope s_strange_plan) .none kV_strange_plan dc_strange_plan pm_strange_plan an_strange_plan cd_strange_plan ct_strange_plan), sl_strange_plan⟩)
    (c_strange_plan : PySem.W.codeIn K cd_strange_plan "_law_strange_plan" = true)
    (k_strange_plan : PySem.W.keepIn K (.ref f_strange_plan) = true)
    (a_wrong_entry : PySem.W.nsIn K mainGlobals "_law_wrong_entry" = some (some (.ref f_wrong_entry)))
    (l_wrong_entry : K.lookup f_wrong_entry = some ⟨oc_wrong_entry, od_wrong_entry, .func (PySem.W.fnOf "_law_wrong_entry" "_law_wrong_entry" (defArgs s_wrong_entry) (defBody s_wrong_entry) (defScope s_wrong_entry) .none kV_wrong_entry dc_wrong_entry pm_wrong_entry an_wrong_entry cd_wrong_entry ct_wrong_entry), sl_wrong_entry⟩)
    (c_wrong_entry : PySem.W.codeIn K cd_wrong_entry "_law_wrong_entry" = true)
    (k_wrong_entry : PySem.W.keepIn K (.ref f_wrong_entry) = true)
    (a_line : PySem.W.nsIn K mainGlobals "_law_line" = some (some (.ref f_line)))
    (l_line : K.lookup f_line = some ⟨oc_line, od_line, .func (PySem.W.fnOf "_law_line" "_law_line" (defArgs s_line) (defBody s_line) (defScope s_line) .none kV_line dc_line pm_line an_line cd_line ct_line), sl_line⟩)
    (c_line : PySem.W.codeIn K cd_line "_law_line" = true)
    (k_line : PySem.W.keepIn K (.ref f_line) = true)
    (a_walked : PySem.W.nsIn K mainGlobals "_law_walked" = some (some (.ref f_walked)))
    (l_walked : K.lookup f_walked = some ⟨oc_walked, od_walked, .func (PySem.W.fnOf "_law_walked" "_law_walked" (defArgs s_walked) (defBody s_walked) (defScope s_walked) .none kV_walked dc_walked pm_walked an_walked cd_walked ct_walked), sl_walked⟩)
    (c_walked : PySem.W.codeIn K cd_walked "_law_walked" = true)
    (k_walked : PySem.W.keepIn K (.ref f_walked) = true)
    (a_refusal : PySem.W.nsIn K mainGlobals "_law_refusal" = some (some (.ref f_refusal)))
    (l_refusal : K.lookup f_refusal = some ⟨oc_refusal, od_refusal, .func (PySem.W.fnOf "_law_refusal" "_law_refusal" (defArgs s_refusal) (defBody s_refusal) (defScope s_refusal) .none kV_refusal dc_refusal pm_refusal an_refusal cd_refusal ct_refusal), sl_refusal⟩)
    (c_refusal : PySem.W.codeIn K cd_refusal "_law_refusal" = true)
    (k_refusal : PySem.W.keepIn K (.ref f_refusal) = true)
    (a_played : PySem.W.nsIn K mainGlobals "_law_played" = some (some (.ref f_played)))
    (l_played : K.lookup f_played = some ⟨oc_played, od_played, .func (PySem.W.fnOf "_law_played" "_law_played" (defArgs s_played) (defBody s_played) (defScope s_played) .none kV_played dc_played pm_played an_played cd_played ct_played), sl_played⟩)
    (c_played : PySem.W.codeIn K cd_played "_law_played" = true)
    (k_played : PySem.W.keepIn K (.ref f_played) = true)
    (a_law : PySem.W.nsIn K mainGlobals "law" = some (some (.ref f_law)))
    (l_law : K.lookup f_law = some ⟨oc_law, od_law, .func (PySem.W.fnOf "law" "law" (defArgs s_law) (defBody s_law) (defScope s_law) .none kV_law dc_law pm_law an_law cd_law ct_law), sl_law⟩)
    (c_law : PySem.W.codeIn K cd_law "law" = true)
    (k_law : PySem.W.keepIn K (.ref f_law) = true)
    (aC_Web : PySem.W.nsIn K mainGlobals "Web" = some (some (.ref C_Web)))
    (pg_Web : PySem.W.plainGet K C_Web Str.empty = true)
    (hd_Web : PySem.W.hasDictIn K C_Web = true)
    (po_Web : PySem.W.plainOver K C_Web = true)
    (sa_Web : PySem.W.findIn K (.ref C_Web) "__setattr__" = some (some (.builtin "object.__setattr__")))
    (na_Web_height : PySem.W.findIn K (.ref C_Web) "height" = some none)
    (na_Web_size : PySem.W.findIn K (.ref C_Web) "size" = some none)
    (na_Web_edges : PySem.W.findIn K (.ref C_Web) "edges" = some none)
    (mk_Web : PySem.W.makesIn K C_Web = true)
    (kc_Web : PySem.W.keepIn K (.ref C_Web) = true)
    (a_W_init : PySem.W.findIn K (.ref C_Web) "__init__" = some (some (.ref f_W_init)))
    (i_W_init : PySem.W.isFn K (.ref f_W_init) = true)
    (l_W_init : K.lookup f_W_init = some ⟨oc_W_init, od_W_init, .func (PySem.W.fnOf "__init__" "Web.__init__" (defArgs s_W_init) (defBody s_W_init) (defScope s_W_init) .none kV_W_init dc_W_init pm_W_init an_W_init cd_W_init ct_W_init), sl_W_init⟩)
    (c_W_init : PySem.W.codeIn K cd_W_init "Web.__init__" = true)
    (k_W_init : PySem.W.keepIn K (.ref f_W_init) = true)
    (a_W_out : PySem.W.findIn K (.ref C_Web) "out" = some (some (.ref f_W_out)))
    (i_W_out : PySem.W.isFn K (.ref f_W_out) = true)
    (l_W_out : K.lookup f_W_out = some ⟨oc_W_out, od_W_out, .func (PySem.W.fnOf "out" "Web.out" (defArgs s_W_out) (defBody s_W_out) (defScope s_W_out) .none kV_W_out dc_W_out pm_W_out an_W_out cd_W_out ct_W_out), sl_W_out⟩)
    (c_W_out : PySem.W.codeIn K cd_W_out "Web.out" = true)
    (k_W_out : PySem.W.keepIn K (.ref f_W_out) = true)
    (cr_Web_MOST_NODES : PySem.W.readsIn K C_Web (.type "type") = true)
    (cg_Web_MOST_NODES : PySem.W.specialIn K (.ref C_Web) "__getattribute__" = some (some (.builtin "type.__getattribute__")))
    (cf_Web_MOST_NODES : PySem.W.findCls K (.ref C_Web) (.type "type") "MOST_NODES" = some (.val u_Web_MOST_NODES))
    (cx_Web_MOST_NODES : RelV (.int 9) u_Web_MOST_NODES)
    (cr_Web_MOST_EDGES : PySem.W.readsIn K C_Web (.type "type") = true)
    (cg_Web_MOST_EDGES : PySem.W.specialIn K (.ref C_Web) "__getattribute__" = some (some (.builtin "type.__getattribute__")))
    (cf_Web_MOST_EDGES : PySem.W.findCls K (.ref C_Web) (.type "type") "MOST_EDGES" = some (.val u_Web_MOST_EDGES))
    (cx_Web_MOST_EDGES : RelV (.int 63) u_Web_MOST_EDGES)
    (aC_Game : PySem.W.nsIn K mainGlobals "Game" = some (some (.ref C_Game)))
    (pg_Game : PySem.W.plainGet K C_Game Str.empty = true)
    (hd_Game : PySem.W.hasDictIn K C_Game = true)
    (po_Game : PySem.W.plainOver K C_Game = true)
    (sa_Game : PySem.W.findIn K (.ref C_Game) "__setattr__" = some (some (.builtin "object.__setattr__")))
    (na_Game_height : PySem.W.findIn K (.ref C_Game) "height" = some none)
    (na_Game_size : PySem.W.findIn K (.ref C_Game) "size" = some none)
    (na_Game_edges : PySem.W.findIn K (.ref C_Game) "edges" = some none)
    (na_Game_owners : PySem.W.findIn K (.ref C_Game) "owners" = some none)
    (mk_Game : PySem.W.makesIn K C_Game = true)
    (kc_Game : PySem.W.keepIn K (.ref C_Game) = true)
    (a_G_init : PySem.W.findIn K (.ref C_Game) "__init__" = some (some (.ref f_G_init)))
    (i_G_init : PySem.W.isFn K (.ref f_G_init) = true)
    (l_G_init : K.lookup f_G_init = some ⟨oc_G_init, od_G_init, .func (PySem.W.ksFn "__init__" "Game.__init__" (defArgs s_G_init) (defBody s_G_init) (defScope s_G_init) .none kV_G_init dc_G_init pm_G_init an_G_init (.ref cda_G_init) ct_G_init cc_G_init), sl_G_init⟩)
    (c_G_init : PySem.W.codeIn K (.ref cda_G_init) "Game.__init__" = true)
    (k_G_init : PySem.W.keepIn K (.ref f_G_init) = true)
    (h_G_init : K.lookup cda_G_init = some ⟨ccl_G_init, cdd_G_init, .fields cvs_G_init, ccs_G_init⟩)
    (v_G_init : cvs_G_init[2]? = some (.str cfi_G_init ctf_G_init))
    (p_G_init : ((P.main.file : Str) == cfi_G_init) = true)
    (e_G_init : K.lookup cc_G_init = some ⟨ecl_G_init, eld_G_init, .cell (some (.ref C_Game)), esl_G_init⟩)
    (icl_Game : PySem.W.isClsIn K C_Game = true)
    (a_G_out : PySem.W.findIn K (.ref C_Game) "out" = some (some (.ref f_G_out)))
    (i_G_out : PySem.W.isFn K (.ref f_G_out) = true)
    (l_G_out : K.lookup f_G_out = some ⟨oc_G_out, od_G_out, .func (PySem.W.ksFn "out" "Game.out" (defArgs s_G_out) (defBody s_G_out) (defScope s_G_out) .none kV_G_out dc_G_out pm_G_out an_G_out (.ref cda_G_out) ct_G_out cc_G_out), sl_G_out⟩)
    (c_G_out : PySem.W.codeIn K (.ref cda_G_out) "Game.out" = true)
    (k_G_out : PySem.W.keepIn K (.ref f_G_out) = true)
    (h_G_out : K.lookup cda_G_out = some ⟨ccl_G_out, cdd_G_out, .fields cvs_G_out, ccs_G_out⟩)
    (v_G_out : cvs_G_out[2]? = some (.str cfi_G_out ctf_G_out))
    (p_G_out : ((P.main.file : Str) == cfi_G_out) = true)
    (e_G_out : K.lookup cc_G_out = some ⟨ecl_G_out, eld_G_out, .cell (some (.ref C_Game)), esl_G_out⟩)
    (sm_Game_init : PySem.W.ks_superIn K C_Game C_Game "__init__" = some (some (.ref f_W_init)))
    (st_Game_init : PySem.W.typeIn K (.ref f_W_init) = some (.type "function"))
    (sn_Game_init : PySem.W.fnIn K f_W_init = true)
    (smr_Game : PySem.W.mroIn K C_Game (.ref C_Game) = some true)
    (sm_Game_out : PySem.W.ks_superIn K C_Game C_Game "out" = some (some (.ref f_W_out)))
    (st_Game_out : PySem.W.typeIn K (.ref f_W_out) = some (.type "function"))
    (sn_Game_out : PySem.W.fnIn K f_W_out = true)
    (aN_NoSuchNode : PySem.W.nsIn K mainGlobals "NoSuchNode" = some (some (.ref C_NoSuchNode)))
    (x_NoSuchNode : K.lookup C_NoSuchNode = some (excClassObj nm_NoSuchNode qn_NoSuchNode C_NoSuchNode ns_NoSuchNode bs_NoSuchNode bm_NoSuchNode true sn_NoSuchNode sb_NoSuchNode ab_NoSuchNode co_NoSuchNode dd_NoSuchNode k0_NoSuchNode k1_NoSuchNode k2_NoSuchNode k3_NoSuchNode k5_NoSuchNode "ValueError.__new__"))
    (r_NoSuchNode : PySem.HandSPX.refsVE bm_NoSuchNode = true)
    (sa_NoSuchNode : PySem.W.findIn K (.ref C_NoSuchNode) "__setattr__" = some (some (.builtin "object.__setattr__")))
    (xb_NoSuchNode : PySem.W.subIn K (.ref C_NoSuchNode) (.type "BaseException") = some true)
    (tc_NoSuchNode : PySem.W.typeIn K (.ref C_NoSuchNode) = some (.type "type"))
    (kc_NoSuchNode : PySem.W.keepIn K (.ref C_NoSuchNode) = true)
    (ga_NoSuchNode : PySem.W.findIn K (.ref C_NoSuchNode) "__getattribute__" = some (some (.builtin "BaseException.__getattribute__")))
    (gg_NoSuchNode : PySem.W.findIn K (.ref C_NoSuchNode) "__getattr__" = some none)
    (ac_NoSuchNode : PySem.W.findIn K (.ref C_NoSuchNode) "__class__" = some (some (.builtin "object.__class__")))
    (mo_NoSuchNode : PySem.W.mroIn K C_NoSuchNode (.type "object") = some true)
    (hd_NoSuchNode : PySem.W.hasDictIn K C_NoSuchNode = true)
    (ic_NoSuchNode : PySem.W.isClsIn K C_NoSuchNode = true)
    (no_NoSuchNode : PySem.W.findIn K (.ref C_NoSuchNode) "node" = some none)
    (sv_NoSuchNode : PySem.W.subIn K (.ref C_NoSuchNode) (.type "ValueError") = some true)
    (mr_NoSuchNode : PySem.W.mroIn K C_NoSuchNode (.ref C_NoSuchNode) = some true)
    (sm_NoSuchNode : PySem.W.ks_superIn K C_NoSuchNode C_NoSuchNode "__init__" = some (some (.builtin "ValueError.__init__")))
    (a_NoSuchNode_init : PySem.W.findIn K (.ref C_NoSuchNode) "__init__" = some (some (.ref f_NoSuchNode_init)))
    (t_NoSuchNode_init : PySem.W.typeIn K (.ref f_NoSuchNode_init) = some (.type "function"))
    (l_NoSuchNode_init : K.lookup f_NoSuchNode_init = some ⟨oc_NoSuchNode_init, od_NoSuchNode_init, .func (PySem.W.ksFn "__init__" "NoSuchNode.__init__" (defArgs s_NoSuchNode_init) (defBody s_NoSuchNode_init) (defScope s_NoSuchNode_init) .none kV_NoSuchNode_init dc_NoSuchNode_init pm_NoSuchNode_init an_NoSuchNode_init (.ref cda_NoSuchNode_init) ct_NoSuchNode_init cc_NoSuchNode_init), sl_NoSuchNode_init⟩)
    (c_NoSuchNode_init : PySem.W.codeIn K (.ref cda_NoSuchNode_init) "NoSuchNode.__init__" = true)
    (h_NoSuchNode_init : K.lookup cda_NoSuchNode_init = some ⟨ccl_NoSuchNode_init, cdd_NoSuchNode_init, .fields cvs_NoSuchNode_init, ccs_NoSuchNode_init⟩)
    (v_NoSuchNode_init : cvs_NoSuchNode_init[2]? = some (.str cfi_NoSuchNode_init ctf_NoSuchNode_init))
    (p_NoSuchNode_init : ((P.main.file : Str) == cfi_NoSuchNode_init) = true)
    (e_NoSuchNode_init : K.lookup cc_NoSuchNode_init = some ⟨ecl_NoSuchNode_init, eld_NoSuchNode_init, .cell (some (.ref C_NoSuchNode)), esl_NoSuchNode_init⟩)
    (aN_BadPlan : PySem.W.nsIn K mainGlobals "BadPlan" = some (some (.ref C_BadPlan)))
    (x_BadPlan : K.lookup C_BadPlan = some (excClassObj nm_BadPlan qn_BadPlan C_BadPlan ns_BadPlan bs_BadPlan bm_BadPlan true sn_BadPlan sb_BadPlan ab_BadPlan co_BadPlan dd_BadPlan k0_BadPlan k1_BadPlan k2_BadPlan k3_BadPlan k5_BadPlan "ValueError.__new__"))
    (r_BadPlan : PySem.HandSPX.refsVE bm_BadPlan = true)
    (sa_BadPlan : PySem.W.findIn K (.ref C_BadPlan) "__setattr__" = some (some (.builtin "object.__setattr__")))
    (xb_BadPlan : PySem.W.subIn K (.ref C_BadPlan) (.type "BaseException") = some true)
    (tc_BadPlan : PySem.W.typeIn K (.ref C_BadPlan) = some (.type "type"))
    (kc_BadPlan : PySem.W.keepIn K (.ref C_BadPlan) = true)
    (ga_BadPlan : PySem.W.findIn K (.ref C_BadPlan) "__getattribute__" = some (some (.builtin "BaseException.__getattribute__")))
    (gg_BadPlan : PySem.W.findIn K (.ref C_BadPlan) "__getattr__" = some none)
    (ac_BadPlan : PySem.W.findIn K (.ref C_BadPlan) "__class__" = some (some (.builtin "object.__class__")))
    (mo_BadPlan : PySem.W.mroIn K C_BadPlan (.type "object") = some true)
    (hd_BadPlan : PySem.W.hasDictIn K C_BadPlan = true)
    (ic_BadPlan : PySem.W.isClsIn K C_BadPlan = true)
    (no_BadPlan : PySem.W.findIn K (.ref C_BadPlan) "node" = some none)
    (sv_BadPlan : PySem.W.subIn K (.ref C_BadPlan) (.type "ValueError") = some true)
    (mr_BadPlan : PySem.W.mroIn K C_BadPlan (.ref C_BadPlan) = some true)
    (sm_BadPlan : PySem.W.ks_superIn K C_BadPlan C_BadPlan "__init__" = some (some (.builtin "ValueError.__init__")))
    (a_BadPlan_init : PySem.W.findIn K (.ref C_BadPlan) "__init__" = some (some (.ref f_BadPlan_init)))
    (t_BadPlan_init : PySem.W.typeIn K (.ref f_BadPlan_init) = some (.type "function"))
    (l_BadPlan_init : K.lookup f_BadPlan_init = some ⟨oc_BadPlan_init, od_BadPlan_init, .func (PySem.W.ksFn "__init__" "BadPlan.__init__" (defArgs s_BadPlan_init) (defBody s_BadPlan_init) (defScope s_BadPlan_init) .none kV_BadPlan_init dc_BadPlan_init pm_BadPlan_init an_BadPlan_init (.ref cda_BadPlan_init) ct_BadPlan_init cc_BadPlan_init), sl_BadPlan_init⟩)
    (c_BadPlan_init : PySem.W.codeIn K (.ref cda_BadPlan_init) "BadPlan.__init__" = true)
    (h_BadPlan_init : K.lookup cda_BadPlan_init = some ⟨ccl_BadPlan_init, cdd_BadPlan_init, .fields cvs_BadPlan_init, ccs_BadPlan_init⟩)
    (v_BadPlan_init : cvs_BadPlan_init[2]? = some (.str cfi_BadPlan_init ctf_BadPlan_init))
    (p_BadPlan_init : ((P.main.file : Str) == cfi_BadPlan_init) = true)
    (e_BadPlan_init : K.lookup cc_BadPlan_init = some ⟨ecl_BadPlan_init, eld_BadPlan_init, .cell (some (.ref C_BadPlan)), esl_BadPlan_init⟩)
    (aN_OutOfRange : PySem.W.nsIn K mainGlobals "OutOfRange" = some (some (.ref C_OutOfRange)))
    (aN_LadderreachError : PySem.W.nsIn K mainGlobals "LadderreachError" = some (some (.ref C_LadderreachError)))
    (aN_GameError : PySem.W.nsIn K mainGlobals "GameError" = some (some (.ref C_GameError)))
    (aN_BadPlacement : PySem.W.nsIn K mainGlobals "BadPlacement" = some (some (.ref C_BadPlacement)))
    (aN_Misfit : PySem.W.nsIn K mainGlobals "Misfit" = some (some (.ref C_Misfit)))
    (kit_NoSuchNode_OutOfRange : PySem.W.kitOne K (.ref C_NoSuchNode) (.ref C_OutOfRange) = some true)
    (kit_NoSuchNode_LadderreachError : PySem.W.kitOne K (.ref C_NoSuchNode) (.ref C_LadderreachError) = some true)
    (kit_NoSuchNode_ValueError : PySem.W.kitOne K (.ref C_NoSuchNode) (.type "ValueError") = some true)
    (kit_NoSuchNode_GameError : PySem.W.kitOne K (.ref C_NoSuchNode) (.ref C_GameError) = some false)
    (kit_BadPlan_OutOfRange : PySem.W.kitOne K (.ref C_BadPlan) (.ref C_OutOfRange) = some false)
    (kit_BadPlan_LadderreachError : PySem.W.kitOne K (.ref C_BadPlan) (.ref C_LadderreachError) = some true)
    (kit_BadPlan_ValueError : PySem.W.kitOne K (.ref C_BadPlan) (.type "ValueError") = some true)
    (kit_BadPlan_GameError : PySem.W.kitOne K (.ref C_BadPlan) (.ref C_GameError) = some false)
    (kit_BadPlan_BadPlacement : PySem.W.kitOne K (.ref C_BadPlan) (.ref C_BadPlacement) = some false)
    (kit_BadPlan_Misfit : PySem.W.kitOne K (.ref C_BadPlan) (.ref C_Misfit) = some false)
    (exm_NoSuchNode_NoSuchNode : PySem.W.exmOne K (.ref C_NoSuchNode) (.ref C_NoSuchNode) = some true)
    (exm_BadPlan_NoSuchNode : PySem.W.exmOne K (.ref C_BadPlan) (.ref C_NoSuchNode) = some false)
    (exm_BadPlan_BadPlan : PySem.W.exmOne K (.ref C_BadPlan) (.ref C_BadPlan) = some true) :
    Txt P K mg ⟨C_Web, C_Game, C_NoSuchNode, C_BadPlan, C_OutOfRange, C_LadderreachError, C_GameError, C_BadPlacement, C_Misfit⟩ := {
    n_len := PySem.W.mg_none_of X G z_len,
    n_abs := PySem.W.mg_none_of X G z_abs,
    n_isinstance := PySem.W.mg_none_of X G z_isinstance,
    n_int := PySem.W.mg_none_of X G z_int,
    n_bool := PySem.W.mg_none_of X G z_bool,
    n_str := PySem.W.mg_none_of X G z_str,
    n_list := PySem.W.mg_none_of X G z_list,
    n_tuple := PySem.W.mg_none_of X G z_tuple,
    n_range := PySem.W.mg_none_of X G z_range,
    n_enumerate := PySem.W.mg_none_of X G z_enumerate,
    n_set := PySem.W.mg_none_of X G z_set,
    n_sorted := PySem.W.mg_none_of X G z_sorted,
    n_any := PySem.W.mg_none_of X G z_any,
    n_max := PySem.W.mg_none_of X G z_max,
    n_ValueError := PySem.W.mg_none_of X G z_ValueError,
    objc := ⟨o_gt, o_tk⟩,
    d_check_count := ⟨_, _, fun_mk (st := s_check_count) l_check_count c_check_count k_check_count, PySem.W.mg_of X G a_check_count, (fun_mk (st := s_check_count) l_check_count c_check_count k_check_count).binds (ps := ["count", "most"]) (fun _ _ _ _ _ _ us hl => match us, hl with | [_, _], _ => rfl)⟩,
    d_check_height := ⟨_, _, fun_mk (st := s_check_height) l_check_height c_check_height k_check_height, PySem.W.mg_of X G a_check_height, (fun_mk (st := s_check_height) l_check_height c_check_height k_check_height).binds (ps := ["height"]) (fun _ _ _ _ _ _ us hl => match us, hl with | [_], _ => rfl)⟩,
    d_check_node := ⟨_, _, fun_mk (st := s_check_node) l_check_node c_check_node k_check_node, PySem.W.mg_of X G a_check_node, (fun_mk (st := s_check_node) l_check_node c_check_node k_check_node).binds (ps := ["size", "node"]) (fun _ _ _ _ _ _ us hl => match us, hl with | [_, _], _ => rfl)⟩,
    d_wanting := ⟨_, _, fun_mk (st := s_wanting) l_wanting c_wanting k_wanting, PySem.W.mg_of X G a_wanting, (fun_mk (st := s_wanting) l_wanting c_wanting k_wanting).binds (ps := ["rank"]) (fun _ _ _ _ _ _ us hl => match us, hl with | [_], _ => rfl)⟩,
    d_play := ⟨_, _, fun_mk (st := s_play) l_play c_play k_play, PySem.W.mg_of X G a_play, (fun_mk (st := s_play) l_play c_play k_play).binds (ps := ["game", "plan", "start"]) (fun _ _ _ _ _ _ us hl => match us, hl with | [_, _, _], _ => rfl)⟩,
    d__check_edges := ⟨_, _, fun_mk (st := s__check_edges) l__check_edges c__check_edges k__check_edges, PySem.W.mg_of X G a__check_edges, (fun_mk (st := s__check_edges) l__check_edges c__check_edges k__check_edges).binds (ps := ["height", "size", "edges"]) (fun _ _ _ _ _ _ us hl => match us, hl with | [_, _, _], _ => rfl)⟩,
    d__check_owners := ⟨_, _, fun_mk (st := s__check_owners) l__check_owners c__check_owners k__check_owners, PySem.W.mg_of X G a__check_owners, (fun_mk (st := s__check_owners) l__check_owners c__check_owners k__check_owners).binds (ps := ["owners"]) (fun _ _ _ _ _ _ us hl => match us, hl with | [_], _ => rfl)⟩,
    d__check_dead_ends := ⟨_, _, fun_mk (st := s__check_dead_ends) l__check_dead_ends c__check_dead_ends k__check_dead_ends, PySem.W.mg_of X G a__check_dead_ends, (fun_mk (st := s__check_dead_ends) l__check_dead_ends c__check_dead_ends k__check_dead_ends).binds (ps := ["size", "edges"]) (fun _ _ _ _ _ _ us hl => match us, hl with | [_, _], _ => rfl)⟩,
    d_pool := ⟨_, _, fun_mk (st := s_pool) l_pool c_pool k_pool, PySem.W.mg_of X G a_pool, (fun_mk (st := s_pool) l_pool c_pool k_pool).binds (ps := ["script", "k"]) (fun _ _ _ _ _ _ us hl => match us, hl with | [_, _], _ => rfl)⟩,
    d_draw := ⟨_, _, fun_mk (st := s_draw) l_draw c_draw k_draw, PySem.W.mg_of X G a_draw, (fun_mk (st := s_draw) l_draw c_draw k_draw).binds (ps := ["pool", "many"]) (fun _ _ _ _ _ _ us hl => match us, hl with | [_, _], _ => rfl)⟩,
    d_owners := ⟨_, _, fun_mk (st := s_owners) l_owners c_owners k_owners, PySem.W.mg_of X G a_owners, (fun_mk (st := s_owners) l_owners c_owners k_owners).binds (ps := ["pool", "size"]) (fun _ _ _ _ _ _ us hl => match us, hl with | [_, _], _ => rfl)⟩,
    d_number := ⟨_, _, fun_mk (st := s_number) l_number c_number k_number, PySem.W.mg_of X G a_number, (fun_mk (st := s_number) l_number c_number k_number).binds (ps := ["value"]) (fun _ _ _ _ _ _ us hl => match us, hl with | [_], _ => rfl)⟩,
    d_same := ⟨_, _, fun_mk (st := s_same) l_same c_same k_same, PySem.W.mg_of X G a_same, (fun_mk (st := s_same) l_same c_same k_same).binds (ps := ["answer", "due"]) (fun _ _ _ _ _ _ us hl => match us, hl with | [_, _], _ => rfl)⟩,
    d_ring_edges := ⟨_, _, fun_mk (st := s_ring_edges) l_ring_edges c_ring_edges k_ring_edges, PySem.W.mg_of X G a_ring_edges, (fun_mk (st := s_ring_edges) l_ring_edges c_ring_edges k_ring_edges).binds (ps := ["pool", "height", "size"]) (fun _ _ _ _ _ _ us hl => match us, hl with | [_, _, _], _ => rfl)⟩,
    d_any_edges := ⟨_, _, fun_mk (st := s_any_edges) l_any_edges c_any_edges k_any_edges, PySem.W.mg_of X G a_any_edges, (fun_mk (st := s_any_edges) l_any_edges c_any_edges k_any_edges).binds (ps := ["pool", "height", "size"]) (fun _ _ _ _ _ _ us hl => match us, hl with | [_, _, _], _ => rfl)⟩,
    d_good_plan := ⟨_, _, fun_mk (st := s_good_plan) l_good_plan c_good_plan k_good_plan, PySem.W.mg_of X G a_good_plan, (fun_mk (st := s_good_plan) l_good_plan c_good_plan k_good_plan).binds (ps := ["pool", "edges", "size"]) (fun _ _ _ _ _ _ us hl => match us, hl with | [_, _, _], _ => rfl)⟩,
    d_spoilt_plan := ⟨_, _, fun_mk (st := s_spoilt_plan) l_spoilt_plan c_spoilt_plan k_spoilt_plan, PySem.W.mg_of X G a_spoilt_plan, (fun_mk (st := s_spoilt_plan) l_spoilt_plan c_spoilt_plan k_spoilt_plan).binds (ps := ["pool", "height", "plan"]) (fun _ _ _ _ _ _ us hl => match us, hl with | [_, _, _], _ => rfl)⟩,
    d_strange_plan := ⟨_, _, fun_mk (st := s_strange_plan) l_strange_plan c_strange_plan k_strange_plan, PySem.W.mg_of X G a_strange_plan, (fun_mk (st := s_strange_plan) l_strange_plan c_strange_plan k_strange_plan).binds (ps := ["pool", "height", "plan"]) (fun _ _ _ _ _ _ us hl => match us, hl with | [_, _, _], _ => rfl)⟩,
    d_wrong_entry := ⟨_, _, fun_mk (st := s_wrong_entry) l_wrong_entry c_wrong_entry k_wrong_entry, PySem.W.mg_of X G a_wrong_entry, (fun_mk (st := s_wrong_entry) l_wrong_entry c_wrong_entry k_wrong_entry).binds (ps := ["edges", "plan", "node"]) (fun _ _ _ _ _ _ us hl => match us, hl with | [_, _, _], _ => rfl)⟩,
    d_line := ⟨_, _, fun_mk (st := s_line) l_line c_line k_line, PySem.W.mg_of X G a_line, (fun_mk (st := s_line) l_line c_line k_line).binds (ps := ["edges", "plan", "node"]) (fun _ _ _ _ _ _ us hl => match us, hl with | [_, _, _], _ => rfl)⟩,
    d_walked := ⟨_, _, fun_mk (st := s_walked) l_walked c_walked k_walked, PySem.W.mg_of X G a_walked, (fun_mk (st := s_walked) l_walked c_walked k_walked).binds (ps := ["plan", "line"]) (fun _ _ _ _ _ _ us hl => match us, hl with | [_, _], _ => rfl)⟩,
    d_refusal := ⟨_, _, fun_mk (st := s_refusal) l_refusal c_refusal k_refusal, PySem.W.mg_of X G a_refusal, (fun_mk (st := s_refusal) l_refusal c_refusal k_refusal).binds (ps := ["game", "plan", "node"]) (fun _ _ _ _ _ _ us hl => match us, hl with | [_, _, _], _ => rfl)⟩,
    d_played := ⟨_, _, fun_mk (st := s_played) l_played c_played k_played, PySem.W.mg_of X G a_played, (fun_mk (st := s_played) l_played c_played k_played).binds (ps := ["game", "edges", "plan", "node"]) (fun _ _ _ _ _ _ us hl => match us, hl with | [_, _, _, _], _ => rfl)⟩,
    d_law := ⟨_, _, fun_mk (st := s_law) l_law c_law k_law, PySem.W.mg_of X G a_law, (fun_mk (st := s_law) l_law c_law k_law).binds (ps := ["script"]) (fun _ _ _ _ _ _ us hl => match us, hl with | [_], _ => rfl)⟩,
    cl_Web := ⟨pg_Web, hd_Web, po_Web, sa_Web⟩,
    mg_Web := PySem.W.mg_of X G aC_Web,
    na_Web_height := na_Web_height,
    na_Web_size := na_Web_size,
    na_Web_edges := na_Web_edges,
    mk_Web := ⟨_, _, fun_mk (st := s_W_init) l_W_init c_W_init k_W_init, ⟨mk_Web, a_W_init, i_W_init, kc_Web⟩, PySem.W.mg_of X G aC_Web, (fun_mk (st := s_W_init) l_W_init c_W_init k_W_init).binds (ps := ["self", "height", "size", "edges"]) (fun _ _ _ _ _ _ us hl => match us, hl with | [_, _, _, _], _ => rfl)⟩,
    mt_W_out := ⟨_, _, fun_mk (st := s_W_out) l_W_out c_W_out k_W_out, ⟨a_W_out, i_W_out, k_W_out⟩, (fun_mk (st := s_W_out) l_W_out c_W_out k_W_out).binds (ps := ["self", "node"]) (fun _ _ _ _ _ _ us hl => match us, hl with | [_, _], _ => rfl)⟩,
    cv_Web_MOST_NODES := ⟨_, _, ⟨cr_Web_MOST_NODES, cg_Web_MOST_NODES⟩, ⟨cf_Web_MOST_NODES, cx_Web_MOST_NODES⟩⟩,
    cv_Web_MOST_EDGES := ⟨_, _, ⟨cr_Web_MOST_EDGES, cg_Web_MOST_EDGES⟩, ⟨cf_Web_MOST_EDGES, cx_Web_MOST_EDGES⟩⟩,
    cl_Game := ⟨pg_Game, hd_Game, po_Game, sa_Game⟩,
    mg_Game := PySem.W.mg_of X G aC_Game,
    na_Game_height := na_Game_height,
    na_Game_size := na_Game_size,
    na_Game_edges := na_Game_edges,
    na_Game_owners := na_Game_owners,
    mk_Game := ⟨⟨_, _, _, _, ⟨⟨_, _, _, l_G_init⟩, ⟨_, rfl, rfl⟩, ⟨_, _, _, _, _, _, h_G_init, v_G_init, p_G_init⟩, ⟨_, _, _, e_G_init⟩, Option.isSome_iff_exists.mp icl_Game, PySem.W.mg_none_of X G z_super, z_top, zt_any⟩, ⟨mk_Game, a_G_init, i_G_init, kc_Game⟩, PySem.W.mg_of X G aC_Game, .all (fun us hl => match us, hl with | [_, _, _, _], _ => rfl), _, _, _, _, _, _, _, _, rfl, l_G_init, c_G_init⟩⟩,
    mt_G_out := ⟨⟨_, _, _, _, ⟨⟨_, _, _, l_G_out⟩, ⟨_, rfl, rfl⟩, ⟨_, _, _, _, _, _, h_G_out, v_G_out, p_G_out⟩, ⟨_, _, _, e_G_out⟩, Option.isSome_iff_exists.mp icl_Game, PySem.W.mg_none_of X G z_super, z_top, zt_any⟩, ⟨a_G_out, i_G_out, k_G_out⟩, .all (fun us hl => match us, hl with | [_, _], _ => rfl), _, _, _, _, _, _, _, _, rfl, l_G_out, c_G_out⟩⟩,
    su_Game_init := ⟨⟨_, _, sm_Game_init, st_Game_init, sn_Game_init, fun_mk (st := s_W_init) l_W_init c_W_init k_W_init, (fun_mk (st := s_W_init) l_W_init c_W_init k_W_init).binds (ps := ["self", "height", "size", "edges"]) (fun _ _ _ _ _ _ us hl => match us, hl with | [_, _, _, _], _ => rfl)⟩, smr_Game, by decide⟩,
    su_Game_out := ⟨⟨_, _, sm_Game_out, st_Game_out, sn_Game_out, fun_mk (st := s_W_out) l_W_out c_W_out k_W_out, (fun_mk (st := s_W_out) l_W_out c_W_out k_W_out).binds (ps := ["self", "node"]) (fun _ _ _ _ _ _ us hl => match us, hl with | [_, _], _ => rfl)⟩, smr_Game, by decide⟩,
    mg_NoSuchNode := PySem.W.mg_of X G aN_NoSuchNode,
    e_NoSuchNode := { gC := PySem.W.mg_of X G aN_NoSuchNode, T := ⟨⟨_, _, _, _, _, _, _, _, _, _, _, _, _, _, _, x_NoSuchNode, r_NoSuchNode⟩, sa_NoSuchNode, xb_NoSuchNode, tc_NoSuchNode, kc_NoSuchNode⟩, E := ⟨ic_NoSuchNode, ga_NoSuchNode, gg_NoSuchNode, xb_NoSuchNode, ac_NoSuchNode, mo_NoSuchNode, hd_NoSuchNode⟩, X := ⟨ga_NoSuchNode, gg_NoSuchNode, xb_NoSuchNode, hd_NoSuchNode⟩, no := no_NoSuchNode, sm := sm_NoSuchNode, mr := mr_NoSuchNode, sv := sv_NoSuchNode, ini := ⟨_, _, _, _, a_NoSuchNode_init, t_NoSuchNode_init, ⟨⟨_, _, _, l_NoSuchNode_init⟩, ⟨_, rfl, rfl⟩, ⟨_, _, _, _, _, _, h_NoSuchNode_init, v_NoSuchNode_init, p_NoSuchNode_init⟩, ⟨_, _, _, e_NoSuchNode_init⟩, Option.isSome_iff_exists.mp ic_NoSuchNode, PySem.W.mg_none_of X G z_super, z_top, zt_any⟩, .all (fun us hl => match us, hl with | [_, _], _ => rfl), _, _, _, _, _, _, _, _, rfl, l_NoSuchNode_init, c_NoSuchNode_init⟩ },
    mg_BadPlan := PySem.W.mg_of X G aN_BadPlan,
    e_BadPlan := { gC := PySem.W.mg_of X G aN_BadPlan, T := ⟨⟨_, _, _, _, _, _, _, _, _, _, _, _, _, _, _, x_BadPlan, r_BadPlan⟩, sa_BadPlan, xb_BadPlan, tc_BadPlan, kc_BadPlan⟩, E := ⟨ic_BadPlan, ga_BadPlan, gg_BadPlan, xb_BadPlan, ac_BadPlan, mo_BadPlan, hd_BadPlan⟩, X := ⟨ga_BadPlan, gg_BadPlan, xb_BadPlan, hd_BadPlan⟩, no := no_BadPlan, sm := sm_BadPlan, mr := mr_BadPlan, sv := sv_BadPlan, ini := ⟨_, _, _, _, a_BadPlan_init, t_BadPlan_init, ⟨⟨_, _, _, l_BadPlan_init⟩, ⟨_, rfl, rfl⟩, ⟨_, _, _, _, _, _, h_BadPlan_init, v_BadPlan_init, p_BadPlan_init⟩, ⟨_, _, _, e_BadPlan_init⟩, Option.isSome_iff_exists.mp ic_BadPlan, PySem.W.mg_none_of X G z_super, z_top, zt_any⟩, .all (fun us hl => match us, hl with | [_, _], _ => rfl), _, _, _, _, _, _, _, _, rfl, l_BadPlan_init, c_BadPlan_init⟩ },
    mg_OutOfRange := PySem.W.mg_of X G aN_OutOfRange,
    mg_LadderreachError := PySem.W.mg_of X G aN_LadderreachError,
    mg_GameError := PySem.W.mg_of X G aN_GameError,
    mg_BadPlacement := PySem.W.mg_of X G aN_BadPlacement,
    mg_Misfit := PySem.W.mg_of X G aN_Misfit,
    kit_NoSuchNode_OutOfRange := kit_NoSuchNode_OutOfRange,
    kit_NoSuchNode_LadderreachError := kit_NoSuchNode_LadderreachError,
    kit_NoSuchNode_ValueError := kit_NoSuchNode_ValueError,
    kit_NoSuchNode_GameError := kit_NoSuchNode_GameError,
    kit_BadPlan_OutOfRange := kit_BadPlan_OutOfRange,
    kit_BadPlan_LadderreachError := kit_BadPlan_LadderreachError,
    kit_BadPlan_ValueError := kit_BadPlan_ValueError,
    kit_BadPlan_GameError := kit_BadPlan_GameError,
    kit_BadPlan_BadPlacement := kit_BadPlan_BadPlacement,
    kit_BadPlan_Misfit := kit_BadPlan_Misfit,
    exm_NoSuchNode_NoSuchNode := exm_NoSuchNode_NoSuchNode,
    exm_BadPlan_NoSuchNode := exm_BadPlan_NoSuchNode,
    exm_BadPlan_BadPlan := exm_BadPlan_BadPlan }
theorem walk {l : PySem.W.OpenLaw} {q : Program} {loose : List Str} {XP : (Str → Option Value) → Heap → Prop} {YP : World → Heap → Prop} {d : DefRec} {K : Params → PySem.W.Frag} (hn : l.most = some 63) (hdf : d.params.defaults = []) (hd : d.name = "law")
    (hY : ∀ (w : World) (h : Heap), YP w h → (K w.params).In h)
    (F : ∀ (w : World) (mg : Str → Option Value) (h : Heap), (K w.params).In h → h.Ns mainGlobals mg → ∃ c, Txt l.prog (K w.params) mg c) :
    PySem.W.WalkO q loose XP YP l.row.toRowW d [] (fun f vs => PySem.call f vs) :=
  L2.walk_of (n := 63) (k := lawLevel) (x := "script") (CX := fun _ => CX0) (sp := fun w => spLaw (K w.params)) hn (by decide) hdf ⟨rfl, by decide, by decide⟩ hY
    (fun w mg fa h KX G hmg => by
      obtain ⟨ζ, T⟩ := F w mg h KX G
      obtain ⟨f, fd, Ff, hm, b⟩ := T.d_law.ex
      rw [hd, hm] at hmg
      cases hmg
      refine ⟨fd, fun s v => ?_, fun base _ _ => ok_law T Ff⟩
      obtain ⟨oc, od, kV, doc, pm, an, cdv, ct, osl, rfl, lk, hcd⟩ := Ff.ex
      exact .of_eq rfl)
    (fun _ _ a ns hl _ hS => ⟨a, ns, rfl, hS, fun _ => rfl⟩) fun _ _ _ _ _ z => z
end LR
open PySem PySem.W PyProof.Rows in
set_option maxRecDepth 100000 in
set_option maxHeartbeats 0 in
theorem PySem.Challenge.cw_ladderreach_k14_play_of_one_plan_holds : PySem.Challenge.rw_ladderreach_k14_play_of_one_plan.Holds := by
  w_on; o_law; k_head; (case hw => w_witness2)
  k_fill
  refine LR.walk (l := PySem.Challenge.rw_ladderreach_k14_play_of_one_plan) rfl rfl rfl (fun w h Y => PySem.W.kIn_of Y) ?F
  case F =>
    intro w mg h KX G
    refine' ⟨_, LR.all_mk (P := PySem.Challenge.rw_ladderreach_k14_play_of_one_plan.prog) KX G ?z_super ?zt_any ?z_top ?z_len ?z_abs ?z_isinstance ?z_int ?z_bool ?z_str ?z_list ?z_tuple ?z_range ?z_enumerate ?z_set ?z_sorted ?z_any ?z_max ?z_ValueError ?o_gt ?o_tk ?a_check_count ?l_check_count ?c_check_count ?k_check_count ?a_check_height ?l_check_height ?c_check_height ?k_check_height ?a_check_node ?l_check_node ?c_check_node ?k_check_node ?a_wanting ?l_wanting ?c_wanting ?k_wanting ?a_play ?l_play ?c_play ?k_play ?a__check_edges ?l__check_edges ?c__check_edges ?k__check_edges ?a__check_owners ?l__check_owners ?c__check_owners ?k__check_owners ?a__check_dead_ends ?l__check_dead_ends ?c__check_dead_ends ?k__check_dead_ends ?a_pool ?l_pool ?c_pool ?k_pool ?a_draw ?l_draw ?c_draw ?k_draw ?a_owners ?l_owners ?c_owners ?k_owners ?a_number ?l_number ?c_number ?k_number ?a_same ?l_same ?c_same ?k_same ?a_ring_edges ?l_ring_edges ?c_ring_edges ?k_ring_edges ?a_any_edges ?l_any_edges ?c_any_edges ?k_any_edges ?a_good_plan ?l_good_plan ?c_good_plan ?k_good_plan ?a_spoilt_plan ?l_spoilt_plan ?c_spoilt_plan ?k_spoilt_plan ?a_strange_plan ?l_strange_plan ?c_strange_plan ?k_strange_plan ?a_wrong_entry ?l_wrong_entry ?c_wrong_entry ?k_wrong_entry ?a_line ?l_line ?c_line ?k_line ?a_walked ?l_walked ?c_walked ?k_walked ?a_refusal ?l_refusal ?c_refusal ?k_refusal ?a_played ?l_played ?c_played ?k_played ?a_law ?l_law ?c_law ?k_law ?aC_Web ?pg_Web ?hd_Web ?po_Web ?sa_Web ?na_Web_height ?na_Web_size ?na_Web_edges ?mk_Web ?kc_Web ?a_W_init ?i_W_init ?l_W_init ?c_W_init ?k_W_init ?a_W_out ?i_W_out ?l_W_out ?c_W_out ?k_W_out ?cr_Web_MOST_NODES ?cg_Web_MOST_NODES ?cf_Web_MOST_NODES ?cx_Web_MOST_NODES ?cr_Web_MOST_EDGES ?cg_Web_MOST_EDGES ?cf_Web_MOST_EDGES ?cx_Web_MOST_EDGES ?aC_Game ?pg_Game ?hd_Game ?po_Game ?sa_Game ?na_Game_height ?na_Game_size ?na_Game_edges ?na_Game_owners ?mk_Game ?kc_Game ?a_G_init ?i_G_init ?l_G_init ?c_G_init ?k_G_init ?h_G_init ?v_G_init ?p_G_init ?e_G_init ?icl_Game ?a_G_out ?i_G_out ?l_G_out ?c_G_out ?k_G_out ?h_G_out ?v_G_out ?p_G_out ?e_G_out ?sm_Game_init ?st_Game_init ?sn_Game_init ?smr_Game ?sm_Game_out ?st_Game_out ?sn_Game_out ?aN_NoSuchNode ?x_NoSuchNode ?r_NoSuchNode ?sa_NoSuchNode ?xb_NoSuchNode ?tc_NoSuchNode ?kc_NoSuchNode ?ga_NoSuchNode ?gg_NoSuchNode ?ac_NoSuchNode ?mo_NoSuchNode ?hd_NoSuchNode ?ic_NoSuchNode ?no_NoSuchNode ?sv_NoSuchNode ?mr_NoSuchNode ?sm_NoSuchNode ?a_NoSuchNode_init ?t_NoSuchNode_init ?l_NoSuchNode_init ?c_NoSuchNode_init ?h_NoSuchNode_init ?v_NoSuchNode_init ?p_NoSuchNode_init ?e_NoSuchNode_init ?aN_BadPlan ?x_BadPlan ?r_BadPlan ?sa_BadPlan ?xb_BadPlan ?tc_BadPlan ?kc_BadPlan ?ga_BadPlan ?gg_BadPlan ?ac_BadPlan ?mo_BadPlan ?hd_BadPlan ?ic_BadPlan ?no_BadPlan ?sv_BadPlan ?mr_BadPlan ?sm_BadPlan ?a_BadPlan_init ?t_BadPlan_init ?l_BadPlan_init ?c_BadPlan_init ?h_BadPlan_init ?v_BadPlan_init ?p_BadPlan_init ?e_BadPlan_init ?aN_OutOfRange ?aN_LadderreachError ?aN_GameError ?aN_BadPlacement ?aN_Misfit ?kit_NoSuchNode_OutOfRange ?kit_NoSuchNode_LadderreachError ?kit_NoSuchNode_ValueError ?kit_NoSuchNode_GameError ?kit_BadPlan_OutOfRange ?kit_BadPlan_LadderreachError ?kit_BadPlan_ValueError ?kit_BadPlan_GameError ?kit_BadPlan_BadPlacement ?kit_BadPlan_Misfit ?exm_NoSuchNode_NoSuchNode ?exm_BadPlan_NoSuchNode ?exm_BadPlan_BadPlan⟩
    (case z_super => k_is)
    (case zt_any => k_is)
    (case z_top => first | rfl | decide +kernel)
    (case z_len => k_is)
    (case z_abs => k_is)
    (case z_isinstance => k_is)
    (case z_int => k_is)
    (case z_bool => k_is)
    (case z_str => k_is)
    (case z_list => k_is)
    (case z_tuple => k_is)
    (case z_range => k_is)
    (case z_enumerate => k_is)
    (case z_set => k_is)
    (case z_sorted => k_is)
    (case z_any => k_is)
    (case z_max => k_is)
    (case z_ValueError => k_is)
    (case o_gt => k_is)
    (case o_tk => k_is)
    (case a_check_count => k_is)
    (case l_check_count => k_is)
    (case c_check_count => k_is)
    (case k_check_count => k_is)
    (case a_check_height => k_is)
    (case l_check_height => k_is)
    (case c_check_height => k_is)
    (case k_check_height => k_is)
    (case a_check_node => k_is)
    (case l_check_node => k_is)
    (case c_check_node => k_is)
    (case k_check_node => k_is)
    (case a_wanting => k_is)
    (case l_wanting => k_is)
    (case c_wanting => k_is)
    (case k_wanting => k_is)
    (case a_play => k_is)
    (case l_play => k_is)
    (case c_play => k_is)
    (case k_play => k_is)
    (case a__check_edges => k_is)
    (case l__check_edges => k_is)
    (case c__check_edges => k_is)
    (case k__check_edges => k_is)
    (case a__check_owners => k_is)
    (case l__check_owners => k_is)
    (case c__check_owners => k_is)
    (case k__check_owners => k_is)
    (case a__check_dead_ends => k_is)
    (case l__check_dead_ends => k_is)
    (case c__check_dead_ends => k_is)
    (case k__check_dead_ends => k_is)
    (case a_pool => k_is)
    (case l_pool => k_is)
    (case c_pool => k_is)
    (case k_pool => k_is)
    (case a_draw => k_is)
    (case l_draw => k_is)
    (case c_draw => k_is)
    (case k_draw => k_is)
    (case a_owners => k_is)
    (case l_owners => k_is)
    (case c_owners => k_is)
    (case k_owners => k_is)
    (case a_number => k_is)
    (case l_number => k_is)
    (case c_number => k_is)
    (case k_number => k_is)
    (case a_same => k_is)
    (case l_same => k_is)
    (case c_same => k_is)
    (case k_same => k_is)
    (case a_ring_edges => k_is)
    (case l_ring_edges => k_is)
    (case c_ring_edges => k_is)
    (case k_ring_edges => k_is)
    (case a_any_edges => k_is)
    (case l_any_edges => k_is)
    (case c_any_edges => k_is)
    (case k_any_edges => k_is)
    (case a_good_plan => k_is)
    (case l_good_plan => k_is)
    (case c_good_plan => k_is)
    (case k_good_plan => k_is)
    (case a_spoilt_plan => k_is)
    (case l_spoilt_plan => k_is)
    (case c_spoilt_plan => k_is)
    (case k_spoilt_plan => k_is)
    (case a_strange_plan => k_is)
    (case l_strange_plan => k_is)
    (case c_strange_plan => k_is)
    (case k_strange_plan => k_is)
    (case a_wrong_entry => k_is)
    (case l_wrong_entry => k_is)
    (case c_wrong_entry => k_is)
    (case k_wrong_entry => k_is)
    (case a_line => k_is)
    (case l_line => k_is)
    (case c_line => k_is)
    (case k_line => k_is)
    (case a_walked => k_is)
    (case l_walked => k_is)
    (case c_walked => k_is)
    (case k_walked => k_is)
    (case a_refusal => k_is)
    (case l_refusal => k_is)
    (case c_refusal => k_is)
    (case k_refusal => k_is)
    (case a_played => k_is)
    (case l_played => k_is)
    (case c_played => k_is)
    (case k_played => k_is)
    (case a_law => k_is)
    (case l_law => k_is)
    (case c_law => k_is)
    (case k_law => k_is)
    (case aC_Web => k_is)
    (case pg_Web => k_is)
    (case hd_Web => k_is)
    (case po_Web => k_is)
    (case sa_Web => k_is)
    (case na_Web_height => k_is)
    (case na_Web_size => k_is)
    (case na_Web_edges => k_is)
    (case mk_Web => k_is)
    (case kc_Web => k_is)
    (case a_W_init => k_is)
    (case i_W_init => k_is)
    (case l_W_init => k_is)
    (case c_W_init => k_is)
    (case k_W_init => k_is)
    (case a_W_out => k_is)
    (case i_W_out => k_is)
    (case l_W_out => k_is)
    (case c_W_out => k_is)
    (case k_W_out => k_is)
    (case cr_Web_MOST_NODES => k_is)
    (case cg_Web_MOST_NODES => k_is)
    (case cf_Web_MOST_NODES => k_is)
    (case cx_Web_MOST_NODES => exact ⟨_, rfl⟩)
    (case cr_Web_MOST_EDGES => k_is)
    (case cg_Web_MOST_EDGES => k_is)
    (case cf_Web_MOST_EDGES => k_is)
    (case cx_Web_MOST_EDGES => exact ⟨_, rfl⟩)
    (case aC_Game => k_is)
    (case pg_Game => k_is)
    (case hd_Game => k_is)
    (case po_Game => k_is)
    (case sa_Game => k_is)
    (case na_Game_height => k_is)
    (case na_Game_size => k_is)
    (case na_Game_edges => k_is)
    (case na_Game_owners => k_is)
    (case mk_Game => k_is)
    (case kc_Game => k_is)
    (case a_G_init => k_is)
    (case i_G_init => k_is)
    (case l_G_init => k_is)
    (case c_G_init => k_is)
    (case k_G_init => k_is)
    (case h_G_init => k_is)
    (case v_G_init => rfl)
    (case p_G_init => first | rfl | decide +kernel)
    (case e_G_init => k_is)
    (case icl_Game => k_is)
    (case a_G_out => k_is)
    (case i_G_out => k_is)
    (case l_G_out => k_is)
    (case c_G_out => k_is)
    (case k_G_out => k_is)
    (case h_G_out => k_is)
    (case v_G_out => rfl)
    (case p_G_out => first | rfl | decide +kernel)
    (case e_G_out => k_is)
    (case sm_Game_init => first | ks_is | kernel_rfl)
    (case st_Game_init => k_is)
    (case sn_Game_init => k_is)
    (case smr_Game => first | k_is | kernel_rfl)
    (case sm_Game_out => first | ks_is | kernel_rfl)
    (case st_Game_out => k_is)
    (case sn_Game_out => k_is)
    (case aN_NoSuchNode => k_is)
    (case x_NoSuchNode => k_is)
    (case r_NoSuchNode => first | rfl | decide +kernel)
    (case sa_NoSuchNode => k_is)
    (case xb_NoSuchNode => k_is)
    (case tc_NoSuchNode => k_is)
    (case kc_NoSuchNode => k_is)
    (case ga_NoSuchNode => k_is)
    (case gg_NoSuchNode => k_is)
    (case ac_NoSuchNode => k_is)
    (case mo_NoSuchNode => k_is)
    (case hd_NoSuchNode => k_is)
    (case ic_NoSuchNode => k_is)
    (case no_NoSuchNode => k_is)
    (case sv_NoSuchNode => k_is)
    (case mr_NoSuchNode => first | k_is | kernel_rfl)
    (case sm_NoSuchNode => first | ks_is | kernel_rfl)
    (case a_NoSuchNode_init => k_is)
    (case t_NoSuchNode_init => k_is)
    (case l_NoSuchNode_init => k_is)
    (case c_NoSuchNode_init => k_is)
    (case h_NoSuchNode_init => k_is)
    (case v_NoSuchNode_init => rfl)
    (case p_NoSuchNode_init => first | rfl | decide +kernel)
    (case e_NoSuchNode_init => k_is)
    (case aN_BadPlan => k_is)
    (case x_BadPlan => k_is)
    (case r_BadPlan => first | rfl | decide +kernel)
    (case sa_BadPlan => k_is)
    (case xb_BadPlan => k_is)
    (case tc_BadPlan => k_is)
    (case kc_BadPlan => k_is)
    (case ga_BadPlan => k_is)
    (case gg_BadPlan => k_is)
    (case ac_BadPlan => k_is)
    (case mo_BadPlan => k_is)
    (case hd_BadPlan => k_is)
    (case ic_BadPlan => k_is)
    (case no_BadPlan => k_is)
    (case sv_BadPlan => k_is)
    (case mr_BadPlan => first | k_is | kernel_rfl)
    (case sm_BadPlan => first | ks_is | kernel_rfl)
    (case a_BadPlan_init => k_is)
    (case t_BadPlan_init => k_is)
    (case l_BadPlan_init => k_is)
    (case c_BadPlan_init => k_is)
    (case h_BadPlan_init => k_is)
    (case v_BadPlan_init => rfl)
    (case p_BadPlan_init => first | rfl | decide +kernel)
    (case e_BadPlan_init => k_is)
    (case aN_OutOfRange => k_is)
    (case aN_LadderreachError => k_is)
    (case aN_GameError => k_is)
    (case aN_BadPlacement => k_is)
    (case aN_Misfit => k_is)
    (case kit_NoSuchNode_OutOfRange => first | k_is | kernel_rfl)
    (case kit_NoSuchNode_LadderreachError => first | k_is | kernel_rfl)
    (case kit_NoSuchNode_ValueError => first | k_is | kernel_rfl)
    (case kit_NoSuchNode_GameError => first | k_is | kernel_rfl)
    (case kit_BadPlan_OutOfRange => first | k_is | kernel_rfl)
    (case kit_BadPlan_LadderreachError => first | k_is | kernel_rfl)
    (case kit_BadPlan_ValueError => first | k_is | kernel_rfl)
    (case kit_BadPlan_GameError => first | k_is | kernel_rfl)
    (case kit_BadPlan_BadPlacement => first | k_is | kernel_rfl)
    (case kit_BadPlan_Misfit => first | k_is | kernel_rfl)
    (case exm_NoSuchNode_NoSuchNode => first | k_is | kernel_rfl)
    (case exm_BadPlan_NoSuchNode => first | k_is | kernel_rfl)
    (case exm_BadPlan_BadPlan => first | k_is | kernel_rfl)

