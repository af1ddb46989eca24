import PyProof.Rows.All
import Wide.All
import OpenK.AllK
import Wide.FinOn
import HandS.ForMost
import HandS.IsInst
import HandS.Conv
import HandS.ClsMeth
import HandS.TupAny
import HandS.Walk
import HandS.RevRange
import KE.KExcSuper
import HandS.ForExc
import HandS.ExcInit
import HandS.ExcIs
import HandS.ExcField
import HandS.TryMany
import HandS.FStr
import HandS.ExcSuper
import KE.KExcIs
import KE.GoesEnum
import KE.GoesMore
import KE.DataMinMax
import HandS.SortKw
import HandS.OwnIter
import HandS.IterVal
import HandS.TryOnly
import HandS.SlotsOwn
import HandS.RaiseMore
import HandS.Style
import PySem.Challenge.RW_ladderreach_k20_pieces_flipped_and_joine
set_option Elab.async false
set_option maxRecDepth 100000
set_option linter.all false
set_option maxHeartbeats 4000000
namespace LR
open PySem PySem.Spec PyProof.Rows L2
/-! ## defs, methods, classes that keep a promise -/
structure Cal (P : Program) (w : World) (K : PySem.W.Frag) (mg : Str → Option Value) (base : Heap) (k : Nat) (x : Str) (sp : Sp) : Prop where
  ex : ∃ (f : Addr) (fd : FuncData) (ps : List Str), FnOk P w K mg base CX0 k f fd ps sp ∧ mg x = some (.ref f) ∧ PySem.W.keepIn K (.ref f) = true ∧ Binds K fd ps []
structure Met (P : Program) (w : World) (K : PySem.W.Frag) (mg : Str → Option Value) (base : Heap) (k : Nat) (C : Addr) (m : Str) (sp : Sp) : Prop where
  ex : ∃ (f : Addr) (fd : FuncData) (ps : List Str), Cls K C ∧ Meth K C m f ∧ FnOk P w K mg base CX0 k f fd ps sp ∧ Binds K fd ps []
structure Mak (P : Program) (w : World) (K : PySem.W.Frag) (mg : Str → Option Value) (base : Heap) (k : Nat) (x : Str) (C : Addr) (sp : Sp) : Prop where
  ex : ∃ (f : Addr) (fd : FuncData) (ps : List Str), Mk K C f ∧ FnOk P w K mg base CX0 k f fd ps sp ∧ mg x = some (.ref C) ∧ Binds K fd ps []
section
variable {X : Cx} {k j : Nat} {C : Addr} {x m : Str} {sp : Sp} {p pos apos : Pos} {e o : Expr} {es : List Expr} {ta : TE} {t : TA}
theorem pe_c (c : Cal X.prog X.w X.K X.mg X.base k x sp) (hr : Room j X.A) (hk : k ≤ j) (hg : Gl X x) (ha : PA X (e :: es) t)
    (hdb : (x == ("__debug__" : Str)) = false := by decide) (he : starEach (e :: es) X.env = (false, eval e X.env) :: starEach es X.env := by rfl) (hpl : (backTo pos (starEach es X.env)).any (·.1) = false := by rfl) :
    PE X (.Call (.Name x p) (e :: es) [] pos) (tCall sp [] E0 t) := by
  obtain ⟨f, fd, ps, F, hm, kp, b⟩ := c.ex
  exact pe_call F (hr.mono hk) hg hm kp b .nil pass0 ha hdb he hpl
theorem pe_mk (c : Mak X.prog X.w X.K X.mg X.base k x C sp) (hr : Room j X.A) (hk : k + 1 ≤ j) (hg : Gl X x) (ha : PA X (e :: es) t)
    (hdb : (x == ("__debug__" : Str)) = false := by decide) (he : starEach (e :: es) X.env = (false, eval e X.env) :: starEach es X.env := by rfl) (hpl : (backTo pos (starEach es X.env)).any (·.1) = false := by rfl) :
    PE X (.Call (.Name x p) (e :: es) [] pos) (tMake C sp [] E0 t) := by
  obtain ⟨f, fd, ps, M, F, hm, b⟩ := c.ex
  exact pe_make M F (hr.mono hk) hg hm b .nil pass0 ha hdb he hpl
theorem pe_mt {pl : Sem Bool} (c : Met X.prog X.w X.K X.mg X.base k C m sp) (hr : Room j X.A) (hk : k ≤ j) (he : PE X o ta) (ha : PA X (e :: es) t)
    (hst : starEach (e :: es) X.env = (false, eval e X.env) :: starEach es X.env := by rfl) (hpl : (backTo pos (starEach es X.env)).any (·.1) = false := by rfl)
    (ht : eval (.Call (.Attribute o m apos) (e :: es) [] pos) X.env = (do
      let ov ← eval o X.env
      standAt apos.atName
      let (f, first) ← holding [ov] (getMethod ov m pl)
      callWith pos f first (backTo pos (starEach (e :: es) X.env)) (backToKw pos (keywordEach [] X.env))) := by rfl) :
    PE X (.Call (.Attribute o m apos) (e :: es) [] pos) (tMeth C m sp [] E0 ta t) := by
  obtain ⟨f, fd, ps, hc, hm, F, b⟩ := c.ex
  exact pe_meth (pl := pl) he hc hm F (hr.mono hk) b .nil pass0 ha hst hpl ht
theorem pe_mt0 {pl : Sem Bool} (c : Met X.prog X.w X.K X.mg X.base k C m sp) (hr : Room j X.A) (hk : k ≤ j) (he : PE X o ta)
    (ht : eval (.Call (.Attribute o m apos) [] [] pos) X.env = (do
      let ov ← eval o X.env
      standAt apos.atName
      let (f, first) ← holding [ov] (getMethod ov m pl)
      callWith pos f first (backTo pos (starEach [] X.env)) (backToKw pos (keywordEach [] X.env))) := by rfl) :
    PE X (.Call (.Attribute o m apos) [] [] pos) (tMeth C m sp [] E0 ta tNil) := by
  obtain ⟨f, fd, ps, hc, hm, F, b⟩ := c.ex
  exact pe_meth0 (pl := pl) he hc hm F (hr.mono hk) b .nil pass0 ht
end
structure DefIn (K : PySem.W.Frag) (mg : Str → Option Value) (x : Str) (st : Stmt) (ps : List Str) : Prop where
  ex : ∃ (f : Addr) (fd : FuncData), Fun K x x st f fd ∧ mg x = some (.ref f) ∧ Binds K fd ps []
structure MetIn (K : PySem.W.Frag) (C : Addr) (m qual : Str) (st : Stmt) (ps : List Str) : Prop where
  ex : ∃ (f : Addr) (fd : FuncData), Fun K m qual st f fd ∧ Meth K C m f ∧ Binds K fd ps []
structure MakIn (K : PySem.W.Frag) (mg : Str → Option Value) (x : Str) (C : Addr) (qual : Str) (st : Stmt) (ps : List Str) : Prop where
  ex : ∃ (f : Addr) (fd : FuncData), Fun K "__init__" qual st f fd ∧ Mk K C f ∧ mg x = some (.ref C) ∧ Binds K fd ps []
section
variable {P : Program} {w : World} {K : PySem.W.Frag} {mg : Str → Option Value} {base : Heap}
theorem DefIn.cal {x : Str} {st : Stmt} {N ps : List Str} {k : Nat} {sp : Sp} (D : DefIn K mg x st ps) (S : FnScope N ps (defScope st)) (len : ∀ vs H Q E, sp vs H Q E → vs.length = ps.length)
    (hbody : ∀ (f : Addr) (cdv : Value) (A : Around) (outer : List Env) (s : Shared) (H : Hp) (vs : List V) (Q : VK) (E : XK), Room k (A.deeper (envOfC x (defScope st) s.heap.objs.size f cdv)) → sp vs H Q E →
      ∃ t, PSs (cxOf CX0 P w K mg base N x (defScope st) f cdv A outer s H E).nox (defBody st) t ∧ t { nx := fun _ H' => Q .non H', rt := Q } (start N vs) H) : Cal P w K mg base (k + 1) x sp := by
  obtain ⟨f, fd, F, hm, b⟩ := D.ex
  exact ⟨f, fd, ps, F.ok S len (hbody f), hm, F.kp, b⟩
theorem MetIn.met {C : Addr} {m qual : Str} {st : Stmt} {N ps : List Str} {k : Nat} {sp : Sp} (c : Cls K C) (D : MetIn K C m qual st ps) (S : FnScope N ps (defScope st)) (len : ∀ vs H Q E, sp vs H Q E → vs.length = ps.length)
    (hbody : ∀ (f : Addr) (cdv : Value) (A : Around) (outer : List Env) (s : Shared) (H : Hp) (vs : List V) (Q : VK) (E : XK), Room k (A.deeper (envOfC qual (defScope st) s.heap.objs.size f cdv)) → sp vs H Q E →
      ∃ t, PSs (cxOf CX0 P w K mg base N qual (defScope st) f cdv A outer s H E).nox (defBody st) t ∧ t { nx := fun _ H' => Q .non H', rt := Q } (start N vs) H) : Met P w K mg base (k + 1) C m sp := by
  obtain ⟨f, fd, F, hm, b⟩ := D.ex
  exact ⟨f, fd, ps, c, hm, F.ok S len (hbody f), b⟩
theorem MakIn.mak {C : Addr} {x qual : Str} {st : Stmt} {N ps : List Str} {k : Nat} {sp : Sp} (D : MakIn K mg x C qual st ps) (S : FnScope N ps (defScope st)) (len : ∀ vs H Q E, sp vs H Q E → vs.length = ps.length)
    (hbody : ∀ (f : Addr) (cdv : Value) (A : Around) (outer : List Env) (s : Shared) (H : Hp) (vs : List V) (Q : VK) (E : XK), Room k (A.deeper (envOfC qual (defScope st) s.heap.objs.size f cdv)) → sp vs H Q E →
      ∃ t, PSs (cxOf CX0 P w K mg base N qual (defScope st) f cdv A outer s H E).nox (defBody st) t ∧ t { nx := fun _ H' => Q .non H', rt := Q } (start N vs) H) : Mak P w K mg base (k + 1) x C sp := by
  obtain ⟨f, fd, F, M, hm, b⟩ := D.ex
  exact ⟨f, fd, ps, M, F.ok S len (hbody f), hm, b⟩
end
theorem Cal.mono {P w K mg base j k x sp} (c : Cal P w K mg base j x sp) (h : j ≤ k) : Cal P w K mg base k x sp := by
  obtain ⟨f, fd, ps, F, r⟩ := c.ex
  exact ⟨f, fd, ps, F.mono h, r⟩
theorem Cal.imp {P w K mg base k x sp sp'} (c : Cal P w K mg base k x sp) (h : ∀ vs H Q E, sp' vs H Q E → sp vs H Q E) : Cal P w K mg base k x sp' := by
  obtain ⟨f, fd, ps, F, r⟩ := c.ex
  exact ⟨f, fd, ps, F.imp h, r⟩
/-! ## what the built-in names stand for -/
theorem b_len : bootBuiltins "len" = some (.builtin "len") := by decide +kernel
theorem b_abs : bootBuiltins "abs" = some (.builtin "abs") := by decide +kernel
theorem b_max : bootBuiltins "max" = some (.builtin "max") := by decide +kernel
theorem b_min : bootBuiltins "min" = some (.builtin "min") := by decide +kernel
theorem b_isinstance : bootBuiltins "isinstance" = some (.builtin "isinstance") := by decide +kernel
theorem b_int : bootBuiltins "int" = some (.type "int") := by decide +kernel
theorem b_bool : bootBuiltins "bool" = some (.type "bool") := by decide +kernel
theorem b_str : bootBuiltins "str" = some (.type "str") := by decide +kernel
theorem b_list : bootBuiltins "list" = some (.type "list") := by decide +kernel
theorem b_tuple : bootBuiltins "tuple" = some (.type "tuple") := by decide +kernel
/-! ## heaps -/
/-- all that was tracked stands, but for what is at p -/
def Keep (p : Addr) (H H' : Hp) : Prop := ∀ b, b ≠ p → ∀ o, H b = some o → H' b = some o
theorem Keep.refl {p H} : Keep p H H := fun _ _ _ h => h
theorem Keep.trans {p H H1 H2} (a : Keep p H H1) (b : Keep p H1 H2) : Keep p H H2 := fun c n o h => b c n o (a c n o h)
theorem Keep.upd {p H H' o} (a : Keep p H H') : Keep p H (upd H' p o) := fun c n u h => by rw [upd_ne n]; exact a c n u h
theorem Keep.new {p H H' q o} (a : Keep p H H') (h : H' q = none) : Keep p H (L2.upd H' q o) := fun c n u h1 => by
  rw [upd_ne (ne_of_none (a c n u h1) h)]; exact a c n u h1
theorem Keep.same {p H H' H2} (a : Keep p H H') (b : Same H' H2) : Keep p H H2 := fun c n o h => b c o (a c n o h)
theorem _root_.L2.Same.keep {p H H'} (a : Same H H') : Keep p H H' := fun c _ o h => a c o h
theorem same_new {H q o} (h : H q = none) : Same H (upd H q o) := fun c u h1 => by rw [upd_ne (ne_of_none h1 h)]; exact h1
theorem _root_.L2.Same.new {H H' q o} (a : Same H H') (h : H' q = none) : Same H (upd H' q o) := a.trans (same_new h)
theorem Keep.seq {p a : Addr} {K H H' xs} (k : Keep p H H') (h : SqL K H a xs) (n : a ≠ p) : SqL K H' a xs := by
  rcases h with (h | ⟨o, h⟩) | h
  · exact .inl (.inl (k _ n _ h))
  · exact .inl (.inr ⟨o, k _ n _ h⟩)
  · exact .inr h
theorem Keep.seqT {p a : Addr} {K H H' xs} (k : Keep p H H') (h : SqT K H a xs) (n : a ≠ p) : SqT K H' a xs := by
  rcases h with (h | ⟨o, h⟩) | h
  · exact .inl (.inl (k _ n _ h))
  · exact .inl (.inr ⟨o, k _ n _ h⟩)
  · exact .inr h
theorem _root_.L2.Same.seqT {K H H' a xs} (e : Same H H') (h : SqT K H a xs) : SqT K H' a xs := by
  rcases h with (h | ⟨o, h⟩) | h
  · exact .inl (.inl (e _ _ h))
  · exact .inl (.inr ⟨o, e _ _ h⟩)
  · exact .inr h
/-- a pool of the law: a list of four ints -/
def IsPool (H : Hp) (p : Addr) : Prop := ∃ a b c d : Int, H p = some (.lst [.int a, .int b, .int c, .int d])
theorem IsPool.ne {H p b o} (h : IsPool H p) (hb : H b = some o) (ho : ∀ l, o ≠ .lst l) : b ≠ p := by
  obtain ⟨_, _, _, _, h⟩ := h
  exact ne_of hb h (ho _)
theorem IsPool.same {H H' p} (s : Same H H') (h : IsPool H p) : IsPool H' p := by
  obtain ⟨a, b, c, d, h⟩ := h; exact ⟨a, b, c, d, s _ _ h⟩
theorem IsPool.upd {H p a b c d} : IsPool (upd H p (.lst [.int a, .int b, .int c, .int d])) p := ⟨a, b, c, d, upd_same⟩
theorem Keep.free {p q H H'} (k : Keep p H H') (n : q ≠ p) (h : H' q = none) : H q = none := by
  cases e : H q with
  | none => rfl
  | some o => rw [k q n o e] at h; cases h
theorem IsPool.some {H p} (h : IsPool H p) : ∃ l, H p = some (.lst l) := by
  obtain ⟨_, _, _, _, h⟩ := h; exact ⟨_, h⟩
theorem IsPool.free {H p q} (h : IsPool H p) (hq : H q = none) : q ≠ p := by
  obtain ⟨_, _, _, _, h⟩ := h
  exact (ne_of_none h hq).symm
def spLaw (K : PySem.W.Frag) : Sp := fun vs H Q _ => ∃ (a : Addr) (ns : List Int), vs = [.ref a] ∧ SqL K H a (ns.map V.int) ∧ ∀ H', Q (.bl true) H'
theorem seq_after {K : PySem.W.Frag} {H H' : Hp} {a p : Addr} {xs : List V} (h : SqL K H a xs) (hp : H p = none) (k : Keep p H H') : SqL K H' a xs := by
  rcases h with (h | ⟨o, h⟩) | h
  · exact .inl (.inl (k _ (ne_of_none h hp) _ h))
  · exact .inl (.inr ⟨o, k _ (ne_of_none h hp) _ h⟩)
  · exact .inr h
theorem map_get {ls : List Int} {i : Nat} {x : V} (h : (ls.map V.int)[i]? = some x) : ∃ l, ls[i]? = some l ∧ x = .int l := by
  rw [List.getElem?_map] at h
  obtain ⟨l, el, e⟩ := Option.map_eq_some_iff.mp h
  exact ⟨l, el, e.symm⟩
theorem get_map {ls : List Int} {i : Nat} {l : Int} (h : ls[i]? = some l) : (ls.map V.int)[i]? = some (.int l) := by
  rw [List.getElem?_map, h]; rfl
/-- a statement, then the rest, with a word between them -/
def tCut (t u : TS) : TS := fun D σ H => ∃ Mid : L2.St → Hp → Prop, t { D with nx := Mid } σ H ∧ ∀ σ' H', Mid σ' H' → u D σ' H'
theorem pss_cut {X : Cx} {st : Stmt} {rest : List Stmt} {t u : TS} (h1 : PS X st t) (h2 : PSs X rest u) : PSs X (st :: rest) (tCut t u) := by
  refine ⟨fun pins s σ H D I h => ?_⟩
  obtain ⟨Mid, hm, hu⟩ := h
  refine wpAny_execs_cons (thn (h1.run pins s σ H { D with nx := Mid } I hm) fun f s1 q => ?_)
  cases f with
  | next =>
    obtain ⟨σ', H', I', q⟩ := q
    exact h2.run pins s1 σ' H' D I' (hu σ' H' q)
  | ret v => exact q
  | brk => exact q
  | cont => exact q
theorem lc_yes {Q : Bool → Hp → Prop} {σ : L2.St} {H : Hp} (h : Q true H) : tYes σ H Q := h
theorem ite_b {c : Bool} {A B : Prop} (h1 : c = true → A) (h2 : c = false → B) : if c = true then A else B := by
  cases c with
  | true => exact h1 rfl
  | false => exact iteF (h2 rfl)
end LR

set_option Elab.async false
set_option maxRecDepth 100000
set_option linter.all false
set_option maxHeartbeats 4000000
namespace LR
open PySem PySem.Spec PyProof.Rows L2
/-! ## data of the law, as they lie in the heap -/
inductive Dt where
  | non | bl (b : Bool) | int (i : Int) | str (x : Str) | lst (l : List Dt) | tup (l : List Dt)
mutual
inductive At (H : Hp) : V → Dt → Prop
  | non : At H .non .non
  | bl (b : Bool) : At H (.bl b) (.bl b)
  | int (i : Int) : At H (.int i) (.int i)
  | str (x : Str) : At H (.str x) (.str x)
  | lst {p : Addr} {xs : List V} {ds : List Dt} (h : H p = some (.lst xs)) (a : Ats H xs ds) (z : xs.length ≤ 100000) : At H (.ref p) (.lst ds)
  | tup {p : Addr} {xs : List V} {ds : List Dt} (h : H p = some (.tup xs)) (a : Ats H xs ds) (z : xs.length ≤ 100000) : At H (.ref p) (.tup ds)
inductive Ats (H : Hp) : List V → List Dt → Prop
  | nil : Ats H [] []
  | cons {x : V} {d : Dt} {xs : List V} {ds : List Dt} (h : At H x d) (t : Ats H xs ds) : Ats H (x :: xs) (d :: ds)
end
mutual
def dep : Dt → Nat
  | .lst l => deps l + 1
  | .tup l => deps l + 1
  | _ => 0
def deps : List Dt → Nat
  | [] => 0
  | d :: r => max (dep d) (deps r)
end
theorem deps_mem {d : Dt} : ∀ {l : List Dt}, d ∈ l → dep d ≤ deps l
  | e :: r, h => by
    rw [deps]
    rcases List.mem_cons.mp h with rfl | h
    · exact Nat.le_max_left _ _
    · exact Nat.le_trans (deps_mem h) (Nat.le_max_right _ _)
theorem deps_ints : ∀ l : List Int, deps (l.map Dt.int) = 0
  | [] => rfl
  | i :: r => by rw [List.map_cons, deps, deps_ints r]; rfl
theorem Ats.length {H : Hp} {xs ds} (h : Ats H xs ds) : xs.length = ds.length := by
  revert ds; induction xs with
  | nil => intro ds h; cases h; rfl
  | cons x xs ih => intro ds h; cases h with | cons a t => rw [List.length_cons, List.length_cons, ih t]
theorem Ats.get {H : Hp} : ∀ {xs ds} (h : Ats H xs ds) {i : Nat} {x : V}, xs[i]? = some x → ∃ d, ds[i]? = some d ∧ At H x d := by
  intro xs; induction xs with
  | nil => intro ds h i x e; simp at e
  | cons y xs ih => 
    intro ds h i x e
    cases h with
    | cons a t =>
      cases i with
      | zero => exact ⟨_, rfl, by simp at e; subst e; exact a⟩
      | succ i => exact ih t (by simpa using e)
theorem Ats.getD {H : Hp} {xs ds} (h : Ats H xs ds) {i : Nat} {d : Dt} (e : ds[i]? = some d) : ∃ x, xs[i]? = some x ∧ At H x d := by
  have hl := h.length
  have hi : i < xs.length := by rw [hl]; exact (List.getElem?_eq_some_iff.mp e).1
  obtain ⟨d', e', a⟩ := h.get (List.getElem?_eq_getElem hi)
  rw [e] at e'; cases e'
  exact ⟨_, List.getElem?_eq_getElem hi, a⟩
theorem ats_ints (H : Hp) : ∀ l : List Int, Ats H (l.map V.int) (l.map Dt.int)
  | [] => .nil
  | i :: r => .cons (.int i) (ats_ints H r)
mutual
theorem At.same {H H' : Hp} (s : Same H H') : ∀ {x d}, At H x d → At H' x d
  | _, _, .non => .non
  | _, _, .bl b => .bl b
  | _, _, .int i => .int i
  | _, _, .str x => .str x
  | _, _, .lst h a z => .lst (s _ _ h) (a.same s) z
  | _, _, .tup h a z => .tup (s _ _ h) (a.same s) z
theorem Ats.same {H H' : Hp} (s : Same H H') : ∀ {xs ds}, Ats H xs ds → Ats H' xs ds
  | _, _, .nil => .nil
  | _, _, .cons h t => .cons (h.same s) (t.same s)
end
theorem ats_ints_eq {l m : List Int} (h : l.map Dt.int = m.map Dt.int) : l = m := by
  induction l generalizing m with
  | nil => cases m with
    | nil => rfl
    | cons => simp at h
  | cons x l ih => cases m with
    | nil => simp at h
    | cons y m => 
      simp only [List.map_cons, List.cons.injEq, Dt.int.injEq] at h
      rw [h.1, ih h.2]
def ty : Dt → String
  | .non => "NoneType" | .bl _ => "bool" | .int _ => "int" | .str _ => "str" | .lst _ => "list" | .tup _ => "tuple"
def isL : Dt → Bool | .lst _ => true | _ => false
def isU : Dt → Bool | .tup _ => true | _ => false
def isB : Dt → Bool | .bl _ => true | _ => false
def isI : Dt → Bool | .int _ => true | .bl _ => true | _ => false
def isN : Dt → Bool | .int _ => true | _ => false
def isS : Dt → Bool | .str _ => true | _ => false
theorem At.tyX {K H x d} (h : At H x d) : TyX K H x (.type (ty d)) := by
  cases h with
  | non => exact .base .non
  | bl b => exact .base (.bl b)
  | int i => exact .base (.int i)
  | str x => exact .base (.str x)
  | lst h _ _ => exact .base (.lst h)
  | tup h _ _ => exact .base (.tup h)
theorem kitL (d : Dt) : kitB (ty d) "list" = some (isL d) := by
  cases d with
  | non => exact (by decide +kernel : kitB "NoneType" "list" = some false)
  | bl b => exact (by decide +kernel : kitB "bool" "list" = some false)
  | int i => exact (by decide +kernel : kitB "int" "list" = some false)
  | str x => exact (by decide +kernel : kitB "str" "list" = some false)
  | lst l => exact (by decide +kernel : kitB "list" "list" = some true)
  | tup l => exact (by decide +kernel : kitB "tuple" "list" = some false)

theorem kitU (d : Dt) : kitB (ty d) "tuple" = some (isU d) := by
  cases d with
  | non => exact (by decide +kernel : kitB "NoneType" "tuple" = some false)
  | bl b => exact (by decide +kernel : kitB "bool" "tuple" = some false)
  | int i => exact (by decide +kernel : kitB "int" "tuple" = some false)
  | str x => exact (by decide +kernel : kitB "str" "tuple" = some false)
  | lst l => exact (by decide +kernel : kitB "list" "tuple" = some false)
  | tup l => exact (by decide +kernel : kitB "tuple" "tuple" = some true)

theorem kitBo (d : Dt) : kitB (ty d) "bool" = some (isB d) := by
  cases d with
  | non => exact (by decide +kernel : kitB "NoneType" "bool" = some false)
  | bl b => exact (by decide +kernel : kitB "bool" "bool" = some true)
  | int i => exact (by decide +kernel : kitB "int" "bool" = some false)
  | str x => exact (by decide +kernel : kitB "str" "bool" = some false)
  | lst l => exact (by decide +kernel : kitB "list" "bool" = some false)
  | tup l => exact (by decide +kernel : kitB "tuple" "bool" = some false)

theorem kitI (d : Dt) : kitB (ty d) "int" = some (isI d) := by
  cases d with
  | non => exact (by decide +kernel : kitB "NoneType" "int" = some false)
  | bl b => exact (by decide +kernel : kitB "bool" "int" = some true)
  | int i => exact (by decide +kernel : kitB "int" "int" = some true)
  | str x => exact (by decide +kernel : kitB "str" "int" = some false)
  | lst l => exact (by decide +kernel : kitB "list" "int" = some false)
  | tup l => exact (by decide +kernel : kitB "tuple" "int" = some false)

theorem kitS (d : Dt) : kitB (ty d) "str" = some (isS d) := by
  cases d with
  | non => exact (by decide +kernel : kitB "NoneType" "str" = some false)
  | bl b => exact (by decide +kernel : kitB "bool" "str" = some false)
  | int i => exact (by decide +kernel : kitB "int" "str" = some false)
  | str x => exact (by decide +kernel : kitB "str" "str" = some true)
  | lst l => exact (by decide +kernel : kitB "list" "str" = some false)
  | tup l => exact (by decide +kernel : kitB "tuple" "str" = some false)

theorem isi {K H x d T b} {Q : VK} (a : At H x d) (hb : kitB (ty d) T = some b) (q : Q (.bl b) H) : rIsi K [x, .ty T] H Q := ⟨x, .ty T, _, _, b, rfl, .ty T, a.tyX, kit_ty hb, q⟩
end LR

set_option Elab.async false
set_option maxRecDepth 100000
set_option linter.all false
set_option maxHeartbeats 4000000
namespace LR
open PySem PySem.Spec PyProof.Rows L2
/-! ## the mathematics of a ladder -/
def cnt (lv : Int) (l : List Int) : Int := ((l.filter (fun x => decide (lv ≤ x))).length : Int)
/-- levels of at least lv below step i -/
def cn (ls : List Int) (lv : Int) (i : Nat) : Int := cnt lv (ls.take i)
def cnL (ls : List Int) (lv : Int) (n : Nat) : List V := (List.range n).map fun i => V.int (cn ls lv i)
theorem cnL_get {ls lv n i} (h : i < n) : (cnL ls lv n)[i]? = some (V.int (cn ls lv i)) := by
  unfold cnL; rw [List.getElem?_map, List.getElem?_range h]; rfl
theorem cnL_length {ls lv n} : (cnL ls lv n).length = n := by unfold cnL; rw [List.length_map, List.length_range]
theorem cnL_succ {ls lv n} : cnL ls lv (n + 1) = cnL ls lv n ++ [V.int (cn ls lv n)] := by
  unfold cnL; rw [List.range_succ, List.map_append]; rfl
theorem cn_succ {ls : List Int} {lv : Int} {i : Nat} {z : Int} (h : ls[i]? = some z) : cn ls lv (i + 1) = cn ls lv i + (if lv ≤ z then 1 else 0) := by
  unfold cn cnt
  rw [List.take_succ, h, List.filter_append, List.length_append]
  simp only [Option.toList]
  by_cases c : lv ≤ z
  · simp [c]
  · simp [c]
def lfs (h : Int) (tl : Addr) (n : Int) (tc : Addr) : List (Str × V) := [("height", .int h), ("levels", .ref tl), ("top", .int n), ("_counts", .ref tc)]
/-- what lies in the heap of the tuple of counts -/
def Counts (H : Hp) (ls : List Int) (tc : Addr) (h : Int) : Prop := ∃ cs : List Addr, H tc = some (.tup (cs.map V.ref)) ∧ cs.length = (h + 1).toNat ∧ ∀ (j : Nat) (a : Addr), cs[j]? = some a → H a = some (.tup (cnL ls (j + 1) (ls.length + 1)))
/-- a ladder of height h and row ls stands at x -/
def LadderAt (C : Addr) (H : Hp) (x : Addr) (h : Int) (ls : List Int) : Prop := ∃ dx tl tc, H x = some (.ins C dx (lfs h tl ls.length tc)) ∧ H tl = some (.tup (ls.map V.int)) ∧ Counts H ls tc h
theorem LadderAt.same {C H H' x h ls} (s : Same H H') (a : LadderAt C H x h ls) : LadderAt C H' x h ls := by
  obtain ⟨dx, tl, tc, h1, h2, cs, h3, h4, h5⟩ := a
  exact ⟨dx, tl, tc, s _ _ h1, s _ _ h2, cs, s _ _ h3, h4, fun j a e => s _ _ (h5 j a e)⟩
theorem LadderAt.keep {C H H' x h ls p} (s : Keep p H H') (hp : ∃ l, H p = some (.lst l)) (a : LadderAt C H x h ls) : LadderAt C H' x h ls := by
  obtain ⟨l, hp⟩ := hp
  obtain ⟨dx, tl, tc, h1, h2, cs, h3, h4, h5⟩ := a
  have k : ∀ b o, H b = some o → (∀ l, o ≠ .lst l) → H' b = some o := fun b o e n => s _ (ne_of e hp (n _)) _ e
  exact ⟨dx, tl, tc, k _ _ h1 (fun l z => by cases z), k _ _ h2 (fun l z => by cases z), cs, k _ _ h3 (fun l z => by cases z), h4, fun j a e => k _ _ (h5 j a e) (fun l z => by cases z)⟩
/-- what the ladder answers: an edge of rank p from u to w -/
def alw (ls : List Int) (u p w : Int) : Bool := if p % 2 = 0 then decide (cn ls (p / 2 + 1) w.toNat ≤ cn ls (p / 2 + 1) u.toNat) else decide (cn ls (p / 2 + 1) w.toNat < cn ls (p / 2 + 1) u.toNat)
/-! ## the mathematics of allowed edges -/
theorem cn_le_succ (ls : List Int) (lv : Int) (i : Nat) : cn ls lv i ≤ cn ls lv (i + 1) := by
  cases h : ls[i]? with
  | none =>
    have hl : ls.length ≤ i := List.getElem?_eq_none_iff.mp h
    unfold cn
    rw [List.take_of_length_le hl, List.take_of_length_le (by omega)]
    exact Int.le_refl _
  | some z =>
    rw [cn_succ h]
    split <;> omega
theorem cn_mono (ls : List Int) (lv : Int) {i k : Nat} (h : i ≤ k) : cn ls lv i ≤ cn ls lv k := by
  induction h with
  | refl => exact Int.le_refl _
  | step _ ih => exact Int.le_trans ih (cn_le_succ _ _ _)
/-- equal counts: no level of at least lv between -/
theorem cn_eq (ls : List Int) (lv : Int) {i k : Nat} (h : i ≤ k) : cn ls lv k ≤ cn ls lv i ↔ ∀ (m : Nat) (z : Int), i ≤ m → m < k → ls[m]? = some z → z < lv := by
  induction h with
  | refl => exact ⟨fun _ m z a b => by omega, fun _ => Int.le_refl _⟩
  | @step k hk ih =>
    have m1 := cn_mono ls lv hk
    have m2 := cn_le_succ ls lv k
    show cn ls lv (k + 1) ≤ cn ls lv i ↔ ∀ (m : Nat) (z : Int), i ≤ m → m < k + 1 → ls[m]? = some z → z < lv
    constructor
    · intro c m z a b e
      by_cases q : m < k
      · exact ih.mp (by omega) m z a q e
      · have : m = k := by omega
        subst this
        have e2 := cn_succ (lv := lv) e
        by_cases q2 : lv ≤ z
        · rw [if_pos q2] at e2; omega
        · omega
    · intro c
      have c1 := ih.mpr fun m z a b e => c m z a (by omega) e
      cases e : ls[k]? with
      | none =>
        have hl : ls.length ≤ k := List.getElem?_eq_none_iff.mp e
        have : cn ls lv (k + 1) = cn ls lv k := by
          unfold cn
          rw [List.take_of_length_le hl, List.take_of_length_le (by omega)]
        omega
      | some z =>
        have e2 := cn_succ (lv := lv) e
        have := c k z hk (by omega) e
        rw [if_neg (by omega)] at e2
        omega
/-- what is allowed never leads above in a higher count -/
theorem alw_count {ls : List Int} {u p v lv : Int} (h : alw ls u p v = true) (hl : p / 2 + 1 ≤ lv) : cn ls lv v.toNat ≤ cn ls lv u.toNat := by
  by_cases c : v.toNat ≤ u.toNat
  · exact cn_mono _ _ c
  have c : u.toNat ≤ v.toNat := by omega
  unfold alw at h
  have hle : cn ls (p / 2 + 1) v.toNat ≤ cn ls (p / 2 + 1) u.toNat := by
    split at h
    · exact of_decide_eq_true h
    · have := of_decide_eq_true h; omega
  rw [cn_eq _ _ c] at hle ⊢
  intro m z a b e
  have := hle m z a b e
  omega
theorem alw_step {ls : List Int} {u p v : Int} : alw ls u p v = true ↔ (p % 2 = 0 → cn ls (p / 2 + 1) v.toNat ≤ cn ls (p / 2 + 1) u.toNat) ∧ (¬ p % 2 = 0 → cn ls (p / 2 + 1) v.toNat < cn ls (p / 2 + 1) u.toNat) := by
  unfold alw
  split
  · rename_i c; exact ⟨fun h => ⟨fun _ => of_decide_eq_true h, fun q => absurd c q⟩, fun h => decide_eq_true (h.1 c)⟩
  · rename_i c; exact ⟨fun h => ⟨fun q => absurd q c, fun _ => of_decide_eq_true h⟩, fun h => decide_eq_true (h.2 c)⟩
theorem alw_trans {ls : List Int} {u p v q w : Int} (h1 : alw ls u p v = true) (h2 : alw ls v q w = true) : alw ls u (max p q) w = true := by
  by_cases c : p ≤ q
  · rw [Int.max_eq_right c]
    have k := alw_count h1 (lv := q / 2 + 1) (by omega)
    rw [alw_step] at h2 ⊢
    exact ⟨fun e => Int.le_trans (h2.1 e) k, fun e => Int.lt_of_lt_of_le (h2.2 e) k⟩
  · rw [Int.max_eq_left (by omega)]
    have k := alw_count h2 (lv := p / 2 + 1) (by omega)
    rw [alw_step] at h1 ⊢
    exact ⟨fun e => Int.le_trans k (h1.1 e), fun e => Int.lt_of_le_of_lt k (h1.2 e)⟩
theorem alw_loop {ls : List Int} {u p : Int} (h : alw ls u p u = true) : p % 2 = 0 := by
  rw [alw_step] at h
  apply Classical.byContradiction
  intro c
  exact absurd (h.2 c) (Int.lt_irrefl _)
/-- g is the greatest level from place lo to hi, 0 if there is none -/
def IsGap (ls : List Int) (lo hi : Nat) (g : Int) : Prop := 0 ≤ g ∧ (∀ (m : Nat) (z : Int), lo ≤ m → m < hi → ls[m]? = some z → z ≤ g) ∧ (g = 0 ∨ ∃ m : Nat, lo ≤ m ∧ m < hi ∧ ls[m]? = some g)
theorem IsGap.le {ls : List Int} {lo hi : Nat} {g j : Int} (h : IsGap ls lo hi g) (hj : 0 ≤ j) : g ≤ j ↔ ∀ (m : Nat) (z : Int), lo ≤ m → m < hi → ls[m]? = some z → z < j + 1 := by
  constructor
  · intro c m z a b e
    have := h.2.1 m z a b e
    omega
  · intro c
    rcases h.2.2 with e | ⟨m, a, b, e⟩
    · omega
    · have := c m g a b e
      omega
/-- what the law says of an edge is what the ladder answers -/
theorem alw_gap {ls : List Int} {u p v g : Int} (hu : 0 ≤ u) (hv : 0 ≤ v) (hp : 0 ≤ p) (h : IsGap ls (min u.toNat v.toNat) (max u.toNat v.toNat) g) :
    alw ls u p v = if p % 2 = 0 then (decide (v ≤ u) || decide (2 * g ≤ p)) else (decide (v < u) && decide (p < 2 * g)) := by
  rw [Bool.eq_iff_iff, alw_step]
  by_cases c : v ≤ u
  · have e1 : min u.toNat v.toNat = v.toNat := by omega
    have e2 : max u.toNat v.toNat = u.toNat := by omega
    rw [e1, e2] at h
    have m1 := cn_mono ls (p / 2 + 1) (show v.toNat ≤ u.toNat by omega)
    have k := cn_eq ls (p / 2 + 1) (show v.toNat ≤ u.toNat by omega)
    rw [← h.le (by omega)] at k
    split
    · rename_i e
      simp only [decide_eq_true c, Bool.true_or]
      exact ⟨fun _ => trivial, fun _ => ⟨fun _ => m1, fun q => absurd e q⟩⟩
    · rename_i e
      rw [Bool.and_eq_true, decide_eq_true_eq, decide_eq_true_eq]
      constructor
      · intro q
        have q := q.2 e
        have hg : ¬ g ≤ p / 2 := fun z => by have := k.mpr z; omega
        refine ⟨?_, by omega⟩
        rcases Int.lt_or_eq_of_le c with z | z
        · exact z
        · subst z; omega
      · intro ⟨q1, q2⟩
        have hg : ¬ g ≤ p / 2 := by omega
        refine ⟨fun z => absurd z e, fun _ => ?_⟩
        have : ¬ cn ls (p / 2 + 1) u.toNat ≤ cn ls (p / 2 + 1) v.toNat := fun z => hg (k.mp z)
        omega
  · have e1 : min u.toNat v.toNat = u.toNat := by omega
    have e2 : max u.toNat v.toNat = v.toNat := by omega
    rw [e1, e2] at h
    have m1 := cn_mono ls (p / 2 + 1) (show u.toNat ≤ v.toNat by omega)
    have k := cn_eq ls (p / 2 + 1) (show u.toNat ≤ v.toNat by omega)
    rw [← h.le (by omega)] at k
    split
    · rename_i e
      simp only [decide_eq_false c, Bool.false_or, decide_eq_true_eq]
      exact ⟨fun q => by have := k.mp (q.1 e); omega, fun q => ⟨fun _ => k.mpr (by omega), fun z => absurd e z⟩⟩
    · rename_i e
      have c2 : ¬ v < u := by omega
      simp only [decide_eq_false c2, Bool.false_and]
      exact ⟨fun q => by have := q.2 e; omega, fun q => by cases q⟩
/-- places and ranks of a walk of allowed edges -/
def Path (ls : List Int) (h : Int) (pl rk : List Int) : Prop := pl.length = rk.length + 1 ∧ (∀ z ∈ pl, 0 ≤ z ∧ z ≤ ls.length) ∧ (∀ r ∈ rk, 0 ≤ r ∧ r ≤ 2 * h) ∧ ∀ (i : Nat) (u p v : Int), pl[i]? = some u → rk[i]? = some p → pl[i + 1]? = some v → alw ls u p v = true
theorem Path.add {ls : List Int} {h : Int} {pl rk : List Int} {u p v : Int} (a : Path ls h (pl ++ [u]) rk) (hp : 0 ≤ p ∧ p ≤ 2 * h) (hv : 0 ≤ v ∧ v ≤ ls.length) (e : alw ls u p v = true) : Path ls h (pl ++ [u] ++ [v]) (rk ++ [p]) := by
  obtain ⟨a1, a2, a3, a4⟩ := a
  have a1' : pl.length = rk.length := by simpa using a1
  refine ⟨by simp [a1'], fun z hz => ?_, fun r hr => ?_, fun i u' p' v' h1 h2 h3 => ?_⟩
  · rcases List.mem_append.mp hz with q | q
    · exact a2 z q
    · have : z = v := by simpa using q
      rw [this]; exact hv
  · rcases List.mem_append.mp hr with q | q
    · exact a3 r q
    · have : r = p := by simpa using q
      rw [this]; exact hp
  · have hi : i < rk.length + 1 := by
      have := (List.getElem?_eq_some_iff.mp h2).1
      simpa using this
    by_cases q : i < rk.length
    · rw [List.getElem?_append_left (by simp; omega)] at h1 h3
      rw [List.getElem?_append_left q] at h2
      exact a4 i u' p' v' h1 h2 h3
    · have : i = rk.length := by omega
      subst this
      rw [List.getElem?_append_left (by simp; omega), ← a1', List.getElem?_append_right (Nat.le_refl _)] at h1
      rw [List.getElem?_append_right (Nat.le_refl _)] at h2
      rw [List.getElem?_append_right (by simp; omega)] at h3
      simp [a1'] at h1 h2 h3
      rw [← h1, ← h2, ← h3]; exact e
end LR

set_option Elab.async false
set_option maxRecDepth 100000
set_option linter.all false
set_option maxHeartbeats 4000000
namespace LR
open PySem PySem.Spec PyProof.Rows L2
def oV : Option Int → V
  | none => .non
  | some k => .int k
def oD : Option Int → Dt
  | none => .non
  | some k => .int k
theorem at_o (H : Hp) (o : Option Int) : At H (oV o) (oD o) := by
  cases o with
  | none => exact .non
  | some k => exact .int k
/-- o is the least step from which rank p is allowed to w -/
def LeastIs (ls : List Int) (p w : Int) (o : Option Int) : Prop := (∀ k, o = some k → 0 ≤ k ∧ k ≤ ls.length) ∧ ∀ u : Int, 0 ≤ u → u ≤ ls.length → (alw ls u p w = true ↔ ∃ k, o = some k ∧ k ≤ u)
def GreatestIs (ls : List Int) (u p : Int) (o : Option Int) : Prop := (∀ k, o = some k → 0 ≤ k ∧ k ≤ ls.length) ∧ ∀ w : Int, 0 ≤ w → w ≤ ls.length → (alw ls u p w = true ↔ ∃ k, o = some k ∧ w ≤ k)
theorem LeastIs.one {ls p w o o'} (a : LeastIs ls p w o) (b : LeastIs ls p w o') : o = o' := by
  have key : ∀ {x y : Option Int}, LeastIs ls p w x → LeastIs ls p w y → ∀ k, x = some k → ∃ j, y = some j ∧ j ≤ k := fun a b k e => by
    obtain ⟨k0, k1⟩ := a.1 k e
    exact (b.2 k k0 k1).mp ((a.2 k k0 k1).mpr ⟨k, e, Int.le_refl _⟩)
  cases o with
  | none => cases o' with
    | none => rfl
    | some k => obtain ⟨j, e, _⟩ := key b a k rfl; cases e
  | some k => 
    obtain ⟨j, e, h⟩ := key a b k rfl
    subst e
    obtain ⟨i, e, h2⟩ := key b a j rfl
    cases e
    rw [Int.le_antisymm h h2]
theorem GreatestIs.one {ls u p o o'} (a : GreatestIs ls u p o) (b : GreatestIs ls u p o') : o = o' := by
  have key : ∀ {x y : Option Int}, GreatestIs ls u p x → GreatestIs ls u p y → ∀ k, x = some k → ∃ j, y = some j ∧ k ≤ j := fun a b k e => by
    obtain ⟨k0, k1⟩ := a.1 k e
    exact (b.2 k k0 k1).mp ((a.2 k k0 k1).mpr ⟨k, e, Int.le_refl _⟩)
  cases o with
  | none => cases o' with
    | none => rfl
    | some k => obtain ⟨j, e, _⟩ := key b a k rfl; cases e
  | some k =>
    obtain ⟨j, e, h⟩ := key a b k rfl
    subst e
    obtain ⟨i, e, h2⟩ := key b a j rfl
    cases e
    rw [Int.le_antisymm h h2]
/-- what is allowed, level by level -/
theorem alw_lv {ls : List Int} {u p w : Int} (hu : 0 ≤ u) (hw : 0 ≤ w) : alw ls u p w = true ↔
    if p % 2 = 0 then w ≤ u ∨ ∀ (m : Nat) (z : Int), u ≤ m → (m : Int) < w → ls[m]? = some z → z < p / 2 + 1
    else w < u ∧ ∃ (m : Nat) (z : Int), w ≤ m ∧ (m : Int) < u ∧ ls[m]? = some z ∧ p / 2 + 1 ≤ z := by
  rw [alw_step]
  split
  · rename_i e
    by_cases c : w ≤ u
    · exact ⟨fun _ => .inl c, fun _ => ⟨fun _ => cn_mono _ _ (by omega), fun q => absurd e q⟩⟩
    · have k := cn_eq ls (p / 2 + 1) (show u.toNat ≤ w.toNat by omega)
      constructor
      · intro h
        exact .inr fun m z a b e2 => k.mp (h.1 e) m z (by omega) (by omega) e2
      · rintro (h | h)
        · exact absurd h c
        · exact ⟨fun _ => k.mpr fun m z a b e2 => h m z (by omega) (by omega) e2, fun q => absurd e q⟩
  · rename_i e
    by_cases c : w < u
    · have k := cn_eq ls (p / 2 + 1) (show w.toNat ≤ u.toNat by omega)
      constructor
      · intro h
        refine ⟨c, Classical.byContradiction fun q => ?_⟩
        have : cn ls (p / 2 + 1) u.toNat ≤ cn ls (p / 2 + 1) w.toNat := k.mpr fun m z a b e2 => by
          apply Classical.byContradiction
          intro q2
          exact q ⟨m, z, by omega, by omega, e2, by omega⟩
        have := h.2 e
        omega
      · rintro ⟨_, m, z, a, b, e2, h⟩
        refine ⟨fun q => absurd q e, fun _ => ?_⟩
        have : ¬ cn ls (p / 2 + 1) u.toNat ≤ cn ls (p / 2 + 1) w.toNat := fun q => by
          have := k.mp q m z (by omega) (by omega) e2
          omega
        omega
    · have := cn_mono ls (p / 2 + 1) (show u.toNat ≤ w.toNat by omega)
      exact ⟨fun h => by have := h.2 e; omega, fun h => absurd h.1 c⟩
theorem alw_up {ls : List Int} {u u' p w : Int} (h : alw ls u p w = true) (le : u ≤ u') : alw ls u' p w = true := by
  have m := cn_mono ls (p / 2 + 1) (show u.toNat ≤ u'.toNat by omega)
  rw [alw_step] at h ⊢
  exact ⟨fun e => Int.le_trans (h.1 e) m, fun e => Int.lt_of_lt_of_le (h.2 e) m⟩
theorem alw_down {ls : List Int} {u p w w' : Int} (h : alw ls u p w = true) (le : w' ≤ w) : alw ls u p w' = true := by
  have m := cn_mono ls (p / 2 + 1) (show w'.toNat ≤ w.toNat by omega)
  rw [alw_step] at h ⊢
  exact ⟨fun e => Int.le_trans m (h.1 e), fun e => Int.lt_of_le_of_lt m (h.2 e)⟩
/-- the first step that does, or none -/
theorem least_found {ls : List Int} {p w : Int} {k : Nat} (hk : k ≤ ls.length) (h : alw ls k p w = true) (hn : ∀ j : Nat, j < k → alw ls j p w = false) : LeastIs ls p w (some (k : Int)) := by
  refine ⟨fun j e => by cases e; omega, fun u u0 u1 => ⟨fun q => ⟨k, rfl, ?_⟩, fun ⟨j, e, le⟩ => ?_⟩⟩
  · apply Classical.byContradiction
    intro c
    have := hn u.toNat (by omega)
    rw [Int.toNat_of_nonneg u0, q] at this
    cases this
  · cases e; exact alw_up h le
theorem least_none {ls : List Int} {p w : Int} (hn : ∀ j : Nat, j ≤ ls.length → alw ls j p w = false) : LeastIs ls p w none := by
  refine ⟨fun j e => (by cases e), fun u u0 u1 => ⟨fun q => ?_, fun ⟨j, e, le⟩ => (by cases e)⟩⟩
  have := hn u.toNat (by omega)
  rw [Int.toNat_of_nonneg u0, q] at this
  cases this
theorem greatest_found {ls : List Int} {u p : Int} {k : Nat} (hk : k ≤ ls.length) (h : alw ls u p k = true) (hn : ∀ j : Nat, k < j → j ≤ ls.length → alw ls u p j = false) : GreatestIs ls u p (some (k : Int)) := by
  refine ⟨fun j e => by cases e; omega, fun w u0 u1 => ⟨fun q => ⟨k, rfl, ?_⟩, fun ⟨j, e, le⟩ => ?_⟩⟩
  · apply Classical.byContradiction
    intro c
    have := hn w.toNat (by omega) (by omega)
    rw [Int.toNat_of_nonneg u0, q] at this
    cases this
  · cases e; exact alw_down h le
theorem greatest_none {ls : List Int} {u p : Int} (hn : ∀ j : Nat, j ≤ ls.length → alw ls u p j = false) : GreatestIs ls u p none := by
  refine ⟨fun j e => (by cases e), fun w u0 u1 => ⟨fun q => ?_, fun ⟨j, e, le⟩ => (by cases e)⟩⟩
  have := hn w.toNat (by omega)
  rw [Int.toNat_of_nonneg u0, q] at this
  cases this
end LR

set_option Elab.async false
set_option maxRecDepth 100000
set_option linter.all false
set_option maxHeartbeats 4000000
namespace LR
open PySem PySem.Spec PyProof.Rows L2
/-! ## defs that say super(): the cell __class__ stands in the written part -/
structure CScope (N P : List Str) (sc : Scope) : Prop where
  kind : sc.kind = .function
  co : sc.isCoroutine = false
  gen : sc.isGenerator = false
  nd : N.Nodup
  pre : N.take P.length = P
  par : ∀ x ∈ P, sc.names.lookup x = some .local
  nocell : ∀ y ∈ sc.names, y.2 ≠ .cell
  free : ∀ y ∈ sc.names, y.2 = .free → y.1 = "__class__"
def cxC (CX : CXT) (P : Program) (w : World) (K : PySem.W.Frag) (mg : Str → Option Value) (base : Heap) (N : List Str) (qual : Str) (scope : Scope) (f : Addr) (cd : Value) (cc : Addr) (A : Around) (outer : List Env) (s : Shared) (H : Hp) (E : XK) : Cx where
  prog := P
  w := w
  K := K
  mg := mg
  base := base
  A := A.deeper (PySem.W.ksEnv qual scope s.heap.objs.size f cd cc)
  N := N
  s_0 := s
  H_0 := H
  env := PySem.W.ksEnv qual scope s.heap.objs.size f cd cc
  outer := outer
  stack := PySem.W.ksEnv qual scope s.heap.objs.size f cd cc :: outer
  ex := []
  calm := true
  fn := fun _ => false
  pn := []
  xe := fun e s' => wpAny (model P w) (A.deeper (PySem.W.ksEnv qual scope s.heap.objs.size f cd cc)) (leaving (PySem.W.ksEnv qual scope s.heap.objs.size f cd cc) e) (fun _ s'' => CX outer H s E e s'') (fun e' s'' => CX outer H s E e' s'') s'
/-! ### statements at the def's own node -/
structure NE (X : Cx) (body : List Stmt) (e : Expr) (t : TE) : Prop where
  run : ∀ (pins : List (Addr × Obj)) (s : Shared) (σ : L2.St) (H : Hp) (Q : VK), Inv X pins σ H s → t σ H Q → PySem.wpAt (model X.prog X.w) X.A (.func body X.env) (eval e X.env) (EP X pins σ Q) X.xe s
structure NS (X : Cx) (body : List Stmt) (st : Stmt) (t : TS) : Prop where
  run : ∀ (pins : List (Addr × Obj)) (s : Shared) (σ : L2.St) (H : Hp) (D : Ends), Inv X pins σ H s → t D σ H → PySem.wpAt (model X.prog X.w) X.A (.func body X.env) (exec st X.env) (SP X pins D) X.xe s
structure NSs (X : Cx) (body : List Stmt) (st : List Stmt) (t : TS) : Prop where
  run : ∀ (pins : List (Addr × Obj)) (s : Shared) (σ : L2.St) (H : Hp) (D : Ends), Inv X pins σ H s → t D σ H → PySem.wpAt (model X.prog X.w) X.A (.func body X.env) (execs st X.env) (SP X pins D) X.xe s
section
variable {X : Cx} {body : List Stmt} {st : Stmt} {rest : List Stmt} {t u : TS} {e : Expr} {te : TE} {pos : Pos}
theorem nss_ps (h : PSs X rest t) : NSs X body rest t := ⟨fun pins s σ H D I q => wpAt_of_wpAny (h.run pins s σ H D I q)⟩
theorem ns_ps (h : PS X st t) : NS X body st t := ⟨fun pins s σ H D I q => wpAt_of_wpAny (h.run pins s σ H D I q)⟩
theorem nss_cons (h1 : NS X body st t) (h2 : NSs X body rest u) : NSs X body (st :: rest) (tSeq t u) := by
  refine ⟨fun pins s σ H D I h => ?_⟩
  refine PySem.ks_wpAt_execs_cons (PySem.ks_wpAt_mono (h1.run pins s σ H { D with nx := u D } I h) (fun f s1 q => ?_) fun _ _ z => z)
  cases f with
  | next =>
    obtain ⟨σ', H', I', q⟩ := q
    exact h2.run pins s1 σ' H' D I' q
  | ret v => exact q
  | brk => exact q
  | cont => exact q
theorem nss_nil : NSs X body [] tNext := nss_ps pss_nil
theorem nss_one (h : NS X body st t) : NSs X body [st] (tSeq t tNext) := nss_cons h nss_nil
theorem ns_expr (h : NE X body e te) (hi : interactive X.env = false := by rfl) (hs : swapsWith e none pos.line X.env = pure false := by rfl) : NS X body (.Expr e pos) (tDrop te) := by
  refine ⟨fun pins s σ H D I q => ?_⟩
  refine PySem.ks_wpAt_Expr_any (PySem.ks_wpAt_mono (h.run pins s σ H _ I q) (fun v s1 hh => ?_) fun _ _ z => z) hi hs
  obtain ⟨x, H1, I1, r1, q1⟩ := hh
  exact ⟨σ, H1, I1, q1⟩
theorem ns_ret (h : NE X body e te) : NS X body (.Return (some e) pos) (tRet te) := by
  refine ⟨fun pins s σ H D I q => ?_⟩
  refine PySem.ks_wpAt_Return_some (PySem.ks_wpAt_mono (h.run pins s σ H _ I q) (fun v s1 hh => ?_) fun _ _ z => z)
  obtain ⟨x, H1, I1, r1, q1⟩ := hh
  exact ⟨x, σ, H1, I1, r1, q1⟩
end
theorem lk_mem {l : List (Str × Value)} {y : Str} {u : Value} (nd : (l.map (·.1)).Nodup) (h : (y, u) ∈ l) : l.lookup y = some u := by
  induction l with
  | nil => cases h
  | cons p r ih =>
    obtain ⟨z, v⟩ := p
    have hz : ((z, v) :: r).map (·.1) = z :: r.map (·.1) := rfl
    rw [hz] at nd
    obtain ⟨n1, n2⟩ := List.nodup_cons.mp nd
    rcases List.mem_cons.mp h with q | q
    · cases q
      simp [List.lookup]
    · have ne : (y == z) = false := by
        simp only [beq_eq_false_iff_ne, ne_eq]
        intro e; subst e
        exact n1 (List.mem_map_of_mem (f := (·.1)) q)
      simp only [List.lookup, ne]
      exact ih n2 q
theorem nodup_rev {α : Type} : ∀ {l : List α}, l.Nodup → l.reverse.Nodup := fun {l} h => by
  unfold List.Nodup at h ⊢
  rw [List.pairwise_reverse]
  exact h.imp fun a b => a b.symm
theorem zip_lk {ps : List Str} {us : List Value} {i : Nat} {y : Str} {u : Value} (nd : ps.Nodup) (hl : us.length = ps.length) (h1 : ps[i]? = some y) (h2 : us[i]? = some u) : (ps.zip us).reverse.lookup y = some u := by
  refine lk_mem ?_ ?_
  · rw [List.map_reverse]
    refine nodup_rev ?_
    have : (ps.zip us).map (·.1) = ps := List.map_fst_zip (by omega)
    rw [this]; exact nd
  · rw [List.mem_reverse]
    refine List.mem_of_getElem? (i := i) ?_
    rw [List.getElem?_zip_eq_some]; exact ⟨h1, h2⟩
section
variable {CX : CXT} {P : Program} {w : World} {K : PySem.W.Frag} {mg : Str → Option Value} {base : Heap} {k : Nat} {f cc D : Addr} {name qual : Str} {params : Arguments} {body : List Stmt} {scope : Scope} {dV kV doc pm cdv ct oc cl : Value} {an od cld : Option Addr}
    {osl csl : Array (Option Value)} {N ps : List Str} {sp : Sp}
theorem fn_ofC (lk : K.lookup f = some ⟨oc, od, .func (PySem.W.ksFn name qual params body scope dV kV doc pm an cdv ct cc), osl⟩) (lc : K.lookup cc = some ⟨cl, cld, .cell (some (.ref D)), csl⟩) (hcd : PySem.W.codeIn K cdv qual = true) (S : CScope N ps scope)
    (len : ∀ vs H Q E, sp vs H Q E → vs.length = ps.length)
    (hbody : ∀ (A : Around) (outer : List Env) (s : Shared) (H : Hp) (vs : List V) (Q : VK) (E : XK), Room k (A.deeper (PySem.W.ksEnv qual scope s.heap.objs.size f cdv cc)) → sp vs H Q E →
      ∃ t, NSs (cxC CX P w K mg base N qual scope f cdv cc A outer s H E) body body t ∧ t { nx := fun _ H' => Q .non H', rt := Q } (L2.start N vs) H) :
    FnOk P w K mg base CX (k + 1) f (PySem.W.ksFn name qual params body scope dV kV doc pm an cdv ct cc) ps sp := by
  refine ⟨len, fun A outer s H args us vs Q E hr e0 hb r hsp => ?_⟩
  have hl := len _ _ _ _ hsp
  have hlu : us.length = ps.length := by rw [← hl]; exact r.length.symm
  have KX : K.In s.heap := e0.mod.kin.keeps fun b o e => (e0.bs b o e).1
  have lim : s.heap.NoLimit := e0.mod.nolimit.keeps fun b o e => (e0.bs b o e).1
  have hloc : ∀ y ∈ ps.zip us, scope.names.lookup y.1 = some .local := fun ⟨n, v⟩ hy => S.par n (List.of_mem_zip hy).1
  have ndP : ps.Nodup := by rw [← S.pre]; exact S.nd.sublist (List.take_sublist _ _)
  have hpl : ps.length ≤ N.length := by have := congrArg List.length S.pre; rw [List.length_take] at this; omega
  refine PySem.ks_codeAny_call_defAt (fd := PySem.W.ksFn name qual params body scope dV kV doc pm an cdv ct cc) (body := body) (binds := ps.zip us) hr.depth (KX _ _ lk) rfl lim (PySem.W.codeRec_of KX hcd) rfl hb S.nocell hloc (fun h₀ hns hk => ?_) S.co S.gen S.kind
  obtain ⟨t, ht, hq⟩ := hbody A outer s H vs Q E (hr.deeper _) hsp
  have noA : ∀ b : Addr, b ∉ (cxC CX P w K mg base N qual scope f cdv cc A outer s H E).ex := fun b z => absurd (show b ∈ ([] : List Addr) from z) (by simp)
  have hcells : ∀ (x : Str) (c : Addr), (cxC CX P w K mg base N qual scope f cdv cc A outer s H E).env.cells.lookup x = some c → x = "__class__" ∧ c = cc := fun x c h => by
    have h : List.lookup x [(("__class__" : Str), cc)] = some c := h
    simp only [List.lookup] at h
    split at h
    · rename_i e
      exact ⟨by simpa using e, (Option.some.inj h).symm⟩
    · cases h
  have hcc : base.get? cc = some ⟨cl, cld, .cell (some (.ref D)), csl⟩ := e0.mod.kin _ _ lc
  have I : Inv (cxC CX P w K mg base N qual scope f cdv cc A outer s H E) [] (start N vs) H { s with heap := h₀, toks := s.toks + (ps.zip us).length } := by
    refine ⟨⟨e0.mod, S.kind, rfl, rfl, Nat.le_refl _, fun y z c h1 h2 => ?_, fun y hy => ?_, fun y c hf _ => absurd hf (by show ¬ false = true; decide), fun _ => hr.hd, Around.frames_deeper e0.frames, .inr ⟨rfl, rfl⟩, fun b z => absurd z (noA b), e0.bs, e0.bsz, fun b _ _ => noA b, fun b z => absurd z (noA b), e0.funs, e0.frf⟩,
      rfl, e0.bare, Un.kept hk, ⟨_, hns, fun i y v h1 h2 h3 => ?_⟩, fun y c h => ?_, e0.hok.fresh (Nat.le_refl _), fun y c h => ?_, fun p hp => absurd (show p ∈ ([] : List (Addr × Obj)) from hp) (by simp), e0.hok.kept hk, ?_⟩
    · rw [(hcells _ _ h1).1, (hcells _ _ h2).1]
    · have hy : scope.names.lookup y = some .cell ∨ scope.names.lookup y = some .free := hy
      rcases hy with hy | hy
      · exact absurd rfl (S.nocell _ (PySem.mem_of_lookup hy))
      · have e := S.free _ (PySem.mem_of_lookup hy) rfl
        have e : y = "__class__" := e
        subst e
        exact ⟨cc, rfl⟩
    · have hi : i < vs.length := by
        unfold L2.start at h2
        by_cases hi : i < vs.length
        · exact hi
        · rw [List.getElem?_append_right (by simpa using hi)] at h2
          rw [List.getElem?_replicate] at h2
          split at h2 <;> cases h2
      have ha : vs[i]? = some v := by
        unfold L2.start at h2
        rw [List.getElem?_append_left (by simpa using hi), List.getElem?_map] at h2
        cases e : vs[i]? with
        | none => rw [e] at h2; cases h2
        | some a => rw [e] at h2; cases h2; rfl
      obtain ⟨u, hu, rv⟩ := r.get ha
      have hp : ps[i]? = some y := by
        rw [← S.pre, List.getElem?_take_of_lt (by omega)]; exact h1
      exact ⟨u, rv, .inl ⟨S.par y (List.mem_of_getElem? hp), zip_lk ndP hlu hp hu⟩⟩
    · rw [(hcells _ _ h).2]
      exact ⟨_, _, hk _ _ (KX _ _ lc), rfl⟩
    · rw [(hcells _ _ h).2]
      exact (e0.bs _ _ hcc).2
    · unfold L2.start
      show _ = N.length
      rw [List.length_append, List.length_map, List.length_replicate]
      omega
  refine PySem.ks_wpAt_mono (ht.run [] _ (start N vs) H _ I hq) (fun fl s' hs => ?_) fun e s' hs => hs
  have fin : ∀ {σ' : L2.St} {H' : Hp} {v : V} {u : Value}, Inv (cxC CX P w K mg base N qual scope f cdv cc A outer s H E) [] σ' H' s' → RelV v u → Q v H' → CE outer P w H s Q u s' :=
    fun {σ' H' v u} J rv q => ⟨v, H', J.os, J.bare, J.base, J.hok, rv, q⟩
  cases fl with
  | ret u =>
    obtain ⟨v, σ', H', J, rv, q⟩ := hs
    exact fin J rv q
  | next =>
    obtain ⟨σ', H', J, q⟩ := hs
    exact fin (v := V.non) (u := Value.none) J rfl q
  | brk =>
    obtain ⟨_, _, _, q⟩ := hs
    exact False.elim q
  | cont =>
    obtain ⟨_, _, _, q⟩ := hs
    exact False.elim q
end
end LR

set_option Elab.async false
set_option maxRecDepth 100000
set_option linter.all false
set_option maxHeartbeats 4000000
namespace LR
open PySem PySem.Spec PyProof.Rows L2
/-- what the written part says of a def with super(), standing at f, of the class at D -/
structure SupIn (prog : Program) (K : PySem.W.Frag) (mg : Str → Option Value) (f cc cda D : Addr) (fd : FuncData) (me : Str) : Prop where
  fn : ∃ oc od osl, K.lookup f = some ⟨oc, od, .func fd, osl⟩
  head : ∃ ar : Arg, (fd.params.posonlyargs ++ fd.params.args).head? = some ar ∧ ar.arg = me
  code : ∃ (ccl : Value) (cdd : Option Addr) (vs : Array Value) (ccs : Array (Option Value)) (file : Str) (tf : Tok), K.lookup cda = some ⟨ccl, cdd, .fields vs, ccs⟩ ∧ vs[2]? = some (.str file tf) ∧ ((prog.main.file : Str) == file) = true
  cell : ∃ cl cld csl, K.lookup cc = some ⟨cl, cld, .cell (some (.ref D)), csl⟩
  cls : ∃ cd, PySem.W.clsIn K D = some cd
  sup : mg "super" = none
  top : (prog.main.scope.names.lookup ("super" : Str)).isSome = false
  any : PySem.W.nsIn K cStatics "thirdparty.any" = some none
theorem b_super : bootBuiltins "super" = some (.type "super") := by first | decide +kernel | rfl | kernel_rfl
theorem pin_newA {X : Cx} {pins : List (Addr × Obj)} {σ : L2.St} {H : Hp} {s : Shared} {o : Obj} {h' : Heap} {a : Addr} {t' : Nat} (I : Inv X pins σ H s) (k : ∀ b u, s.heap.get? b = some u → h'.get? b = some u) (ha : s.heap.objs.size ≤ a) (ho : h'.get? a = some o) (hc : ∀ v, o.data ≠ .cell v) :
    Inv X ((a, o) :: pins) σ H { s with heap := h', toks := t' } := ClX.pin_new I k ha ho hc
section
variable {X : Cx} {pins : List (Addr × Obj)} {σ : L2.St} {H : Hp} {s : Shared} {body : List Stmt} {f cc cda D C x : Addr} {fd : FuncData} {self attr : Str} {p0 p1 : Pos} {whole : Sem Value} {Q : Value → Shared → Prop} {i : Nat}
theorem super_base (S : SupIn X.prog X.K X.mg f cc cda D fd self) (I : Inv X pins σ H s) {ox : Obj} (hx : s.heap.get? x = some ox) (hxc : ox.cls = .ref C) (hnc : ∀ c, ox.data ≠ .cls c) (hsub : PySem.W.mroIn X.K C (.ref D) = some true)
    (hi : X.N[i]? = some self) (hσ : σ[i]? = some (some (.ref x))) (hka : X.env.kindOf self = some .local)
    (hks : X.env.kindOf "super" = some .globalImplicit) (hkc : X.env.kindOf "__class__" = some .free) (hfu : X.env.func = some f) (hco : X.env.code = .ref cda) (hcl : X.env.cells.lookup ("__class__" : Str) = some cc)
    (hat : (attr == ("__class__" : Str)) = false)
    (h : ∀ (so : Addr) (h' : Heap), h'.get? so = some (PySem.W.ks_superObj D x C) → Inv X ((so, PySem.W.ks_superObj D x C) :: pins) σ H { s with heap := h' } → (∀ b u, s.heap.get? b = some u → h'.get? b = some u) → Q (.ref so) { s with heap := h' }) {E : Value → Shared → Prop} :
    PySem.wpAt (model X.prog X.w) X.A (.func body X.env) (attributeBase (.Call (.Name "super" p0) [] [] p1) attr X.env whole) Q E s := by
  obtain ⟨oc, od, osl, hf⟩ := S.fn
  obtain ⟨ar, hp, har⟩ := S.head
  obtain ⟨ccl, cdd, vs, ccs, file, tf, hcode, hvs, hfile⟩ := S.code
  obtain ⟨cl, cld, csl, hcell⟩ := S.cell
  obtain ⟨cdD, hD⟩ := S.cls
  have KX := I.kIn
  obtain ⟨oD, hD1, hD2⟩ : ∃ oD, s.heap.get? D = some oD ∧ oD.data = .cls cdD := by
    unfold PySem.W.clsIn at hD
    split at hD
    · rename_i c d cd' sl ho
      cases hD
      exact ⟨_, KX _ _ ho, rfl⟩
    · cases hD
  subst har
  have kind := I.ok.kind
  obtain ⟨mb, hb1, hb2⟩ := I.mod.blt
  refine PySem.ks_wpAt_super_base (env := X.env) hks hkc hat hfu (KX _ _ hf) rfl hp hco (KX _ _ hcode) rfl hvs hfile S.top ?_
  refine PySem.W.ks_loadName_global kind hks (Calls.loadGlobal_builtin (by rw [I.ok.glob]; exact I.mod.glob.keeps I.bk) S.sup (by rw [I.ok.blt]; exact hb1.keeps I.bk) ((hb2 _ (by decide)).trans b_super) ⟨rfl, ?_⟩)
  refine wpAny_loadName_free kind hkc hcl ⟨_, KX _ _ hcell, rfl⟩ ?_
  obtain ⟨m, hns, hloc⟩ := id I.loc
  obtain ⟨u, ru, hlook⟩ := hloc i _ _ hi hσ (.inl hka)
  obtain rfl : u = Value.ref x := ru
  rcases hlook with ⟨_, hm⟩ | ⟨hk, _⟩
  · refine wpAny_loadName_local kind hka hns hm ?_
    obtain ⟨hh, g, d, t, os⟩ := s
    refine PySem.ks_wpAny_isType_cls hD1 hD2 ⟨rfl, ?_⟩
    refine PySem.ks_wpAny_call_super hD1 hD2 hx hxc hnc (PySem.W.looks_mroIn KX hsub) (fun h' e k => ?_)
    exact h _ h' e (pin_newA (t' := t) I k (Nat.le_refl _) e (fun v z => by cases z)) k
  · rw [hka] at hk
    rcases hk with hk | hk <;> cases hk
end
/-! ### super().__init__(..) where the built-in's __init__ is meant -/
section
open PySem.W
variable {prog : Program} {w : World} {A : Around} {E : Value → Shared → Prop} {h : Heap} {g : Array GenState} {d : Drawn} {t : Nat} {os : OsState}
variable {nm q : Str} {C N : Addr} {bs bm : List Value} {hdct : Bool} {sn : List Str} {sub : List Value} {ab : Bool} {col : Option Bool} {dd : Option Addr} {k0 k1 k2 k3 k5 : Option Value}
theorem call_mwVE {u e t0 : Addr} {rest : List Value} {Q : Value → Shared → Prop}
    (hC : h.get? C = some (excClassObj nm q C N bs bm hdct sn sub ab col dd k0 k1 k2 k3 k5 "ValueError.__new__")) (he : h.get? e = some (HandSPX.excO C t0)) (hu : h.get? u = some (kxs_mw "ValueError.__init__" e)) (hrest : rest.length ≤ sizeLine)
    (hq : ∀ h' t1, (∀ b o, b ≠ e → h.get? b = some o → h'.get? b = some o) → h'.get? e = some (HandSPX.excO C t1) → Q .none ⟨h', g, d, t, os⟩) :
    wpAny (model prog w) A (call (.ref u) rest) Q E ⟨h, g, d, t, os⟩ := by
  refine wpAny_call (codeAny_of_tree ?_)
  show wpAny _ A.in1 (callAny (.ref u) ⟨rest, []⟩) _ _ _
  simp only [callAny]
  refine wpAny_bind (wpAny_load hu ?_)
  simp only [kxs_mw, show (Value.type "method-wrapper" == Value.type "method" || Value.type "method-wrapper" == Value.type "builtin_function_or_method" || Value.type "method-wrapper" == Value.type "method-wrapper") = true by decide, if_true]
  refine KFB.if_so (by decide) ?_
  refine wpAny_bind (ESX.check_bound F.excBase_ValueError hC he rfl ?_)
  refine wpAny_bind (wpAny_pure (wpAny_pure ?_))
  refine ⟨Code.quiet_builtin _ (by decide +kernel), codeAny_builtin F.excBase_ValueError.initEntry ?_⟩
  rw [Around.under_plainId F.excBase_ValueError.init.plain _]
  wp_walk
  refine hq _ h.objs.size (fun b o hb ho => ?_) ?_
  · rw [Heap.get?_update_other _ _ (Ne.symm hb)]
    exact Heap.get?_push_of_some _ ho
  · rw [Heap.get?_update_self _ (Heap.get?_push_of_some _ he) rfl]
    rfl
end
section
variable {X : Cx} {body : List Stmt} {f cc cda D C : Addr} {fd : FuncData} {me m : Str} {p0 p1 pos apos : Pos} {i : Nat} {e : Expr} {es : List Expr} {ta : TA} {pl : Sem Bool}
/-- super().__init__(e, ..) in an exception's own __init__: nothing of it is told -/
def tSupV (C : Addr) (i : Nat) (ta : TA) : TE := fun σ H Q => ∃ x : Addr, σ[i]? = some (some (.ref x)) ∧ H x = some (exo x C none) ∧ ta σ H fun vs H1 => vs.length ≤ 1000 ∧ H1 x = some (exo x C none) ∧ Q .non H1
theorem ne_supV (S : SupIn X.prog X.K X.mg f cc cda C fd me) (T : OexC X.K C) (hm : PySem.W.ks_superIn X.K C C "__init__" = some (some (.builtin "ValueError.__init__"))) (hsub : PySem.W.mroIn X.K C (.ref C) = some true) (hB : PySem.W.subIn X.K (.ref C) (.type "ValueError") = some true)
    (ha : PA X (e :: es) ta)
    (hi : X.N[i]? = some me := by rfl) (hka : X.env.kindOf me = some .local := by rfl)
    (hks : X.env.kindOf "super" = some .globalImplicit := by rfl) (hkc : X.env.kindOf "__class__" = some .free := by rfl) (hfu : X.env.func = some f := by rfl) (hco : X.env.code = .ref cda := by rfl) (hcl : X.env.cells.lookup ("__class__" : Str) = some cc := by rfl)
    (hst : starEach (e :: es) X.env = (false, eval e X.env) :: starEach es X.env := by rfl) (hpl : (backTo pos (starEach es X.env)).any (·.1) = false := by rfl)
    (ht : eval (.Call (.Attribute (.Call (.Name "super" p0) [] [] p1) "__init__" apos) (e :: es) [] pos) X.env = (do
      let ov ← attributeBase (.Call (.Name "super" p0) [] [] p1) "__init__" X.env (eval (.Call (.Name "super" p0) [] [] p1) X.env)
      standAt apos.atName
      let (f, first) ← holding [ov] (getMethod ov "__init__" pl)
      callWith pos f first (backTo pos (starEach (e :: es) X.env)) []) := by rfl) :
    NE X body (.Call (.Attribute (.Call (.Name "super" p0) [] [] p1) "__init__" apos) (e :: es) [] pos) (tSupV C i ta) := by
  refine ⟨fun pins s σ H Q I h => ?_⟩
  obtain ⟨x, hσ, hx, q⟩ := h
  obtain ⟨t1, hox⟩ := exo_at I.hok hx
  refine PySem.ks_wpAt_MethodCall (pl := pl) (super_base S I hox rfl (fun c z => by cases z) hsub hi hσ hka hks hkc hfu hco hcl (by decide) (fun so h' hso J k => ?_)) ht
  have KX := J.kIn
  have hox' := k _ _ hox
  have IA : PySem.W.InstAt h' x { cls := .ref C, dict := none, data := .fields #[.ref t1, .none, .none, .none, .bool false, .none] } C none := ⟨hox', rfl, rfl, trivial⟩
  cases hc : PySem.W.clsIn X.K C with
  | none => unfold PySem.W.ks_superIn at hm; rw [hc] at hm; cases hm
  | some cd =>
    unfold PySem.W.ks_superIn at hm
    rw [hc] at hm
    obtain ⟨hh, g, d, t, os⟩ := s
    refine PySem.W.kxs_getMethod PySem.W.kxs_ValueError hso (PySem.W.looks_opaque KX S.any) (l₀ := cd.mro) (fun A Q E s k q => wpAny_bind ((PySem.W.looks_clsIn KX hc) A _ E s k (wpAny_pure q))) rfl KX hm (IA.type.andThen (PySem.W.looks_subIn KX hB)) (PySem.W.ks_ne KX IA hc) (by decide) ?_
    have J2 := pin_newA (t' := t + 1) J (fun b u z => Heap.get?_push_of_some (PySem.W.kxs_mw "ValueError.__init__" x) z) (Nat.le_refl _) (Heap.get?_push_at rfl rfl) (fun v z => by cases z)
    rw [hst]
    refine PySem.W.kxs_callWith (i := "ValueError.__init__") (x := x) (by show (false || (backTo pos (starEach es X.env)).any (·.1)) = false; rw [hpl]; rfl) ?_
    have ha' := fun pins s H Q I q => ha.run pos pins s σ H Q I q
    rw [hst] at ha'
    refine PySem.Calls.evalArgs_plain (thn (ha' _ _ H _ J2 q) fun us s3 ⟨vs, H1, I3, rv, hl, hx1, q1⟩ => ⟨ClX.pin_at I3, ?_⟩)
    have I4 := ClX.unpin (ClX.unpin I3)
    obtain ⟨t2, hox2⟩ := exo_at I4.hok hx1
    obtain ⟨nm, qn, N, bs, bm, sn, sub, ab, col, dd, k0, k1, k2, k3, k5, hC, hbm⟩ := T.cls
    have hmw := ClX.pin_at I3
    obtain ⟨hp, g3, d3, t3, os3⟩ := s3
    refine call_mwVE (I4.kIn _ _ hC) hox2 hmw ?_ (fun h5 t5 k5 hx5 => ?_)
    · have := rv.length
      show us.length ≤ sizeLine
      rw [← this, sizeLine_eq]; omega
    · have J5 := I4.write (t' := t3) (x := x) (e := x) (o := exo x C none) (by rw [hx1]; exact True.intro) (.inl rfl) k5 ⟨_, hx5⟩ (exo_ok hx5)
      have eu : upd H1 x (exo x C none) = H1 := by
        funext b
        by_cases hb : b = x
        · rw [hb, upd_same, hx1]
        · rw [upd_ne hb]
      rw [eu] at J5
      exact ⟨.non, H1, J5, rfl, q1⟩
end
end LR

set_option Elab.async false
set_option maxRecDepth 100000
set_option linter.all false
set_option maxHeartbeats 4000000
namespace LR
open PySem PySem.Spec PyProof.Rows L2
/-! ## isinstance of an error that a suite holds -/
/-- the error's own dict (if it has one) is known -/
def DictKnown (H : Hp) : Option Addr → Prop
  | none => True
  | some dd => ∃ fs, H dd = some (.xd fs)
structure ErrC (K : PySem.W.Frag) (C : Addr) : Prop where
  cl : (PySem.W.clsIn K C).isSome = true
  ga : PySem.W.findIn K (.ref C) "__getattribute__" = some (some (.builtin "BaseException.__getattribute__"))
  gg : PySem.W.findIn K (.ref C) "__getattr__" = some none
  sb : PySem.W.subIn K (.ref C) (.type "BaseException") = some true
  ac : PySem.W.findIn K (.ref C) "__class__" = some (some (.builtin "object.__class__"))
  mo : PySem.W.mroIn K C (.type "object") = some true
  hd : PySem.W.hasDictIn K C = true
/-- .. and of the built-in object -/
structure ObjC (K : PySem.W.Frag) : Prop where
  gt : PySem.W.specialIn K (.builtin "object.__class__") "__get__" = some (some (.builtin "getset_descriptor.__get__"))
  tk : PySem.W.takesIn K (.builtin "object.__class__") = some true
def rIsX (K : PySem.W.Frag) (cls : Value) (a : Addr) (d : Option Addr) : List V → Hp → VK → Prop := fun xs H Q => ∃ C : Addr, cls = .ref C ∧ ErrC K C ∧ DictKnown H d ∧
  ((∃ (c : V) (cv : Value) (b : Bool), xs = [.ref a, c] ∧ ClsV c cv ∧ PySem.W.kitOne K (.ref C) cv = some b ∧ Q (.bl b) H) ∨
    ∃ (tp : Addr) (cs : List V) (us : List Value) (b : Bool), xs = [.ref a, .ref tp] ∧ H tp = some (.tup cs) ∧ Paired ClsV cs us ∧ PySem.W.kitAny K (.ref C) us = some b ∧ Q (.bl b) H)
theorem call_isX {X : Cx} {a : Addr} {cls : Value} {d : Option Addr} {oe : Obj} {pn : List (Addr × Obj)} (O : ObjC X.K) (hz : Zc cls d oe) (hf : ∃ vs, oe.data = .fields vs) :
    CallR (X.suite a ((a, oe) :: pn)) (.builtin "isinstance") (rIsX X.K cls a d) := by
  intro pins s σ H xs us Q I r h
  obtain ⟨C, rfl, E, hd, h⟩ := h
  obtain ⟨hget, _⟩ := I.pin (a, oe) (List.mem_append.mpr (.inl List.mem_cons_self))
  obtain ⟨fv, hfv⟩ := hf
  have nc : PySem.W.notCls oe = true := by unfold PySem.W.notCls; rw [hfv] <;> rfl
  have J : ∃ od, PySem.W.InstAt s.heap a oe C od := by
    cases d with
    | none => exact ⟨none, hget, hz.1, nc, by rw [hz.2]; trivial⟩
    | some dd =>
      obtain ⟨fs, hdd⟩ := hd
      obtain ⟨mA, hns, _⟩ := (show ObjOk X.prog X.w H s.heap dd (.xd fs) from I.hok dd _ hdd)
      obtain ⟨od, ho, _⟩ := lookIn_ns hns
      exact ⟨some od, hget, hz.1, nc, by rw [hz.2]; exact ho⟩
  obtain ⟨od, J⟩ := J
  have Z := PySem.W.kitx_exc (x := a) (ox := oe) (od := od) E.cl E.ga E.gg E.sb E.ac O.gt O.tk E.mo
  rcases h with ⟨c, cv, b, rfl, kc, e, q⟩ | ⟨tp, cs, ws, b, rfl, hT, kc, e, q⟩
  · cases r with
    | cons rx rr =>
      cases rr with
      | cons rt rn =>
        cases rn
        cases rx
        have ec := kc.eq rt
        subst ec
        exact PySem.W.kia_one Z I.kIn J e (fun z => nomatch z) fun tk => ⟨.bl b, H, I.tok tk, rfl, q⟩
  · cases r with
    | cons rx rr =>
      cases rr with
      | cons rt rn =>
        cases rn
        cases rx
        cases rt
        obtain ⟨_, its, rv, o, h1, h2, n, h3⟩ := (show ObjOk X.prog X.w H s.heap tp (.tup cs) from I.hok tp _ hT)
        have e3 := ClsV.all kc rv
        subst e3
        obtain ⟨oc, od', dt, sl⟩ := o
        simp only at h2 h3
        subst h2 h3
        exact PySem.W.kia_tup Z I.kIn J h1 e (fun z => nomatch z) fun tk => ⟨.bl b, H, I.tok tk, rfl, q⟩
theorem b_ValueError : bootBuiltins "ValueError" = some (.type "ValueError") := by decide +kernel
/-! ## try with several clauses, each with a name or without -/
abbrev Clause := Value × Option Nat × (Addr → Value → Option Addr → TS)
/-- a suite that holds the error in slot i leaves the slot empty -/
def emptied (i : Nat) (D : Ends) : Ends := { nx := fun σ H => D.nx (σ.set i none) H, rt := D.rt, bk := fun σ H => D.bk (σ.set i none) H, ct := fun σ H => D.ct (σ.set i none) H }
def wCl (K : PySem.W.Frag) (Wout : WX) (D : Ends) : List Clause → WX
  | [] => Wout
  | (c, none, ts) :: r => fun cls d σ H => ∃ b, PySem.W.exmOne K cls c = some b ∧ (b = true → ∀ a, H a = none → ts a cls d D σ H) ∧ (b = false → wCl K Wout D r cls d σ H)
  | (c, some i, ts) :: r => fun cls d σ H => ∃ b, PySem.W.exmOne K cls c = some b ∧ (b = true → ∀ a, H a = none → ts a cls d (emptied i D) (σ.set i (some (.ref a))) H) ∧ (b = false → wCl K Wout D r cls d σ H)
def SuiteOk (X : Cx) (body : List Stmt) (ts : Addr → Value → Option Addr → TS) : Prop :=
  ∀ (a : Addr) (oe : Obj) (cls : Value) (d : Option Addr) (pn : List (Addr × Obj)), Zc cls d oe → (∃ vs, oe.data = .fields vs) → PSs (X.suite a ((a, oe) :: pn)) body (ts a cls d)
inductive ClOk (X : Cx) : List ExceptHandler → List Clause → Prop
  | nil : ClOk X [] []
  | bare {x : Str} {c : Value} {ts} {b₀ : Stmt} {suite : List Stmt} {np pos' : Pos} {hds l} (hc : Names X x c) (hsu : SuiteOk X (b₀ :: suite) ts) (r : ClOk X hds l) :
      ClOk X (.ExceptHandler (some (.Name x np)) none (b₀ :: suite) pos' :: hds) ((c, none, ts) :: l)
  | held {x n : Str} {i : Nat} {c : Value} {ts} {b₀ : Stmt} {suite : List Stmt} {np pos' : Pos} {hds l} (hi : X.N[i]? = some n) (hln : X.env.kindOf n = some .local) (hc : Names X x c) (hsu : SuiteOk X (b₀ :: suite) ts) (r : ClOk X hds l) :
      ClOk X (.ExceptHandler (some (.Name x np)) (some n) (b₀ :: suite) pos' :: hds) ((c, some i, ts) :: l)
section
variable {X : Cx} {body : List Stmt} {h₀ : ExceptHandler} {hds : List ExceptHandler} {l : List Clause} {pos : Pos} {tb : WX → TS} {Wout : WX}
theorem ps_try_any (hs : X.stack = X.env :: X.outer) (hf : X.env.frame = some X.env.locals) (hN : X.N.Nodup) (tk : Takes X Wout)
    (hb : ∀ (W : WX) (pn : List (Addr × Obj)) (xe : Value → Shared → Prop), Takes (X.tr pn xe) W → PassesOwn (model X.prog X.w) X.A X.env xe → PSs (X.tr pn xe) body (tb W))
    (hh : ClOk X (h₀ :: hds) l) : PS X (.Try body (h₀ :: hds) [] [] pos) (fun D σ H => tb (wCl X.K Wout D l) D σ H) := by
  refine ⟨fun pins s σ H D I h => ?_⟩
  have ok := I.ok
  have fr1 : X.A.frames = some (X.env :: X.outer) := ok.frames.trans (congrArg some hs)
  refine wpAny_Try_except ?_
  -- what the body's error meets: the frame's note, then the clauses
  let meets : Value → Shared → Prop := fun e s₁ => wpAny (model X.prog X.w) X.A (noteFrame e X.env) (fun _ s₂ => wpAny (model X.prog X.w) X.A (setFlight e none) (fun _ s₃ => wpAny (model X.prog X.w) X.A (handleBy e X.env (h₀ :: hds)) (SP X pins D) X.xe s₃) X.xe s₂) X.xe s₁
  have caught : ∀ u s', XE (X.tr (X.pn ++ pins) meets) (wCl X.K Wout D l) u s' → meets u s' := by
    intro u s' xx
    obtain ⟨a, B, sI, pins', σ', H', cls, d, rfl, J', nb, up, sky, na, os, ag, w⟩ := xx
    have J : Inv X pins σ' H' sI := J'.ofTry ok
    refine Sky.land Zc.steady fr1 hf (L := X.env.locals) (by rw [← hs]; exact sky) fun h3 fl3 up3 => ?_
    have J3 : Inv X pins σ' H' { s' with heap := h3 } := J.landed nb fl3.1 (up.trans up3) os ag
    obtain ⟨oe3, vs3, he3, hz3, hd3⟩ := fl3.there
    have out : a ∉ frs (X.env :: X.outer) := fun hm => by
      obtain ⟨_, o', e', hnf⟩ := fl3.2.2.1.mem hm
      rw [he3] at e'; cases e'
      exact hnf _ hd3
    have nL : a ≠ X.env.locals := fun z => out (List.mem_filterMap.mpr ⟨X.env, .head _, by rw [hf, z]⟩)
    have nF : a ∉ X.fs := fun hm => by
      obtain ⟨e, he, q⟩ := List.mem_filterMap.mp hm
      exact out (List.mem_filterMap.mpr ⟨e, .tail _ he, q⟩)
    have S3 := J3.suite he3 hd3 na nL nF
    have LT : PySem.W.Looks (model X.prog X.w) h3 (typeOf (.ref a)) cls := fun A Q E s k q => wpAny_typeOf_ref (k _ _ he3) (by rw [hz3.1]; exact q)
    have test : ∀ {x : Str} {np : Pos} {c : Value} {Q : Value → Shared → Prop} {E : Value → Shared → Prop}, Names X x c → Q c { s' with heap := h3 } → wpAny (model X.prog X.w) (X.A.mark (some (.ref a))) (eval (.Name x np) X.env) Q E { s' with heap := h3 } := by
      intro x np c Q E hc q
      obtain ⟨hg, hdbg, hm | ⟨hm, hv, hnn⟩⟩ := hc
      · exact ld_glob (X := X.suite a ((a, oe3) :: (X.pn ++ pins))) S3 hg hm q hdbg
      · exact ld_blt (X := X.suite a ((a, oe3) :: (X.pn ++ pins))) S3 hg hm hv q hnn hdbg
    -- the clauses one after the other
    have go : ∀ (hs1 : List ExceptHandler) (l1 : List Clause), ClOk X hs1 l1 → wCl X.K Wout D l1 cls d σ' H' → wpAny (model X.prog X.w) X.A (handleBy (.ref a) X.env hs1) (SP X pins D) X.xe { s' with heap := h3 } := by
      intro hs1 l1 hk
      induction hk with
      | nil =>
        intro w
        refine wpAny_handleBy_nil ?_
        have again := fl3
        obtain ⟨_, _, _, oe, fvs, T, oT, ts', he, hz, hd, h1, hr⟩ := again
        unfold PySem.passOn
        refine wpAny_bind (wpAny_field he hd h1 ?_)
        rw [if_neg (show ¬ ((Value.ref T == Value.none) = true) from by simp)]
        have onward : wpAny (model X.prog X.w) X.A (setFlight (.ref a) X.env.frame) (fun _ s4 => wpAny (model X.prog X.w) X.A (throw (.ref a) : Sem Flow) (SP X pins D) X.xe s4) X.xe { s' with heap := h3 } := by
          rw [hf]
          exact HandSPX.setFlight_upZ fl3 fun h4 hh4 up4 => wpAny_throw (tk _ _ ⟨a, B, sI, pins, σ', H', cls, d, rfl, J, nb, (up.trans up3).trans up4, .inr (.inr (by rw [hs]; exact hh4)), na, os, ag, w⟩)
        first
          | exact wpAny_bind (wpAny_pure (wpAny_bind onward))
          | exact wpAny_bind onward
      | bare hc hsu r ih =>
        rintro ⟨b, hb1, yes, no⟩
        refine wpAny_handleBy_cons (codeAny_handlers_test ?_) (by intro q; cases q)
        refine test hc ((PySem.W.exm_one (M := model X.prog X.w) J3.kIn LT hb1).here ?_)
        cases b with
        | false => exact ih (no rfl)
        | true =>
          refine codeAny_handlers_suite (HandSPX.lands_againZ fl3 fun h4 fl4 up4 => ?_)
          obtain ⟨oe4, vs4, he4, hz4, hd4⟩ := fl4.there
          have S4 := (show Inv X pins σ' H' { s' with heap := h4 } from J.landed nb fl4.1 ((up.trans up3).trans up4) os ag).suite he4 hd4 na nL nF
          refine wpAny_mono ((hsu a oe4 cls d (X.pn ++ pins) hz4 ⟨_, hd4⟩).run [] _ _ H' _ S4 (yes rfl a na)) (fun f s6 hsp => ?_) (fun _ _ z => False.elim z)
          cases f with
          | ret u => obtain ⟨v6, σ6, H6, S6, r6, q6⟩ := hsp; exact ⟨_, _, _, S6.unsuite ok, r6, q6⟩
          | next => obtain ⟨σ6, H6, S6, q6⟩ := hsp; exact ⟨_, _, S6.unsuite ok, q6⟩
          | brk => obtain ⟨σ6, H6, S6, q6⟩ := hsp; exact ⟨_, _, S6.unsuite ok, q6⟩
          | cont => obtain ⟨σ6, H6, S6, q6⟩ := hsp; exact ⟨_, _, S6.unsuite ok, q6⟩
      | @held _ n i _ _ _ _ _ _ _ _ hi hln hc hsu r ih =>
        rintro ⟨b, hb1, yes, no⟩
        refine wpAny_handleBy_cons (codeAny_handlers_test ?_) (by intro q; cases q)
        refine test hc ((PySem.W.exm_one (M := model X.prog X.w) J3.kIn LT hb1).here ?_)
        cases b with
        | false => exact ih (no rfl)
        | true =>
          refine codeAny_handlers_suite_as (HandSPX.lands_againZ fl3 fun h4 fl4 up4 => ?_)
          obtain ⟨oe4, vs4, he4, hz4, hd4⟩ := fl4.there
          have S4 := (show Inv X pins σ' H' { s' with heap := h4 } from J.landed nb fl4.1 ((up.trans up3).trans up4) os ag).suite he4 hd4 na nL nF
          refine store_ok (X := X.suite a ((a, oe4) :: (X.pn ++ pins))) (v := .ref a) S4 hN hi (.inl hln) rfl (fun s5 S5 => ?_) (.inr hln)
          refine wpAny_mono ((hsu a oe4 cls d (X.pn ++ pins) hz4 ⟨_, hd4⟩).run [] s5 _ H' _ S5 (yes rfl a na)) (fun f s6 hsp => ?_) (fun _ _ z => False.elim z)
          have leave : ∀ {σ6 : L2.St} {H6 : Hp} {Q : Shared → Prop} {p : Pos}, Inv (X.suite a ((a, oe4) :: (X.pn ++ pins))) [] σ6 H6 s6 → (∀ s7, Inv X pins (σ6.set i none) H6 s7 → Q s7) →
              wpAny (model X.prog X.w) X.A (do bindName X.env n .none; unbindBehindTheSuite X.env n p) (fun _ s7 => Q s7) X.xe s6 := fun S6 hq => gone_ok (S6.unsuite ok) hN hi hln hq
          cases f with
          | ret u => obtain ⟨v6, σ6, H6, S6, r6, q6⟩ := hsp; exact leave S6 fun s7 J7 => ⟨_, _, _, J7, r6, q6⟩
          | next => obtain ⟨σ6, H6, S6, q6⟩ := hsp; exact leave S6 fun s7 J7 => ⟨_, _, J7, q6⟩
          | brk => obtain ⟨σ6, H6, S6, q6⟩ := hsp; exact leave S6 fun s7 J7 => ⟨_, _, J7, q6⟩
          | cont => obtain ⟨σ6, H6, S6, q6⟩ := hsp; exact leave S6 fun s7 J7 => ⟨_, _, J7, q6⟩
    exact go _ _ hh w
  refine wpAny_mono ((hb (wCl X.K Wout D l) (X.pn ++ pins) meets caught PassesOwn.looking).run [] s σ H D (I.toTry _) h) (fun f s1 hsp => ?_) (fun e s1 he => he)
  cases f with
  | next => obtain ⟨σ', H', J', q⟩ := hsp; exact wpAny_execs_nil ⟨σ', H', J'.ofTry ok, q⟩
  | brk => obtain ⟨σ', H', J', q⟩ := hsp; exact ⟨σ', H', J'.ofTry ok, q⟩
  | cont => obtain ⟨σ', H', J', q⟩ := hsp; exact ⟨σ', H', J'.ofTry ok, q⟩
  | ret u => obtain ⟨v, σ', H', J', r, q⟩ := hsp; exact ⟨v, σ', H', J'.ofTry ok, r, q⟩
end
end LR

set_option Elab.async false
set_option maxRecDepth 100000
set_option linter.all false
set_option maxHeartbeats 4000000
namespace LR
open PySem PySem.Spec PyProof.Rows L2
/-! ## f-strings of which nothing is told -/
section
variable {σ : L2.St} {H : Hp} {ts : List TE} {acc a : Str} {n i : Nat} {v : Int} {Q : Str → Hp → Prop}
theorem js_c (hn : n ≤ 100000) (hacc : acc.length ≤ n) (ha : a.length ≤ 1000) (k : ∀ acc' : Str, acc'.length ≤ n + 1000 → tJs ts acc' σ H Q) : tJs (tC (.str a) :: ts) acc σ H Q := by
  have hl : (acc ++ a).length ≤ n + 1000 := by rw [Str.length_append]; omega
  exact ⟨a, rfl, Nat.le_trans hl (by rw [sizeLine_eq]; omega), k _ hl⟩
theorem js_v {te : TE} (hn : n ≤ 100000) (hacc : acc.length ≤ n) (hv : v.natAbs.log2 < 1920) (he : ∀ Q : VK, Q (.int v) H → te σ H Q) (k : ∀ acc' : Str, acc'.length ≤ n + 1921 → tJs ts acc' σ H Q) : tJs (tFmt te :: ts) acc σ H Q := by
  have hy := PyProof.Rows.int_text_len_1921 hv
  have hl : (acc ++ Str.ofString (toString v)).length ≤ n + 1921 := by rw [Str.length_append]; omega
  refine he _ (.inr ⟨v, rfl, hv, Str.ofString (toString v), rfl, Nat.le_trans hl (by rw [sizeLine_eq]; omega), k _ hl⟩)
end
theorem log_small {v : Int} (h : v.natAbs < 2 ^ 1900) : v.natAbs.log2 < 1920 := by
  by_cases c : v.natAbs = 0
  · rw [c]; decide
  · exact Nat.lt_of_lt_of_le ((Nat.log2_lt c).mpr h) (by decide)
/-! ## an error class of the program with one field, made by its own __init__ -/
structure ErrIn (prog : Program) (K : PySem.W.Frag) (mg : Str → Option Value) (x : Str) (C : Addr) (qual : Str) (st : Stmt) (fld : Str) : Prop where
  gC : mg x = some (.ref C)
  T : OexC K C
  E : ErrC K C
  X : XfC K C
  no : PySem.W.findIn K (.ref C) fld = some none
  ini : ∃ (f cc cda : Addr) (fd : FuncData), PySem.W.findIn K (.ref C) "__init__" = some (some (.ref f)) ∧ PySem.W.typeIn K (.ref f) = some (.type "function") ∧ SupIn prog K mg f cc cda C fd "self" ∧ Binds K fd ["self", fld] [] ∧
    ∃ (oc : Value) (od an : Option Addr) (kV doc pm ct : Value) (osl : Array (Option Value)), fd = PySem.W.ksFn "__init__" qual (defArgs st) (defBody st) (defScope st) .none kV doc pm an (.ref cda) ct cc ∧ K.lookup f = some ⟨oc, od, .func fd, osl⟩ ∧ PySem.W.codeIn K (.ref cda) qual = true
  sm : PySem.W.ks_superIn K C C "__init__" = some (some (.builtin "ValueError.__init__"))
  mr : PySem.W.mroIn K C (.ref C) = some true
  sv : PySem.W.subIn K (.ref C) (.type "ValueError") = some true
/-- what its __init__ does -/
def spErr (C : Addr) (fld : Str) : Sp := fun vs H Q _ => ∃ (a : Addr) (v : Int), vs = [.ref a, .int v] ∧ H a = some (exo a C none) ∧ v.natAbs < 2 ^ 1900 ∧ ∀ dx, H dx = none → dx ≠ a → Q .non (upd (upd H dx (exd dx [(fld, .int v)])) a (exo a C (some dx)))
/-- such a class, ready to be raised -/
structure ErrOk (P : Program) (w : World) (K : PySem.W.Frag) (mg : Str → Option Value) (base : Heap) (x : Str) (C : Addr) (fld : Str) : Prop where
  gC : mg x = some (.ref C)
  T : OexC K C
  fn : ∃ (f : Addr) (fd : FuncData), PySem.W.findIn K (.ref C) "__init__" = some (some (.ref f)) ∧ PySem.W.typeIn K (.ref f) = some (.type "function") ∧ FnOk P w K mg base CX0 1 f fd ["self", fld] (spErr C fld) ∧ Binds K fd ["self", fld] []
section
variable {P : Program} {w : World} {K : PySem.W.Frag} {mg : Str → Option Value} {base : Heap}
theorem ErrIn.ok {x qual : Str} {C : Addr} {st : Stmt} {fld : Str} {N : List Str} (D : ErrIn P K mg x C qual st fld) (S : CScope N ["self", fld] (defScope st))
    (hbody : ∀ (f cc cda : Addr) (fd : FuncData) (A : Around) (outer : List Env) (s : Shared) (H : Hp) (vs : List V) (Q : VK) (E : XK), SupIn P K mg f cc cda C fd "self" → Room 0 (A.deeper (PySem.W.ksEnv qual (defScope st) s.heap.objs.size f (.ref cda) cc)) → spErr C fld vs H Q E →
      ∃ t, NSs (cxC CX0 P w K mg base N qual (defScope st) f (.ref cda) cc A outer s H E) (defBody st) (defBody st) t ∧ t { nx := fun _ H' => Q .non H', rt := Q } (L2.start N vs) H) : ErrOk P w K mg base x C fld := by
  obtain ⟨f, cc, cda, fd, i1, i2, S1, b, oc, od, an, kV, doc, pm, ct, osl, rfl, lk, hcd⟩ := D.ini
  obtain ⟨cl, cld, csl, hcell⟩ := S1.cell
  refine ⟨D.gC, D.T, f, _, i1, i2, fn_ofC lk hcell hcd S (fun vs H Q E h => ?_) (fun A outer s H vs Q E hr h => hbody f cc cda _ A outer s H vs Q E S1 hr h), b⟩
  obtain ⟨a, v, rfl, _⟩ := h; rfl
end
section
variable {X : Cx} {C : Addr} {x fld : Str} {e : Expr} {es : List Expr} {p pos pos2 : Pos} {ta : TA} {k : Nat}
/-- C(v): the error is made, its dict d holds the field -/
def tMkE (C : Addr) (fld : Str) (ta : TA) : L2.St → Hp → XK → Prop := tMkO C (spErr C fld) [] ta
theorem pmk_err (D : ErrOk X.prog X.w X.K X.mg X.base x C fld) (hr : Room k X.A) (hk : 2 ≤ k) (ha : PA X (e :: es) ta) (hg : Gl X x) (hdb : (x == ("__debug__" : Str)) = false := by decide)
    (he : starEach (e :: es) X.env = (false, eval e X.env) :: starEach es X.env := by rfl) (hpl : (backTo pos (starEach es X.env)).any (·.1) = false := by rfl) : PMk X (.Call (.Name x p) (e :: es) [] pos) (tMkE C fld ta) := by
  obtain ⟨f, fd, i1, i2, F, b⟩ := D.fn
  exact pmk_oex D.T i1 i2 F (hr.mono hk) b .nil pass0 hg D.gC ha hdb he hpl
/-- what a made error asks -/
theorem mkE {C : Addr} {fld : Str} {v : Int} {H : Hp} {Q : XK} (hv : v.natAbs < 2 ^ 1900) (h : ∀ d, H d = none → Q (.ref C) (some d) (upd H d (.xd [(fld, .int v)]))) :
    ([V.int v] : List V).length ≤ 1000 ∧ ∀ a, H a = none → spErr C fld (.ref a :: ([V.int v] ++ [])) (upd H a (exo a C none))
      (fun v' H2 => v' = .non ∧ ∃ (d : Addr) (fs : List (Str × V)), H2 a = some (exo a C (some d)) ∧ H2 d = some (exd d fs) ∧ H d = none ∧ Q (.ref C) (some d) (upd (L2.del H2 a) d (.xd fs))) (fun _ _ _ => False) := by
  refine ⟨by show 1 ≤ 1000; decide, fun a ha => ⟨a, v, rfl, upd_same, hv, fun dx h1 h2 => ⟨rfl, dx, [(fld, .int v)], upd_same, ?_, ?_, ?_⟩⟩⟩
  · rw [upd_ne h2, upd_same]
  · rw [upd_ne h2] at h1; exact h1
  · have hd : H dx = none := by rw [upd_ne h2] at h1; exact h1
    have e : upd (L2.del (upd (upd (upd H a (exo a C none)) dx (exd dx [(fld, .int v)])) a (exo a C (some dx))) a) dx (.xd [(fld, .int v)]) = upd H dx (.xd [(fld, .int v)]) := by
      funext b
      by_cases c1 : b = dx
      · rw [c1, upd_same, upd_same]
      · rw [upd_ne c1, upd_ne c1]
        by_cases c2 : b = a
        · rw [c2, del_same, ha]
        · rw [del_ne c2, upd_ne c2, upd_ne c1, upd_ne c2]
    rw [e]
    exact h dx hd
end
end LR

set_option Elab.async false
set_option maxRecDepth 100000
set_option linter.all false
set_option maxHeartbeats 4000000
namespace LR
open PySem PySem.Spec PyProof.Rows L2
/-! ## defs, methods, classes whose calls may raise -/
structure CalX (P : Program) (w : World) (K : PySem.W.Frag) (mg : Str → Option Value) (base : Heap) (k : Nat) (x : Str) (sp : Sp) : Prop where
  ex : ∃ (f : Addr) (fd : FuncData) (ps : List Str), FnOk P w K mg base (L2.CX P w) k f fd ps sp ∧ mg x = some (.ref f) ∧ PySem.W.keepIn K (.ref f) = true ∧ Binds K fd ps []
structure MetX (P : Program) (w : World) (K : PySem.W.Frag) (mg : Str → Option Value) (base : Heap) (k : Nat) (C : Addr) (m : Str) (sp : Sp) : Prop where
  ex : ∃ (f : Addr) (fd : FuncData) (ps : List Str), Cls K C ∧ Meth K C m f ∧ FnOk P w K mg base (L2.CX P w) k f fd ps sp ∧ Binds K fd ps []
structure MakX (P : Program) (w : World) (K : PySem.W.Frag) (mg : Str → Option Value) (base : Heap) (k : Nat) (x : Str) (C : Addr) (sp : Sp) : Prop where
  ex : ∃ (f : Addr) (fd : FuncData) (ps : List Str), Mk K C f ∧ FnOk P w K mg base (L2.CX P w) k f fd ps sp ∧ mg x = some (.ref C) ∧ Binds K fd ps []
def tCallT (sp : Sp) (W : WX) (t : TA) : TE := fun σ H Q => t σ H fun vs H1 => sp vs H1 Q (WE W σ)
def tMethT (C : Addr) (m : Str) (sp : Sp) (W : WX) (ta : TE) (t : TA) : TE := fun σ H Q => ta σ H fun x H1 => ∃ a dx fs, x = .ref a ∧ H1 a = some (.ins C dx fs) ∧ fs.lookup m = none ∧ t σ H1 fun vs H2 => sp (x :: vs) H2 Q (WE W σ)
def tMakeT (C : Addr) (sp : Sp) (W : WX) (t : TA) : TE := fun σ H Q => t σ H fun vs H1 => ∀ x dx, H1 x = none → H1 dx = none → dx ≠ x → sp (.ref x :: vs) (upd (upd H1 dx (.own x)) x (.ins C dx [])) (fun v H2 => v = .non ∧ Q (.ref x) H2) (WE W σ)
section
variable {X : Cx} {k j : Nat} {C : Addr} {x m : Str} {sp : Sp} {W : WX} {p pos apos : Pos} {e o : Expr} {es : List Expr} {ta : TE} {t : TA}
theorem pe_cT (c : CalX X.prog X.w X.K X.mg X.base k x sp) (hr : Room j X.A) (hk : k ≤ j) (tk : Takes X W) (hg : Gl X x) (ha : PA X (e :: es) t)
    (hdb : (x == ("__debug__" : Str)) = false := by decide) (he : starEach (e :: es) X.env = (false, eval e X.env) :: starEach es X.env := by rfl) (hpl : (backTo pos (starEach es X.env)).any (·.1) = false := by rfl) :
    PE X (.Call (.Name x p) (e :: es) [] pos) (tCallT sp W t) := by
  obtain ⟨f, fd, ps, F, hm, kp, b⟩ := c.ex
  exact pe_callS F (hr.mono hk) hg hm kp b (passAt tk) ha hdb he hpl
theorem pe_mtT {pl : Sem Bool} (c : MetX X.prog X.w X.K X.mg X.base k C m sp) (hr : Room j X.A) (hk : k ≤ j) (tk : Takes X W) (he : PE X o ta) (ha : PA X (e :: es) t)
    (hst : starEach (e :: es) X.env = (false, eval e X.env) :: starEach es X.env := by rfl) (hpl : (backTo pos (starEach es X.env)).any (·.1) = false := by rfl)
    (ht : eval (.Call (.Attribute o m apos) (e :: es) [] pos) X.env = (do
      let ov ← eval o X.env
      standAt apos.atName
      let (f, first) ← holding [ov] (getMethod ov m pl)
      callWith pos f first (backTo pos (starEach (e :: es) X.env)) (backToKw pos (keywordEach [] X.env))) := by rfl) :
    PE X (.Call (.Attribute o m apos) (e :: es) [] pos) (tMethT C m sp W ta t) := by
  obtain ⟨f, fd, ps, hc, hm, F, b⟩ := c.ex
  refine ⟨fun pins s σ H Q I h => PySem.W.methodCall_KW (pl := pl) (thn (he.run pins s σ H _ I h) fun u s1 hh => ?_) ht⟩
  obtain ⟨y, H1, I1, ry, a, dx, fs, rfl, ea, l, q⟩ := hh
  cases (show u = Value.ref a from ry)
  refine getmeth_ok I1 ea hc hm l (PySem.W.callWith_K (first := [.ref a]) (h₀ := X.base) I.ok.mod.kin hm.kp (thn (ha.run pos pins s1 σ H1 _ I1 q) fun us s2 h2 => ?_) hst hpl)
  obtain ⟨vs, H2, I2, r, q2⟩ := h2
  exact ⟨I2.kIn, run_fnS (E := WE W) F (hr.mono hk) b (passAt tk σ) I2 (.cons (show RelV (V.ref a) (.ref a) from rfl) r) q2⟩
theorem pe_mt0T {pl : Sem Bool} (c : MetX X.prog X.w X.K X.mg X.base k C m sp) (hr : Room j X.A) (hk : k ≤ j) (tk : Takes X W) (he : PE X o ta)
    (ht : eval (.Call (.Attribute o m apos) [] [] pos) X.env = (do
      let ov ← eval o X.env
      standAt apos.atName
      let (f, first) ← holding [ov] (getMethod ov m pl)
      callWith pos f first (backTo pos (starEach [] X.env)) (backToKw pos (keywordEach [] X.env))) := by rfl) :
    PE X (.Call (.Attribute o m apos) [] [] pos) (tMethT C m sp W ta tNil) := by
  obtain ⟨f, fd, ps, hc, hm, F, b⟩ := c.ex
  refine ⟨fun pins s σ H Q I h => PySem.W.methodCall_KW (pl := pl) (thn (he.run pins s σ H _ I h) fun u s1 hh => ?_) ht⟩
  obtain ⟨y, H1, I1, ry, a, dx, fs, rfl, ea, l, q⟩ := hh
  cases (show u = Value.ref a from ry)
  exact getmeth_ok I1 ea hc hm l (PySem.W.callWith_K0 (first := [.ref a]) I1.kIn hm.kp (run_fnS (E := WE W) (us := [.ref a]) F (hr.mono hk) b (passAt tk σ) I1 (.cons (show RelV (V.ref a) (.ref a) from rfl) .nil) q))
theorem run_mkT {pins : List (Addr × Obj)} {σ : L2.St} {H : Hp} {s : Shared} {Q : VK} {us : List Value} {vs : List V} {f : Addr} {fd : FuncData} {ps : List Str} (M : Mk X.K C f) (F : FnOk X.prog X.w X.K X.mg X.base (L2.CX X.prog X.w) k f fd ps sp) (hr : Room (k + 1) X.A) (b : Binds X.K fd ps []) (tk : Takes X W)
    (I : Inv X pins σ H s) (r : Vals vs us)
    (h : ∀ x dx, H x = none → H dx = none → dx ≠ x → sp (.ref x :: vs) (upd (upd H dx (.own x)) x (.ins C dx [])) (fun v H2 => v = .non ∧ Q (.ref x) H2) (WE W σ)) :
    wpAny (model X.prog X.w) X.A (call (.ref C) us) (EP X pins σ Q) X.xe s := by
  have hq := h (s.heap.objs.size + 1) s.heap.objs.size (I.hok.fresh (Nat.le_succ _)) (I.hok.fresh (Nat.le_refl _)) (Nat.ne_of_lt (Nat.lt_succ_self _))
  have J := Inv.made (C := C) I
  have r2 : Vals (V.ref (s.heap.objs.size + 1) :: vs) (Value.ref (s.heap.objs.size + 1) :: us) := .cons rfl r
  have hl := r2.length.symm.trans (F.len _ _ _ _ hq)
  have bb := b _ _ J.kIn (by rw [List.append_nil]; exact hl)
  rw [List.append_nil] at bb
  refine wpAny_call (make_map (f := f) I.kIn M.makes M.init (beq_iff_eq.mp M.fn) (codeAny_mono (F.run _ X.stack _ _ _ _ _ _ (WE W σ) (hr.make C us []) (J.env0.make C us []) bb r2 hq) fun rr s' hq' => ?_))
  cases rr with
  | error e => exact passAt tk σ pins _ _ e s' J hq'
  | ok fl =>
    cases fl with
    | ret u =>
      obtain ⟨v, H', I3, rv, ev, q3⟩ := J.after hq'
      subst ev
      exact ⟨rv, V.ref (s.heap.objs.size + 1), H', I3, rfl, q3⟩
    | next => exact hq'.elim
    | brk => exact hq'.elim
    | cont => exact hq'.elim
theorem pe_mkT (c : MakX X.prog X.w X.K X.mg X.base k x C sp) (hr : Room j X.A) (hk : k + 1 ≤ j) (tk : Takes X W) (hg : Gl X x) (ha : PA X (e :: es) t)
    (hdb : (x == ("__debug__" : Str)) = false := by decide) (he : starEach (e :: es) X.env = (false, eval e X.env) :: starEach es X.env := by rfl) (hpl : (backTo pos (starEach es X.env)).any (·.1) = false := by rfl) :
    PE X (.Call (.Name x p) (e :: es) [] pos) (tMakeT C sp W t) := by
  obtain ⟨f, fd, ps, M, F, hm, b⟩ := c.ex
  refine ⟨fun pins s σ H Q I h => wpAny_Call_Name_kw (ld_glob I hg hm ?_ hdb)⟩
  refine PySem.W.callWith_K (h₀ := X.base) I.ok.mod.kin M.kp (thn (ha.run pos pins s σ H _ I h) fun us s1 hh => ?_) he hpl
  obtain ⟨vs, H1, I1, r, q⟩ := hh
  exact ⟨I1.kIn, run_mkT M F (hr.mono hk) b tk I1 r q⟩
end
section
variable {P : Program} {w : World} {K : PySem.W.Frag} {mg : Str → Option Value} {base : Heap}
theorem DefIn.calX {x : Str} {st : Stmt} {N ps : List Str} {k : Nat} {sp : Sp} (D : DefIn K mg x st ps) (S : FnScope N ps (defScope st)) (len : ∀ vs H Q E, sp vs H Q E → vs.length = ps.length)
    (hbody : ∀ (f : Addr) (cdv : Value) (A : Around) (outer : List Env) (s : Shared) (H : Hp) (vs : List V) (Q : VK) (E : XK), Room k (A.deeper (envOfC x (defScope st) s.heap.objs.size f cdv)) → sp vs H Q E →
      ∃ t, PSs (cxOf (L2.CX P w) P w K mg base N x (defScope st) f cdv A outer s H E) (defBody st) t ∧ t { nx := fun _ H' => Q .non H', rt := Q } (L2.start N vs) H) : CalX P w K mg base (k + 1) x sp := by
  obtain ⟨f, fd, F, hm, b⟩ := D.ex
  exact ⟨f, fd, ps, F.okX S len (hbody f), hm, F.kp, b⟩
theorem MetIn.metX {C : Addr} {m qual : Str} {st : Stmt} {N ps : List Str} {k : Nat} {sp : Sp} (c : Cls K C) (D : MetIn K C m qual st ps) (S : FnScope N ps (defScope st)) (len : ∀ vs H Q E, sp vs H Q E → vs.length = ps.length)
    (hbody : ∀ (f : Addr) (cdv : Value) (A : Around) (outer : List Env) (s : Shared) (H : Hp) (vs : List V) (Q : VK) (E : XK), Room k (A.deeper (envOfC qual (defScope st) s.heap.objs.size f cdv)) → sp vs H Q E →
      ∃ t, PSs (cxOf (L2.CX P w) P w K mg base N qual (defScope st) f cdv A outer s H E) (defBody st) t ∧ t { nx := fun _ H' => Q .non H', rt := Q } (L2.start N vs) H) : MetX P w K mg base (k + 1) C m sp := by
  obtain ⟨f, fd, F, hm, b⟩ := D.ex
  exact ⟨f, fd, ps, c, hm, F.okX S len (hbody f), b⟩
theorem MakIn.makX {C : Addr} {x qual : Str} {st : Stmt} {N ps : List Str} {k : Nat} {sp : Sp} (D : MakIn K mg x C qual st ps) (S : FnScope N ps (defScope st)) (len : ∀ vs H Q E, sp vs H Q E → vs.length = ps.length)
    (hbody : ∀ (f : Addr) (cdv : Value) (A : Around) (outer : List Env) (s : Shared) (H : Hp) (vs : List V) (Q : VK) (E : XK), Room k (A.deeper (envOfC qual (defScope st) s.heap.objs.size f cdv)) → sp vs H Q E →
      ∃ t, PSs (cxOf (L2.CX P w) P w K mg base N qual (defScope st) f cdv A outer s H E) (defBody st) t ∧ t { nx := fun _ H' => Q .non H', rt := Q } (L2.start N vs) H) : MakX P w K mg base (k + 1) x C sp := by
  obtain ⟨f, fd, F, M, hm, b⟩ := D.ex
  exact ⟨f, fd, ps, M, F.okX S len (hbody f), hm, b⟩
end
end LR

set_option Elab.async false
set_option maxRecDepth 100000
set_option linter.all false
set_option maxHeartbeats 4000000
namespace LR
open PySem PySem.Spec PyProof.Rows L2
/-! ## enumerate over a tuple -/
set_option maxHeartbeats 1000000 in
theorem meets_enum1 {v : Value} {o : Obj} {H : Heap → Prop} (B : Begins v o H) :
    Meets (Builtin.«enumerate.__new__» ⟨[.type "enumerate", v], []⟩) (fun _ R s => H s.heap ∧
      R (.ok (.ret (.ref (s.heap.push o).objs.size))) { s with heap := (s.heap.push o).push { cls := .type "enumerate", data := .fields #[.none, .bool false, .ref s.heap.objs.size, rawInt 0, .none, .none] } }) :=
  .of_wp fun prog w A R s h => by
    obtain ⟨hp, g, d, tk, os⟩ := s; obtain ⟨h1, h⟩ := h
    have hsub := sub_enumerate
    have q1 : ∀ {A' : Around} {E : Value → Shared → Prop} {Q : Value → Shared → Prop}, Q (.ref hp.objs.size) ⟨hp.push o, g, d, tk, os⟩ → wpAny (model prog w) A' (pyIter v) Q E ⟨hp, g, d, tk, os⟩ :=
      fun q => B.iter prog w _ _ ⟨hp, g, d, tk, os⟩ _ h1 q
    wp_walk using q1
    refine wpAny_stack_any fun st => wpAny_pure ?_
    split
    · rename_i c _ _ _ _ _
      cases (c == Value.type "enumerate")
      · wp_walk using q1
        exact ⟨_, rfl, h⟩
      · wp_walk using q1
        exact ⟨_, rfl, h⟩
    · wp_walk using q1
      exact ⟨_, rfl, h⟩
theorem enum_new1 {prog : Program} {w : World} {A : Around} {E : Value → Shared → Prop} {s : Shared} {v : Value} {o : Obj} {H : Heap → Prop} {Q : Value → Shared → Prop} (B : Begins v o H) (h1 : H s.heap)
    (h : ∀ h', IsEnum h' (s.heap.objs.size + 1) s.heap.objs.size 0 .none → h'.get? s.heap.objs.size = some o → h'.objs.size = s.heap.objs.size + 2 →
      (∀ b o, s.heap.get? b = some o → h'.get? b = some o) → Q (.ref (s.heap.objs.size + 1)) { s with heap := h' }) :
    wpAny (model prog w) A (call (.type "enumerate") [v]) Q E s := by
  refine callType_new F.called_enumerate (by decide) (F.typeCall_enumerate_1 _) (F.newCall_enumerate_1 _) (fun obj => F.args_object_init_2 obj _) F.entry_enumerate_new
    (meets_enum1 B) ⟨h1, ?_⟩
  have hz : (s.heap.push o).objs.size = s.heap.objs.size + 1 := Heap.size_push ..
  show _ ∧ _
  rw [hz]
  have he : IsEnum ((s.heap.push o).push { cls := .type "enumerate", data := .fields #[.none, .bool false, .ref s.heap.objs.size, rawInt 0, .none, .none] }) (s.heap.objs.size + 1) s.heap.objs.size 0 .none := by
    have := Heap.get?_push_size (s.heap.push o) (o := { cls := .type "enumerate", data := .fields #[.none, .bool false, .ref s.heap.objs.size, rawInt 0, .none, .none] }) rfl
    rw [hz] at this; exact this
  refine ⟨⟨_, he, rfl⟩, h _ he (Heap.get?_push_of_some _ (Heap.get?_push_size _ B.free)) (by rw [Heap.size_push, hz]) fun b o x => Heap.get?_push_of_some _ (Heap.get?_push_of_some _ x)⟩
/-- the tuple at a as it stands at each turn, the items in new pairs -/
def IteT (K : PySem.W.Frag) (a : Addr) : It :=
  ⟨fun i H => ∃ (xs : List V) (x : V), SqT K H a xs ∧ xs[i]? = some x, fun i H v H' => ∃ T x, v = .ref T ∧ H T = none ∧ H' = upd H T (.tup [.int (i : Nat), x]) ∧ ∀ xs, SqT K H a xs → xs[i]? = some x, fun i H => ∃ xs : List V, SqT K H a xs ∧ xs.length = i⟩
theorem turn_enumT {P : Program} {w : World} {K : PySem.W.Frag} {elts : List Expr} {kk : Nat} {tpos : Pos} (a e it : Addr) :
    Turn P w K (.Tuple elts kk tpos) (IteT K a) [e, it] e (fun i h => (∃ old, IsEnum h e it ((i : Nat) : Int) old) ∧ h.IsTupleIter it a i ∧ e ≠ it) where
  mem := by simp
  obj := fun i h st b hb => by
    obtain ⟨⟨old, he⟩, ⟨o, ho, hc, hd⟩, _⟩ := st
    have e' : b = e ∨ b = it := by simpa using hb
    rcases e' with z | z
    · rw [z]; exact ⟨_, he, fun v q => nomatch q⟩
    · rw [z]; exact ⟨o, ho, fun v q => by rw [hd] at q; cases q⟩
  keep := fun i h h' st k => let ⟨⟨old, he⟩, hi, hne⟩ := st; ⟨⟨old, k e (by simp) _ he⟩, hi.at fun o q => k it (by simp) o q, hne⟩
  item := by
    intro X hP hw hK hc i pins s σ H E I hf st hg
    subst hP hw hK
    obtain ⟨⟨old, he⟩, hit, hne⟩ := st
    obtain ⟨xs, x, hq, hx⟩ := hg
    obtain ⟨its, rv, p, hz⟩ := I.tuple hq
    obtain ⟨u, hu, ru⟩ := rv.get hx
    have hel : e < s.heap.objs.size := Heap.lt_size he
    have hil : it < s.heap.objs.size := by obtain ⟨_, q, _⟩ := hit; exact Heap.lt_size q
    have hT0 : s.heap.IsTuple a its.toArray := p
    have nea : a ≠ e := fun z => by
      obtain ⟨o, h1, h2, _⟩ := hT0
      rw [z, he] at h1; cases h1; injection h2 with q; exact absurd q (by decide)
    have nia : a ≠ it := fun z => by
      obtain ⟨o, h1, h2, _⟩ := hT0
      obtain ⟨o2, h3, h4, _⟩ := hit
      rw [z, h3] at h1; cases h1; rw [h4] at h2; injection h2 with q; exact absurd q (by decide)
    have D := Draws.tuple (prog := X.prog) (w := X.w) (A := X.A.in1) (I.ok.hd hc) it a nia its.toArray
    have hlt : i < its.toArray.size := by
      have := (List.getElem?_eq_some_iff.mp hu).1
      simpa using this
    refine wpAny_pyNext_enum_itemD D he ⟨hit, hT0⟩ hlt hne (by simp; exact ⟨hne, nea.symm⟩) fun x' h' tk hx' ho hst hT hsz hk => ?_
    have hx' : x' = u := by
      have : its.toArray[i]? = some u := by simpa using hu
      rw [this] at hx'; cases hx'; rfl
    subst hx'
    refine ⟨_, rfl, wpAny_letOwnedTupleGo_enum (s := { s with heap := h', toks := tk + 1 }) ho fun h'' he' sb => ?_⟩
    have hT2 : h''.get? s.heap.objs.size = some { cls := .type "tuple", data := .seq #[.int i tk, x'] } := (sb.2 _ (Nat.ne_of_gt hel)).trans hT
    have new : ObjOk X.prog X.w (upd H s.heap.objs.size (.tup [.int (i : Nat), x])) h'' s.heap.objs.size (.tup [.int (i : Nat), x]) :=
      ⟨by show 2 ≤ sizeLine; decide, [.int i tk, x'], .cons ⟨_, rfl⟩ (.cons ru .nil), ⟨_, hT2, rfl, _, rfl⟩⟩
    have I1 : Inv X pins σ (upd H s.heap.objs.size (.tup [.int (i : Nat), x])) { s with heap := h'', toks := tk + 1 } :=
      I.turnedNew (ch := [e, it]) (fun b ob hb q => (sb.2 b (fun z => hb (by simp [z]))).trans (hk b ob (fun z => hb (by simp [z])) (fun z => hb (by simp [z])) q)) hf (Nat.le_refl _) new
    refine ⟨.ref s.heap.objs.size, _, I1, rfl, ⟨_, x, rfl, I.hok.fresh (Nat.le_refl _), rfl, fun ys hy => by rw [I.tuple_inj hy hq]; exact hx⟩, ⟨⟨x', ?_⟩, hst.1.at fun o q => (sb.2 it (Ne.symm hne)).trans q, hne⟩, fun b hb => ?_⟩
    · have e1 : ((i + 1 : Nat) : Int) = (i : Int) + 1 := by omega
      rw [e1]; exact he'
    · have hb' : b < s.heap.objs.size := by
        have e' : b = e ∨ b = it := by simpa using hb
        rcases e' with z | z
        · rw [z]; exact hel
        · rw [z]; exact hil
      rw [upd_ne (Nat.ne_of_lt hb')]
      exact (hf b hb).1
  done := by
    intro X hP hw hK hc i pins s σ H E I hf st hg
    subst hP hw hK
    obtain ⟨⟨old, he⟩, hit, hne⟩ := st
    obtain ⟨xs, hq, hx⟩ := hg
    obtain ⟨its, rv, p, hz⟩ := I.tuple hq
    obtain ⟨f0, f1, f2, f3, f4, f5⟩ := hf it (by simp)
    have hl := rv.length
    have hT0 : s.heap.IsTuple a its.toArray := p
    have nia : a ≠ it := fun z => by
      obtain ⟨o, h1, h2, _⟩ := hT0
      obtain ⟨o2, h3, h4, _⟩ := hit
      rw [z, h3] at h1; cases h1; rw [h4] at h2; injection h2 with q; exact absurd q (by decide)
    have D := Draws.tuple (prog := X.prog) (w := X.w) (A := X.A.in1) (I.ok.hd hc) it a nia its.toArray
    have hn : its.toArray.size = i := by simp; omega
    exact wpAny_pyNext_enum_endD D he (by rw [hn]; exact ⟨hit, hT0⟩) fun h' eb => ⟨rfl, I.turned (t' := s.toks) (fun b o hb q => eb b o hb q) f0 f1 f3 f4 f5⟩
  self := fun A i s Q E st h => let ⟨⟨_, he⟩, _⟩ := st; wpAny_pyIter_enum he h
theorem walk_enumT {K : PySem.W.Frag} {a : Addr} {xs : List V} : Walk (IteT K a) xs.length (fun H => SqT K H a xs) (YPair (fun i => some (.int (i : Nat))) (fun i => xs[i]?)) := by
  refine ⟨fun i _ hi q => ⟨xs, xs[i], q, by simp [hi]⟩, fun _ q => ⟨xs, q, rfl⟩, fun i H v H' _ q y => ?_⟩
  obtain ⟨T, x, h1, h2, h3, h4⟩ := y
  exact ⟨T, .int (i : Nat), x, h1, h2, h3, rfl, h4 xs q⟩
/-- R of the iterator, kept whole -/
def RunIt (R : It → Hp → Prop) (J : It) (H : Hp) : Prop := R J H
def iEnumS (K : PySem.W.Frag) (ta : TA) : TI := fun σ H R => ta σ H fun vs H1 => ∃ a, vs = [.ref a] ∧ (((∃ xs, SqL K H1 a xs) ∧ RunIt R (Ite K a) H1) ∨ ((∃ xs, SqT K H1 a xs) ∧ RunIt R (IteT K a) H1))
theorem pi_enumS {X : Cx} {e : Expr} {ta : TA} {p pos tpos : Pos} {elts : List Expr} {kk : Nat} (hg : Gl X "enumerate") (hm : X.mg "enumerate" = none) (ha : PA X [e] ta) (hs : starEach [e] X.env = [(false, eval e X.env)] := by rfl) :
    PI X (.Tuple elts kk tpos) (.Call (.Name "enumerate" p) [e] [] pos) (iEnumS X.K ta) := by
  refine ⟨fun pins s σ H R I h => ?_⟩
  refine Call_ (ld_blt I hg hm boot_enumerate (PyProof.Rows.callWith_type1 (thn (ha.run pos pins s σ H _ I h) fun us s1 ⟨vs, H1, I1, r1, q1⟩ => ?_) hs rfl))
  obtain ⟨a, ex, q⟩ := q1
  subst ex
  cases r1 with
  | cons r rr =>
    cases rr
    cases r
    rcases q with ⟨⟨xs, hq⟩, q⟩ | ⟨⟨xs, hq⟩, q⟩
    · obtain ⟨its, rv, p', hz⟩ := I1.list hq
      refine call_enumerate_list p'.isList fun h' he hit hsz hk => wpAny_pyIter_enum he ?_
      have I2 : Inv X pins σ H1 { s1 with heap := h' } := I1.kept (t' := s1.toks) hk
      refine ⟨s1.heap.objs.size + 1, [s1.heap.objs.size + 1, s1.heap.objs.size], _, _, H1, rfl, I2, turn_enum a (s1.heap.objs.size + 1) s1.heap.objs.size, ⟨⟨.none, he⟩, hit, Nat.succ_ne_self _⟩, fun b hb => ?_, q⟩
      have e' : b = s1.heap.objs.size + 1 ∨ b = s1.heap.objs.size := by simpa using hb
      have hle : s1.heap.objs.size ≤ b := by
        rcases e' with z | z
        · rw [z]; exact Nat.le_add_right _ _
        · rw [z]; exact Nat.le_refl _
      exact I1.fpOk hle (I1.hok.fresh hle)
    · obtain ⟨its, rv, p', hz⟩ := I1.tuple hq
      refine enum_new1 (begins_tuple a its.toArray) (show s1.heap.IsTuple a its.toArray from p') fun h' he hit hsz hk => wpAny_pyIter_enum he ?_
      have I2 : Inv X pins σ H1 { s1 with heap := h' } := I1.kept (t' := s1.toks) hk
      refine ⟨s1.heap.objs.size + 1, [s1.heap.objs.size + 1, s1.heap.objs.size], _, _, H1, rfl, I2, turn_enumT a (s1.heap.objs.size + 1) s1.heap.objs.size, ⟨⟨.none, he⟩, ⟨_, hit, rfl, rfl⟩, Nat.succ_ne_self _⟩, fun b hb => ?_, q⟩
      have e' : b = s1.heap.objs.size + 1 ∨ b = s1.heap.objs.size := by simpa using hb
      have hle : s1.heap.objs.size ≤ b := by
        rcases e' with z | z
        · rw [z]; exact Nat.le_add_right _ _
        · rw [z]; exact Nat.le_refl _
      exact I1.fpOk hle (I1.hok.fresh hle)
/-! ## for over a list or a tuple -/
def iSeq (K : PySem.W.Frag) (tl : TE) : TI := fun σ H R => tl σ H fun x H1 => ∃ a, x = .ref a ∧ (((∃ xs, SqL K H1 a xs) ∧ RunIt R (Itl K a) H1) ∨ ((∃ xs, SqT K H1 a xs) ∧ RunIt R (Itt K a) H1))
theorem pi_seq {X : Cx} {tg l : Expr} {tl : TE} (hl : PE X l tl) : PI X tg l (iSeq X.K tl) := by
  refine ⟨fun pins s σ H R I h => ?_⟩
  refine thn (hl.run pins s σ H _ I h) fun v s1 ⟨x, H1, I1, r1, q1⟩ => ?_
  obtain ⟨a, e, q⟩ := q1
  subst e
  cases r1
  rcases q with ⟨⟨xs, hq⟩, q⟩ | ⟨⟨xs, hq⟩, q⟩
  · obtain ⟨its, rv, p, hz⟩ := I1.list hq
    refine wpAny_pyIter_list p.isList ?_
    refine ⟨s1.heap.objs.size, [s1.heap.objs.size], _, _, H1, rfl, I1.kept (t' := s1.toks) fun b o e => Heap.get?_push_of_some _ e, turn_list a _, ⟨_, Heap.get?_push_size _ rfl, rfl, rfl⟩, fun b hb => ?_, q⟩
    have e : b = s1.heap.objs.size := by simpa using hb
    subst e
    exact I1.fpOk (Nat.le_refl _) (I1.hok.fresh (Nat.le_refl _))
  · obtain ⟨its, rv, p, hz⟩ := I1.tuple hq
    refine wpAny_pyIter_tuple (show s1.heap.IsTuple a its.toArray from p) ?_
    refine ⟨s1.heap.objs.size, [s1.heap.objs.size], _, _, H1, rfl, I1.kept (t' := s1.toks) fun b o e => Heap.get?_push_of_some _ e, turn_tuple a _, ⟨_, Heap.get?_push_size _ rfl, rfl, rfl⟩, fun b hb => ?_, q⟩
    have e : b = s1.heap.objs.size := by simpa using hb
    subst e
    exact I1.fpOk (Nat.le_refl _) (I1.hok.fresh (Nat.le_refl _))
/-- a list or a tuple -/
def Sq (K : PySem.W.Frag) (H : Hp) (a : Addr) (xs : List V) : Prop := SqL K H a xs ∨ SqT K H a xs
theorem Sq.keep {K : PySem.W.Frag} {H H' : Hp} {a p : Addr} {xs : List V} (k : Keep p H H') (n : a ≠ p) (h : Sq K H a xs) : Sq K H' a xs := by
  rcases h with h | h
  · exact .inl (k.seq h n)
  · exact .inr (k.seqT h n)
theorem Sq.same {K : PySem.W.Frag} {H H' : Hp} {a : Addr} {xs : List V} (s : Same H H') (h : Sq K H a xs) : Sq K H' a xs :=
  h.keep (p := a + 1) (fun b _ o e => s b o e) (Nat.ne_of_lt (Nat.lt_succ_self a))
theorem seqT_after {K : PySem.W.Frag} {H H' : Hp} {a p : Addr} {xs : List V} (h : SqT K H a xs) (hp : H p = none) (k : Keep p H H') : SqT K H' a xs := by
  rcases h with (h | ⟨o, h⟩) | h
  · exact .inl (.inl (k _ (ne_of_none h hp) _ h))
  · exact .inl (.inr ⟨o, k _ (ne_of_none h hp) _ h⟩)
  · exact .inr h
theorem Sq.after {K : PySem.W.Frag} {H H' : Hp} {a p : Addr} {xs : List V} (h : Sq K H a xs) (hp : H p = none) (k : Keep p H H') : Sq K H' a xs := by
  rcases h with h | h
  · exact .inl (seq_after h hp k)
  · exact .inr (seqT_after h hp k)
/-- the walk over a list or a tuple, in one -/
theorem Sq.walk {K : PySem.W.Frag} {H0 H : Hp} {a : Addr} {xs : List V} {R : It → Hp → Prop} (h : Sq K H0 a xs) (s0 : Same H0 H) (k : ∀ (J : It) (G : Hp → Prop), Walk J xs.length G (YAt xs) → (∀ H', Same H0 H' → G H') → (∀ H' p, H0 p = none → Keep p H0 H' → G H') → R J H) :
    ((∃ xs, SqL K H a xs) ∧ RunIt R (Itl K a) H) ∨ ((∃ xs, SqT K H a xs) ∧ RunIt R (Itt K a) H) := by
  rcases h with h | h
  · exact .inl ⟨⟨_, s0.seq h⟩, k _ _ walk_list (fun H' s => s.seq h) fun H' p n q => seq_after h n q⟩
  · exact .inr ⟨⟨_, s0.seqT h⟩, k _ _ walk_tup (fun H' s => s.seqT h) fun H' p n q => seqT_after h n q⟩
theorem Sq.enum {K : PySem.W.Frag} {H0 H : Hp} {a : Addr} {xs : List V} {R : It → Hp → Prop} (h : Sq K H0 a xs) (s0 : Same H0 H) (k : ∀ (J : It) (G : Hp → Prop), Walk J xs.length G (YPair (fun i => some (.int (i : Nat))) (fun i => xs[i]?)) → (∀ H', Same H0 H' → G H') → (∀ H' p, H0 p = none → Keep p H0 H' → G H') → R J H) :
    ((∃ xs, SqL K H a xs) ∧ RunIt R (Ite K a) H) ∨ ((∃ xs, SqT K H a xs) ∧ RunIt R (IteT K a) H) := by
  rcases h with h | h
  · exact .inl ⟨⟨_, s0.seq h⟩, k _ _ walk_enum (fun H' s => s.seq h) fun H' p n q => seq_after h n q⟩
  · exact .inr ⟨⟨_, s0.seqT h⟩, k _ _ walk_enumT (fun H' s => s.seqT h) fun H' p n q => seqT_after h n q⟩
end LR

set_option Elab.async false
set_option maxRecDepth 100000
set_option linter.all false
set_option maxHeartbeats 4000000
namespace LR
open PySem PySem.Spec PyProof.Rows L2
/-! ## max(t, default=d), t a tuple of whole numbers -/
def mx (a b : Int) : Int := if a < b then b else a
def maxOr (d : Int) : List Int → Int
  | [] => d
  | x :: r => r.foldl mx x
theorem reads_ints (h : Heap) : ∀ {ls : List Int} {vs : List Value}, Vals (ls.map V.int) vs → PySem.ReadsAll h vs (ls.map PyData.int) []
  | [], [], _ => .nil
  | l :: r, v :: vs, .cons r1 r2 => by
    obtain ⟨t, rfl⟩ := (show ∃ t, v = Value.int l t from r1)
    exact PySem.ReadsAll.cons (as := []) (bs := []) (.int l t) (reads_ints h r2)
theorem maxD_ints : ∀ (r : List Int) (x : Int), PySem.W.maxD (.int x) (r.map PyData.int) = .int (r.foldl mx x)
  | [], _ => rfl
  | y :: r, x => by
    have ih := maxD_ints r (mx x y)
    unfold PySem.W.maxD at ih ⊢
    rw [List.map_cons, List.foldl_cons, List.foldl_cons, ← ih, PySem.W.dataLt_int]
    congr 1
    unfold mx
    by_cases c : x < y
    · rw [decide_eq_true c, if_pos rfl, if_pos c]
    · rw [decide_eq_false c, if_neg (by decide), if_neg c]
theorem depth_ints : ∀ ls : List Int, PyData.depthAll (ls.map PyData.int) = 0
  | [] => by simp [PyData.depthAll]
  | l :: r => by
    rw [List.map_cons]
    simp [PyData.depthAll, PyData.depth, depth_ints r]
def rMaxD (K : PySem.W.Frag) : List V → List V → Hp → VK → Prop := fun xs zs H Q => ∃ (p : Addr) (ls : List Int) (d : Int), xs = [.ref p] ∧ zs = [.int d] ∧ SqT K H p (ls.map V.int) ∧ Q (.int (maxOr d ls)) H
theorem cr_maxD {X : Cx} (hc : X.calm = true) (hu : X.A.units + 1 < cLine) : CallRK X (.builtin "max") [Str.ofString "default"] (rMaxD X.K) := by
  intro pins s σ H xs zs us ws Q I r rz h
  obtain ⟨p, ls, d, rfl, rfl, hs, q⟩ := h
  obtain rfl := Vals.ref1 r
  obtain ⟨u, rfl, t, rfl⟩ : ∃ u, ws = [u] ∧ ∃ t, u = Value.int d t := by
    cases rz with
    | cons r1 r2 => cases r2; exact ⟨_, rfl, r1⟩
  obtain ⟨its, rv, ht, hz⟩ := I.tuple hs
  refine PySem.W.max_tuple_default (vs := its.toArray) (xs := ls.map PyData.int) (as := []) (I.ok.hd hc) ht (reads_ints _ rv) ⟨?_, ?_⟩ (by rw [depth_ints]; exact hu) (fun e h' tk k => ?_) (fun y ys i v h' tk bs e hv rd k => ?_)
  · intro x hx y hy
    obtain ⟨a, _, rfl⟩ := List.mem_map.mp hx
    obtain ⟨b, _, rfl⟩ := List.mem_map.mp hy
    rfl
  · intro x hx
    obtain ⟨a, _, rfl⟩ := List.mem_map.mp hx
    exact fun z => nomatch z
  · cases ls with
    | nil => exact ⟨.int d, H, I.kept k, ⟨t, rfl⟩, q⟩
    | cons => simp at e
  · cases ls with
    | nil => simp at e
    | cons x l =>
      rw [List.map_cons] at e
      injection e with e1 e2
      subst e1 e2
      rw [maxD_ints] at rd
      cases rd with
      | int _ t2 => exact ⟨.int _, H, I.kept k, ⟨t2, rfl⟩, q⟩
theorem sIx_in {n d : Nat} {v : Int} (h0 : 0 ≤ v) (h1 : v ≤ n) : HT.sIx n d (some v) = v.toNat := by
  unfold HT.sIx
  show (if v < 0 then _ else _) = _
  rw [if_neg (by omega)]
  omega
def loI (u w : Int) : Int := if w < u then w else u
def hiI (u w : Int) : Int := if w > u then w else u
/-- the levels between two steps, and the greatest of them -/
def gapL (ls : List Int) (u w : Int) : List Int := (ls.drop (loI u w).toNat).take ((hiI u w).toNat - (loI u w).toNat)
def gapI (ls : List Int) (u w : Int) : Int := maxOr 0 (gapL ls u w)
theorem lo_in {n u w : Int} (hu : 0 ≤ u ∧ u ≤ n) (hw : 0 ≤ w ∧ w ≤ n) : 0 ≤ loI u w ∧ loI u w ≤ n := by
  unfold loI; split <;> omega
theorem hi_in {n u w : Int} (hu : 0 ≤ u ∧ u ≤ n) (hw : 0 ≤ w ∧ w ≤ n) : 0 ≤ hiI u w ∧ hiI u w ≤ n := by
  unfold hiI; split <;> omega
theorem cut_gap {ls : List Int} {u w : Int} (hu : 0 ≤ u ∧ u ≤ ls.length) (hw : 0 ≤ w ∧ w ≤ ls.length) : cutV (ls.map V.int) (some (loI u w)) (some (hiI u w)) = (gapL ls u w).map V.int := by
  have e : (ls.map V.int).length = ls.length := List.length_map ..
  have l := lo_in hu hw
  have g := hi_in hu hw
  unfold cutV gapL
  rw [e, sIx_in l.1 l.2, sIx_in g.1 g.2, List.map_take, List.map_drop]
theorem whole_gap {ls : List Int} {u w : Int} (hu : 0 ≤ u ∧ u ≤ ls.length) (hw : 0 ≤ w ∧ w ≤ ls.length) (h : HT.sIx (ls.map V.int).length 0 (some (loI u w)) = 0 ∧ HT.sIx (ls.map V.int).length (ls.map V.int).length (some (hiI u w)) = (ls.map V.int).length) : gapL ls u w = ls := by
  have e : (ls.map V.int).length = ls.length := List.length_map ..
  have l := lo_in hu hw
  have g := hi_in hu hw
  rw [e, sIx_in l.1 l.2, sIx_in g.1 g.2] at h
  unfold gapL
  rw [h.1, h.2, List.drop_zero, Nat.sub_zero, List.take_length]
end LR

set_option Elab.async false
set_option maxRecDepth 100000
set_option linter.all false
set_option maxHeartbeats 4000000
namespace LR
open PySem PySem.Spec PyProof.Rows L2
/-! ## list(o), o of a class whose __iter__ hands out a tuple's iterator -/
section
variable {prog : Program} {w : World} {A : Around} {E : Value → Shared → Prop} {s : Shared}
theorem tup_end {it t : Addr} {i : Nat} {items : Array Value} {Q : Option Value → Shared → Prop} (hh : A.handled = none)
    (hit : s.heap.IsTupleIter it t i) (ht : s.heap.IsTuple t items) (hx : items[i]? = none)
    (hQ : ∀ h', Heap.ExtBut it s.heap h' → (∃ o, h'.get? it = some o) → Q none { s with heap := h' }) : wpAny (model prog w) A (pyNext (.ref it)) Q E s := by
  obtain ⟨o, ho, hc, hd⟩ := id hit
  obtain ⟨ol, hol, _, nl, hdl⟩ := ht
  unfold pyNext
  refine wpAny_bind (wpAny_attempt (wpAny_callSpecial?_slot (name := Str.ofString "__next__") hit.typeIs F.slot_tuple_iterator_next
    (wpAny_call_entry F.slot_tuple_iterator_next hit.typeIs F.entry_tuple_iterator_next ?_ (F.args_tuple_iterator_next_1 _))))
  show wpAny _ _ (field (.ref it) 0 >>= _) _ _ s
  refine wpAny_bind (wpAny_field ho hd (x := .ref t) rfl ?_)
  show wpAny _ _ (if (Value.ref t == Value.none) = true then _ else _) _ _ s
  rw [if_neg (show ¬ ((Value.ref t == Value.none) = true) from Bool.false_ne_true)]
  show wpAny _ _ (field (.ref it) 1 >>= _) _ _ s
  refine wpAny_bind (wpAny_field ho hd (x := .int i 0) rfl ?_)
  show wpAny _ _ (seqItems? (.ref t) >>= _) _ _ s
  refine wpAny_bind (wpAny_seqItems hol hdl ?_)
  simp only [Int.toNat_natCast, hx]
  refine wpAny_bind (wpAny_rule (wpAny_bind (wpAny_setField ho hd (by simp) ?_)))
  show wpAny _ _ (newExc (.type "StopIteration") [] >>= _) _ _ _
  refine wpAny_bind ?_
  simp only [newExc, newTuple]
  refine wpAny_bind (wpAny_newObj_type ?_ (by size_fits))
  refine wpAny_bind (m := firstArgMember _ _) (wpAny_of_eq (a := Value.none) (by first | rfl | (simp only [firstArgMember]; rfl)) ?_)
  refine wpAny_newObj_type ?_ (by size_fits)
  simp only [raiseNew]
  refine wpAny_bind (wpAny_handled ?_)
  first | rw [show A.in1.handled = none from hh] | rw [hh]
  refine wpAny_bind (wpAny_pure (wpAny_throw ?_))
  refine wpAny_bind (wpAny_isInstance (T := "StopIteration") (b := true) ⟨_, Heap.get?_push_size _ rfl, rfl⟩ isSubtype_stop ?_)
  exact wpAny_pure (hQ _ (((Heap.SameBut.update ..).extBut.push _).push _) ⟨_, Heap.get?_push_of_some _ (Heap.get?_push_of_some _ (Heap.get?_update_self _ ho (Obj.isFreed_of_fields (Obj.data_mapFields hd _))))⟩)
end
/-- at it the iterator of the tuple at t, at the place i -/
def ItT (t it : Addr) (i : Nat) : HO := .ext fun h => h.IsTupleIter it t i
/-- .. that has ended -/
def ItZ (it : Addr) : HO := .ext fun h => ∃ o, h.get? it = some o
theorem itT_ok {P : Program} {w : World} {H : Hp} {h : Heap} {t it : Addr} {i : Nat} (e : h.IsTupleIter it t i) : ObjOk P w H h it (ItT t it i) :=
  ⟨e, (let ⟨o, ho, _⟩ := e; ⟨o, ho⟩), fun h1 h2 q k => q.at fun o e => k o e⟩
theorem itZ_ok {P : Program} {w : World} {H : Hp} {h : Heap} {it : Addr} (e : ∃ o, h.get? it = some o) : ObjOk P w H h it (ItZ it) :=
  ⟨e, e, fun h1 h2 q k => let ⟨o, ho⟩ := q; ⟨o, k o ho⟩⟩
def rIterT (K : PySem.W.Frag) : List V → Hp → VK → Prop := fun xs H Q => ∃ (l : Addr) (zs : List V), xs = [.ref l] ∧ SqT K H l zs ∧ ∀ it, H it = none → Q (.ref it) (upd H it (ItT l it 0))
theorem call_iterT {X : Cx} : CallR X (.builtin "iter") (rIterT X.K) := by
  intro pins s σ H xs us Q I r h
  obtain ⟨l, zs, rfl, hq, q⟩ := h
  obtain rfl := Vals.ref1 r
  obtain ⟨its, rv, pl, hz⟩ := I.tuple hq
  refine PySem.Calls.call_function_entry (by decide +kernel) (by decide +kernel) PySem.W.kdk_entry_iter (PySem.W.kdk_args_iter _) ?_
  unfold Builtin.«iter»
  refine wpAny_bind (m := someArgs "iter" 1 2 _) (wpAny_of_eq (a := [Value.ref l]) (by first | rfl | kernel_rfl!) ?_)
  show wpAny _ _ (pyIter (.ref l) >>= _) _ _ _
  refine wpAny_bind (wpAny_pyIter_tuple (show s.heap.IsTuple l its.toArray from pl) ?_)
  refine wpAny_pure ⟨_, rfl, ?_⟩
  exact ⟨.ref s.heap.objs.size, _, I.laid (t' := s.toks) (fun b u e => Heap.get?_push_of_some _ e) (Nat.le_refl _) (itT_ok ⟨_, Heap.get?_push_size _ rfl, rfl, rfl⟩), rfl, q _ (I.hok.fresh (Nat.le_refl _))⟩
section
variable {X : Cx} {pins : List (Addr × Obj)} {σ : L2.St} {A1 : Around} {Rs : Result → Shared → Prop} {l it q : Addr} {ys : List V}
theorem sqT_upd {K : PySem.W.Frag} {H : Hp} {l p : Addr} {ys : List V} {o : HO} (hp : ∃ u, H p = some u ∧ (∀ xs, u ≠ .tup xs) ∧ ∀ z w, u ≠ .frz z w) (h : SqT K H l ys) : SqT K (upd H p o) l ys := by
  obtain ⟨u, hu, n1, n2⟩ := hp
  rcases h with (h | ⟨z, h⟩) | h
  · exact .inl (.inl (by rw [upd_ne (ne_of h hu (n1 _).symm)]; exact h))
  · exact .inl (.inr ⟨z, by rw [upd_ne (ne_of h hu (n2 _ _).symm)]; exact h⟩)
  · exact .inr h
theorem it_loop (hh : A1.in1.handled = none) : ∀ (n i : Nat) (H : Hp) (s : Shared), i + n = ys.length → Inv X pins σ H s → H it = some (ItT l it i) → SqT X.K H l ys → H q = some (.lst (ys.take i)) →
    (∀ s', Inv X pins σ (upd (upd H it (ItZ it)) q (.lst ys)) s' → Rs (.ok (.ret .none)) s') → codeAny (model X.prog X.w) A1 (.builtin "list.extend.loop" ⟨[.ref q, .ref it, .none], []⟩) Rs s := by
  intro n
  induction n with
  | zero =>
    intro i H s hi I hit hl hq hR
    refine codeAny_builtin PySem.F.entry_extend_loop ?_
    rw [Around.under_plainId PySem.F.plain_extend_loop _]
    show wpAny _ A1.in1 (pyNext (.ref it) >>= _) _ _ s
    obtain ⟨its, rv, pl, hz⟩ := I.tuple hl
    have st := (I.hok it _ hit).1
    have hlen := rv.length
    refine wpAny_bind (tup_end hh st (show s.heap.IsTuple l its.toArray from pl) (by simp; omega) fun h' eb ex => ?_)
    have I1 : Inv X pins σ (upd H it (ItZ it)) { s with heap := h' } := I.write (x := it) (e := it) (t' := s.toks) (by rw [hit]; exact True.intro) (.inl rfl) (fun b o nb z => eb b o nb z) ex (itZ_ok ex)
    refine wpAny_pure (hR _ ?_)
    have e : ys.take i = ys := List.take_of_length_le (by omega)
    rw [e] at hq
    have nq : q ≠ it := ne_of hq hit (fun z => nomatch z)
    have : upd (upd H it (ItZ it)) q (.lst ys) = upd H it (ItZ it) := by
      funext b
      by_cases hb : b = q
      · rw [hb, upd_same, upd_ne nq, hq]
      · rw [upd_ne hb]
    rw [this]; exact I1
  | succ n ih =>
    intro i H s hi I hit hl hq hR
    refine codeAny_builtin PySem.F.entry_extend_loop ?_
    rw [Around.under_plainId PySem.F.plain_extend_loop _]
    show wpAny _ A1.in1 (pyNext (.ref it) >>= _) _ _ s
    obtain ⟨its, rv, pl, hz⟩ := I.tuple hl
    have st := (I.hok it _ hit).1
    have hlen := rv.length
    have nq : q ≠ it := ne_of hq hit (fun z => nomatch z)
    have hy : ys[i]? = some (ys[i]'(by omega)) := List.getElem?_eq_getElem (by omega)
    obtain ⟨u, hu, ru⟩ := rv.get hy
    refine wpAny_bind (wpAny_pyNext_tuple_item st (show s.heap.IsTuple l its.toArray from pl) (x := u) (by simpa using hu) fun h' st' sb => ?_)
    have I1 : Inv X pins σ (upd H it (ItT l it (i + 1))) { s with heap := h' } := I.write (x := it) (e := it) (t' := s.toks) (by rw [hit]; exact True.intro) (.inl rfl) (fun b o nb z => (sb.2 b nb).trans z) (let ⟨o, ho, _⟩ := st'; ⟨o, ho⟩) (itT_ok st')
    show wpAny _ A1.in1 (updateSeq q (·.push u) >>= _) _ _ _
    have hq1 : (upd H it (ItT l it (i + 1))) q = some (.lst (ys.take i)) := by rw [upd_ne nq, hq]
    obtain ⟨z, itq, k, r2, hl2, e⟩ := I1.lstM hq1
    have tl : (ys.take i).length = i := by rw [List.length_take]; omega
    refine wpAny_bind (wpAny_updateSeq e rfl (wpAny_pure ⟨plainId_quiet PySem.F.plain_extend_loop _, ?_⟩) (by rw [List.size_toArray]; omega) (by show (itq.toArray.push u).size ≤ sizeLine + 1; rw [Array.size_push, List.size_toArray]; omega))
    have et : ys.take (i + 1) = ys.take i ++ [ys[i]'(by omega)] := by rw [List.take_succ, hy]; rfl
    have I2 := I1.lset (f := (·.push u)) (its' := itq ++ [u]) (ys := ys.take (i + 1)) (t' := s.toks) hq1 e (by simp) (by rw [et]; exact r2.append (.cons ru .nil)) (by rw [List.length_take]; omega)
    refine ih (i + 1) _ _ (by omega) I2 (by rw [upd_ne nq.symm, upd_same]) (sqT_upd ⟨_, hq1, (fun _ z => nomatch z), (fun _ _ z => nomatch z)⟩ (sqT_upd ⟨_, hit, (fun _ z => nomatch z), (fun _ _ z => nomatch z)⟩ hl)) upd_same fun s' I' => hR s' ?_
    have : upd (upd (upd (upd H it (ItT l it (i + 1))) q (.lst (ys.take (i + 1)))) it (ItZ it)) q (.lst ys) = upd (upd H it (ItZ it)) q (.lst ys) := by
      funext b
      by_cases h1 : b = q
      · rw [h1, upd_same, upd_same]
      · rw [upd_ne h1, upd_ne h1]
        by_cases h2 : b = it
        · rw [h2, upd_same, upd_same]
        · rw [upd_ne h2, upd_ne h2, upd_ne h1, upd_ne h2]
    rw [this] at I'
    exact I'
/-- a class with an __iter__ of its own, without __len__ and __length_hint__ -/
structure OIt (K : PySem.W.Frag) (C fi : Addr) : Prop where
  it : PySem.W.findIn K (.ref C) "__iter__" = some (some (.ref fi))
  itF : PySem.W.isFn K (.ref fi) = true
  nolen : PySem.W.findIn K (.ref C) "__len__" = some none
  nohint : PySem.W.findIn K (.ref C) "__length_hint__" = some none
theorem oit_hint {M : Model} {A : Around} {E : Value → Shared → Prop} {Q : Bool → Shared → Prop} {K : PySem.W.Frag} {ox : Obj} {od : Option Obj} {C fi a : Addr} {s : Shared} (hc : OIt K C fi) (hK : K.In s.heap) (J : PySem.W.InstAt s.heap a ox C od) (h : Q true s) :
    wpAny M A (Builtin.List.listLengthHint (.ref a)) Q E s := by
  unfold Builtin.List.listLengthHint
  refine wpAny_bind (wpAny_bind (J.type.here ((PySem.W.looks_findIn hK hc.nolen).here ?_)))
  refine PySem.W.KFB.if_not rfl ?_
  refine PySem.W.KFB.if_not rfl ?_
  refine wpAny_bind (wpAny_bind (J.type.here ((PySem.W.looks_findIn hK hc.nohint).here ?_)))
  exact wpAny_pure h
variable {CI : CXT} {C fi a : Addr} {fdI : FuncData} {psI : List Str} {spI : Sp} {EI : XK} {n : Nat}
theorem it_extend {dx : Addr} {fs : List (Str × V)} {R : Hp → Prop} (sb : Sub X n A1.in1) (hc : OIt X.K C fi)
    (FI : FnOk X.prog X.w X.K X.mg X.base CI n fi fdI psI spI) (bI : Binds X.K fdI psI []) (xI : Passes CI X EI)
    (hdone : ∀ H s, Inv X pins σ H s → R H → Rs (.ok (.ret .none)) s) (herr : ∀ e s, X.xe e s → Rs (.error e) s)
    (I : Inv X pins σ H s) (ha : H a = some (.ins C dx fs)) (hq : H q = some (.lst []))
    (hsp : spI [.ref a] H (fun v H' => ∃ it l ys dx' fs', v = .ref it ∧ H' it = some (ItT l it 0) ∧ SqT X.K H' l ys ∧ H' q = some (.lst []) ∧ H' a = some (.ins C dx' fs') ∧ R (upd (upd H' it (ItZ it)) q (.lst ys))) EI) :
    wpAny (model X.prog X.w) A1.in1 (Builtin.List.listExtendWith (.ref q) (.ref a) .none)
      (fun fin s' => match fin with | .done f => Rs (.ok f) s' | .again c' => c'.quiet = true ∧ codeAny (model X.prog X.w) A1 c' Rs s') (fun e s' => Rs (.error e) s') s := by
  have hne : q ≠ a := ne_of hq ha (fun z => nomatch z)
  obtain ⟨mA, J, _⟩ := ins_get I.hok ha
  obtain ⟨od, J, _⟩ := J.look
  obtain ⟨m0, hF⟩ := I.fr
  unfold Builtin.List.listExtendWith
  refine wpAny_bind (J.type.here ?_)
  have h1 : Builtin.List.listSameRef (.ref q) (.ref a) = false := by simp [Builtin.List.listSameRef, hne]
  have h2 : (Value.ref C == Value.type "list") = false := rfl
  have h3 : (Value.ref C == Value.type "tuple") = false := rfl
  simp only [h1, h2, h3, Bool.or_false, Bool.false_eq_true, if_false]
  refine wpAny_bind (PySem.W.owit_iter hF I.ok.mod.kin J hc.it hc.itF ?_)
  have e0 : Env0 X.prog X.w X.K X.mg X.base A1.in1 X.stack s H := by
    have e := I.env0
    exact ⟨by rw [sb.fr]; exact e.frames, e.mod, e.bs, e.bsz, e.funs, e.frf, e.hok, e.bare⟩
  have hl := FI.len _ _ _ _ hsp
  have r2 : Vals [V.ref a] [Value.ref a] := .cons rfl .nil
  refine wpAny_call (codeAny_mono (FI.run A1.in1 X.stack s H ⟨[.ref a], []⟩ [.ref a] [.ref a] _ EI sb.room e0 (by
    have := bI s [.ref a] I.kIn (by simpa using hl)
    simpa using this) r2 hsp) fun r s' hq' => ?_)
  cases r with
  | error e => exact herr e s' (xI pins σ H s e s' I hq')
  | ok fl =>
    cases fl with
    | next => exact False.elim hq'
    | brk => exact False.elim hq'
    | cont => exact False.elim hq'
    | ret u =>
      obtain ⟨v, H', I', rv, it, l, ys, dx', fs', ev, hit, hl', hq1, ha', hR⟩ := I.after hq'
      subst ev
      cases rv
      have st := (I'.hok it _ hit).1
      unfold PySem.W.OwitIt
      refine wpAny_specialOf (name := Str.ofString "__next__") st.typeIs PySem.F.slot_tuple_iterator_next.lookup ?_
      obtain ⟨mA', J', _⟩ := ins_get I'.hok ha'
      obtain ⟨od', J', _⟩ := J'.look
      have hh : A1.in1.handled = none := sb.room.hd
      refine wpAny_bind (wpAny_holding (oit_hint hc I'.kIn J' ?_))
      obtain ⟨z, its, k, r3, hl3, e3⟩ := I'.lstM hq1
      cases r3
      have run : ∀ s2, Inv X pins σ H' s2 → codeAny (model X.prog X.w) A1 (.builtin "list.extend.loop" ⟨[.ref q, .ref it, .none], []⟩) Rs s2 := fun s2 I2 =>
        it_loop hh ys.length 0 H' s2 (Nat.zero_add _) I2 hit hl' (by simpa using hq1) fun s3 I3 => hdone _ s3 I3 hR
      refine wpAny_ite_split (fun _ => ?_) (fun _ => wpAny_pure ⟨plainId_quiet PySem.F.plain_extend_loop _, run s' I'⟩)
      refine wpAny_bind (wpAny_rule ?_)
      refine wpAny_bind ?_
      show wpAny _ _ (updateSeq q (·.push .none) >>= fun _ => updateSeq q (·.pop)) _ _ _
      refine wpAny_bind (wpAny_updateSeq e3 rfl ?_)
      have I2 := I'.lset (f := (·.push Value.none)) (its' := [Value.none]) (ys := [.non]) (t' := s'.toks) hq1 e3 (by simp) (.cons rfl .nil) (by rw [List.length_singleton, sizeLine_eq]; decide)
      obtain ⟨z4, its4, k4, r4, hl4, e4⟩ := I2.lstM upd_same
      obtain ⟨u4, rfl, ru4⟩ := r4.one
      refine wpAny_updateSeq e4 rfl ?_ (by show 1 ≤ sizeLine; rw [sizeLine_eq]; decide) (by show 0 ≤ sizeLine + 1; exact Nat.zero_le _)
      refine wpAny_pure ⟨plainId_quiet PySem.F.plain_extend_loop _, run _ ?_⟩
      have I3 := I2.lset (f := (·.pop)) (its := [u4]) (its' := []) (ys := []) (t' := s'.toks) upd_same e4 (by rfl) .nil (Nat.zero_le _)
      rw [upd_upd] at I3
      have hH : upd H' q (.lst []) = H' := by
        funext b
        by_cases hb : b = q
        · rw [hb, upd_same, hq1]
        · rw [upd_ne hb]
      rw [hH] at I3
      exact I3
/-- list(o) -/
def rListIt (K : PySem.W.Frag) (C : Addr) (spI : Sp) (EI : XK) : List V → Hp → VK → Prop := fun xs H Q => ∃ a dx fs, xs = [.ref a] ∧ H a = some (.ins C dx fs) ∧
  ∀ q, H q = none → spI [.ref a] (upd H q (.lst [])) (fun v H' => ∃ it l ys dx' fs', v = .ref it ∧ H' it = some (ItT l it 0) ∧ SqT K H' l ys ∧ H' q = some (.lst []) ∧ H' a = some (.ins C dx' fs') ∧ Q (.ref q) (upd (upd H' it (ItZ it)) q (.lst ys))) EI
theorem call_listIt (hc : OIt X.K C fi) (FI : FnOk X.prog X.w X.K X.mg X.base CI n fi fdI psI spI) (bI : Binds X.K fdI psI []) (xI : Passes CI X EI) (hr : Room (n + 2) X.A) : CallR X (.type "list") (rListIt X.K C spI EI) := by
  intro pins s σ H xs us Q I rv h
  obtain ⟨a, dx, fs, rfl, ha, hq⟩ := h
  obtain ⟨u, rfl, ru⟩ := rv.one
  cases ru
  have sb : Sub X n X.A.in1.in1 := (Sub.in1 (Sub.in1 (⟨hr, rfl⟩ : Sub X (n + 2) X.A)))
  refine callType_codes (Q₁ := fun obj s₁ => obj = .ref s.heap.objs.size ∧ s₁ = { s with heap := s.heap.push { cls := .type "list", data := .seq #[] } }) PySem.F.called_list (PySem.F.typeCall_list_1 _) PySem.F.entry_list_init
    (code_list_new _ ⟨rfl, rfl⟩) fun obj s₁ h₁ => ?_
  obtain ⟨rfl, rfl⟩ := h₁
  have hS : (s.heap.push { cls := .type "list", data := .seq #[] }).get? s.heap.objs.size = some { cls := .type "list", data := .seq #[] } := Heap.get?_push_size _ rfl
  refine ⟨⟨_, hS, rfl⟩, PySem.F.args_list_init_2 _ _, ?_⟩
  have fr : H s.heap.objs.size = none := I.hok.fresh (Nat.le_refl _)
  have hsp := hq _ fr
  have I1 : Inv X pins σ (upd H s.heap.objs.size (.lst [])) { s with heap := s.heap.push { cls := .type "list", data := .seq #[] } } := I.lnew (its := []) (t' := s.toks) .nil (Nat.zero_le _)
  show wpAny _ _ (do let old ← Builtin.List.listItems (.ref s.heap.objs.size); Builtin.List.listUpdate (.ref s.heap.objs.size) (fun _ => #[]); letGo old.toList.reverse; Builtin.List.listExtendWith (.ref s.heap.objs.size) (.ref a) .none) _ _ _
  refine wpAny_bind ?_
  unfold Builtin.List.listItems
  refine wpAny_bind (wpAny_seqItems hS rfl (wpAny_pure ?_))
  show wpAny _ _ (updateSeq s.heap.objs.size (fun _ => #[]) >>= fun _ => letGo (#[] : Array Value).toList.reverse >>= fun _ => Builtin.List.listExtendWith (.ref s.heap.objs.size) (.ref a) .none) _ _ _
  refine wpAny_bind (wpAny_updateSeq hS rfl ?_)
  have I2 := I1.lset (f := fun _ => #[]) (its := []) (its' := []) (ys := []) (t' := s.toks) upd_same hS rfl .nil (Nat.zero_le _)
  rw [upd_upd] at I2
  refine wpAny_bind (wpAny_letGo ?_)
  have ha2 : upd H s.heap.objs.size (.lst []) a = some (.ins C dx fs) := by rw [upd_ne (ne_of_none ha fr)]; exact ha
  exact it_extend (A1 := X.A.in1) (Rs := wants (fun r s₂ => r = .none ∧ EP X pins σ Q (.ref s.heap.objs.size) s₂) X.xe) (R := fun H' => Q (.ref s.heap.objs.size) H') sb hc FI bI xI
    (fun H' s' I' hR => ⟨rfl, .ref s.heap.objs.size, H', I', rfl, hR⟩) (fun e s' he => he) I2 ha2 upd_same hsp
theorem cr_listIt {k j : Nat} {sp : Sp} (c : Met X.prog X.w X.K X.mg X.base k C "__iter__" sp) (n1 : NoAttr X.K C "__len__") (n2 : NoAttr X.K C "__length_hint__") (hr : Room j X.A) (hk : k + 2 ≤ j) : CallR X (.type "list") (rListIt X.K C sp E0) := by
  obtain ⟨f, fd, ps, hc, ⟨m1, m2, m3⟩, F, b⟩ := c.ex
  exact call_listIt ⟨m1, m2, n1, n2⟩ F b pass0 (hr.mono hk)
end
theorem b_iter : bootBuiltins "iter" = some (.builtin "iter") := by decide +kernel
end LR

set_option Elab.async false
set_option maxRecDepth 100000
set_option linter.all false
set_option maxHeartbeats 4000000
namespace LR
open PySem PySem.Spec PyProof.Rows L2
theorem foldl_mx : ∀ (r : List Int) (x : Int), x ≤ r.foldl mx x ∧ (∀ y ∈ r, y ≤ r.foldl mx x) ∧ (r.foldl mx x = x ∨ r.foldl mx x ∈ r)
  | [], x => ⟨Int.le_refl _, (fun y h => nomatch h), .inl rfl⟩
  | a :: r, x => by
    obtain ⟨h1, h2, h3⟩ := foldl_mx r (mx x a)
    rw [List.foldl_cons]
    have m1 : x ≤ mx x a := by unfold mx; split <;> omega
    have m2 : a ≤ mx x a := by unfold mx; split <;> omega
    have m3 : mx x a = x ∨ mx x a = a := by unfold mx; split; exact .inr rfl; exact .inl rfl
    refine ⟨Int.le_trans m1 h1, fun y hy => ?_, ?_⟩
    · rcases List.mem_cons.mp hy with rfl | hy
      · exact Int.le_trans m2 h1
      · exact h2 y hy
    · rcases h3 with h3 | h3
      · rcases m3 with m3 | m3
        · exact .inl (h3.trans m3)
        · exact .inr (by rw [h3, m3]; exact List.mem_cons_self)
      · exact .inr (List.mem_cons_of_mem _ h3)
theorem loI_nat {u w : Int} (hu : 0 ≤ u) (hw : 0 ≤ w) : (loI u w).toNat = min u.toNat w.toNat := by unfold loI; split <;> omega
theorem hiI_nat {u w : Int} (hu : 0 ≤ u) (hw : 0 ≤ w) : (hiI u w).toNat = max u.toNat w.toNat := by unfold hiI; split <;> omega
theorem isGap_gapI {ls : List Int} {u w : Int} (hb : ∀ l ∈ ls, 1 ≤ l) (hu : 0 ≤ u) (hw : 0 ≤ w) : IsGap ls (min u.toNat w.toNat) (max u.toNat w.toNat) (gapI ls u w) := by
  unfold gapI gapL
  rw [loI_nat hu hw, hiI_nat hu hw]
  generalize min u.toNat w.toNat = lo
  generalize max u.toNat w.toNat = hi
  have get : ∀ j, j < hi - lo → ((ls.drop lo).take (hi - lo))[j]? = ls[lo + j]? := fun j hj => by rw [List.getElem?_take, if_pos hj, List.getElem?_drop]
  have mem : ∀ m z, lo ≤ m → m < hi → ls[m]? = some z → z ∈ (ls.drop lo).take (hi - lo) := fun m z a b e => by
    have := get (m - lo) (by omega)
    rw [show lo + (m - lo) = m by omega, e] at this
    exact List.mem_of_getElem? this
  cases hl : (ls.drop lo).take (hi - lo) with
  | nil =>
    refine ⟨Int.le_refl _, fun m z a b e => ?_, .inl rfl⟩
    have := mem m z a b e
    rw [hl] at this; cases this
  | cons x r =>
    obtain ⟨h1, h2, h3⟩ := foldl_mx r x
    have inl : ∀ y ∈ x :: r, y ≤ r.foldl mx x := fun y hy => by
      rcases List.mem_cons.mp hy with rfl | hy
      · exact h1
      · exact h2 y hy
    have inm : r.foldl mx x ∈ (ls.drop lo).take (hi - lo) := by
      rw [hl]
      rcases h3 with h3 | h3
      · rw [h3]; exact List.mem_cons_self
      · exact List.mem_cons_of_mem _ h3
    show IsGap ls lo hi (r.foldl mx x)
    obtain ⟨j, hj, ej⟩ := List.mem_iff_getElem.mp inm
    have hj' : j < hi - lo := by rw [List.length_take] at hj; omega
    have e2 : ls[lo + j]? = some (r.foldl mx x) := by rw [← get j hj', List.getElem?_eq_getElem hj, ej]
    have := hb _ (List.mem_of_getElem? e2)
    refine ⟨by omega, fun m z a b e => ?_, .inr ⟨lo + j, by omega, by omega, e2⟩⟩
    have := mem m z a b e
    rw [hl] at this
    exact inl z this
theorem IsGap.one {ls : List Int} {lo hi : Nat} {g k : Int} (a : IsGap ls lo hi g) (b : IsGap ls lo hi k) : g = k := by
  have key : ∀ {x y : Int}, IsGap ls lo hi x → IsGap ls lo hi y → x ≤ y := fun {x y} a b => by
    obtain ⟨a0, a1, a2⟩ := a
    obtain ⟨b0, b1, b2⟩ := b
    rcases a2 with e | ⟨m, h1, h2, e⟩
    · omega
    · exact b1 m x h1 h2 e
  exact Int.le_antisymm (key a b) (key b a)
/-! ## answers of the law -/
def refV : List (Str × Int × Int × Int) → List V
  | [] => []
  | (n, v, lo, hi) :: r => if lo ≤ v ∧ v ≤ hi then refV r else [.str n, .int v, .bl true, .bl false]
def refD : List (Str × Int × Int × Int) → List Dt
  | [] => []
  | (n, v, lo, hi) :: r => if lo ≤ v ∧ v ≤ hi then refD r else [.str n, .int v, .bl true, .bl false]
theorem ref_ats (H : Hp) : ∀ cs, Ats H (refV cs) (refD cs) ∧ (refV cs).length ≤ 100000 ∧ deps (refD cs) < 1
  | [] => ⟨.nil, by show 0 ≤ 100000; decide, by show 0 < 1; decide⟩
  | (n, v, lo, hi) :: r => by
    unfold refV refD
    split
    · exact ref_ats H r
    · exact ⟨.cons (.str _) (.cons (.int _) (.cons (.bl _) (.cons (.bl _) .nil))), by show 4 ≤ 100000; decide, Nat.lt_of_le_of_lt (Nat.le_refl 0) (by decide)⟩
abbrev Chk := Str × Int × Int × Int
def Chk.ok (e : Chk) : Prop := e.2.2.1 ≤ e.2.1 ∧ e.2.1 ≤ e.2.2.2
def ansV : List Chk → V → List V
  | [], v => [.str "value", v]
  | (n, x, lo, hi) :: r, v => if lo ≤ x ∧ x ≤ hi then ansV r v else [.str n, .int x, .bl true, .bl false]
def ansD : List Chk → Dt → List Dt
  | [], v => [.str "value", v]
  | (n, x, lo, hi) :: r, v => if lo ≤ x ∧ x ≤ hi then ansD r v else [.str n, .int x, .bl true, .bl false]
theorem ans_ats {H : Hp} {v : V} {d : Dt} (a : At H v d) (hd : dep d = 0) : ∀ cs, Ats H (ansV cs v) (ansD cs d) ∧ (ansV cs v).length ≤ 100000 ∧ deps (ansD cs d) < 1
  | [] => ⟨.cons (.str _) (.cons a .nil), by show 2 ≤ 100000; decide, by
      show deps [.str "value", d] < 1
      rw [deps, deps, deps, hd]; decide⟩
  | (n, v, lo, hi) :: r => by
    unfold ansV ansD
    split
    · exact ans_ats a hd r
    · exact ⟨.cons (.str _) (.cons (.int _) (.cons (.bl _) (.cons (.bl _) .nil))), by show 4 ≤ 100000; decide, Nat.lt_of_le_of_lt (Nat.le_refl 0) (by decide)⟩
theorem ans_ok {v : V} : ∀ {cs : List Chk}, (∀ e ∈ cs, e.ok) → ansV cs v = [.str "value", v]
  | [], _ => rfl
  | (n, x, lo, hi) :: r, h => by
    have h1 : lo ≤ x ∧ x ≤ hi := h _ List.mem_cons_self
    unfold ansV
    rw [if_pos h1]
    exact ans_ok fun e he => h e (List.mem_cons_of_mem _ he)
theorem ref_ok : ∀ {cs : List Chk}, (refV cs).length = 0 → ∀ e ∈ cs, e.ok
  | [], _ => fun e h => nomatch h
  | (n, x, lo, hi) :: r, h => fun e he => by
    unfold refV at h
    by_cases c : lo ≤ x ∧ x ≤ hi
    · rw [if_pos c] at h
      rcases List.mem_cons.mp he with rfl | he
      · exact c
      · exact ref_ok h e he
    · rw [if_neg c] at h; cases h
theorem ans_ref {v : V} : ∀ {cs : List Chk}, (refV cs).length ≠ 0 → ansV cs v = refV cs
  | [], h => absurd rfl h
  | (n, x, lo, hi) :: r, h => by
    unfold ansV
    unfold refV at h ⊢
    by_cases c : lo ≤ x ∧ x ≤ hi
    · rw [if_pos c] at h ⊢
      rw [if_pos c]
      exact ans_ref h
    · rw [if_neg c, if_neg c]
theorem ref_drop : ∀ {cs : List Chk} {i : Nat} {e : Chk}, cs[i]? = some e → refV (cs.drop i) = if e.2.2.1 ≤ e.2.1 ∧ e.2.1 ≤ e.2.2.2 then refV (cs.drop (i + 1)) else [.str e.1, .int e.2.1, .bl true, .bl false]
  | (n, x, lo, hi) :: r, 0, e, h => by cases h; rfl
  | _ :: r, i + 1, e, h => ref_drop (cs := r) (i := i) h
  | [], _, _, h => nomatch h
end LR

set_option Elab.async false
set_option maxRecDepth 100000
set_option linter.all false
set_option maxHeartbeats 4000000
namespace LR
open PySem PySem.Spec PyProof.Rows L2
/-! ## rules inside the block of a comprehension: K is that of the def -/
theorem ix_listK {X : Cx} {K : PySem.W.Frag} (hk : X.K = K) : IxR X (rIxL K) := hk ▸ ix_list
theorem ix_tupK {X : Cx} {K : PySem.W.Frag} (hk : X.K = K) : IxR X (rIxT K) := hk ▸ ix_tup
theorem ix_seqK {X : Cx} {K : PySem.W.Frag} (hk : X.K = K) : IxR X (rIx K) := hk ▸ ix_seq
/-! ## operators of an own class: == by __eq__, + by __add__ -/
/-- x == y, both instances of the class at C -/
def rEqO (C : Addr) (sp : Sp) : R2 := fun x y H Q => ∃ a dx fs b dy gs, x = .ref a ∧ y = .ref b ∧ H a = some (.ins C dx fs) ∧ H b = some (.ins C dy gs) ∧ sp [x, y] H Q (fun _ _ _ => False)
section
variable {X : Cx} {k j : Nat} {C : Addr} {m : Str} {sp : Sp} {W : WX} {pos : Pos} {e o : Expr} {te to : TE}
theorem op_eqO (c : Met X.prog X.w X.K X.mg X.base k C "__eq__" sp) (hr : Room j X.A) (hk : k ≤ j) : OpR X (compareOp .Eq) (rEqO C sp) := by
  obtain ⟨f, fd, ps, hc, hm, F, b⟩ := c.ex
  intro pins s σ H x y v u Q I rx ry h
  obtain ⟨a, dx, fs, b', dy, gs, rfl, rfl, ha, hb, q⟩ := h
  cases rx
  cases ry
  obtain ⟨mA, J, _⟩ := ins_get I.hok ha
  obtain ⟨mB, J', _⟩ := ins_get I.hok hb
  obtain ⟨od, J, _⟩ := J.look
  obtain ⟨od', J', _⟩ := J'.look
  obtain ⟨m', hF⟩ := I.fr
  refine PySem.W.cmp_K (op := .Eq) (tb := .ref C) hr.units0 hF I.ok.mod.kin J J'.type (by simp [PySem.W.notFirst]) hm.at_ hm.fn ?_
  refine wpAny_mono (run_fnS (E := fun _ _ _ _ => False) (us := [.ref a, .ref b']) (vs := [.ref a, .ref b']) F (hr.mono hk) b (fun _ _ _ _ _ _ c => False.elim c) I (.cons rfl (.cons rfl .nil)) q) (fun w s' z => ?_) fun _ _ x => x
  obtain ⟨z', H', I', rz, qz⟩ := z
  exact SlX.cmpback rz ⟨z', H', I', rz, qz⟩
/-- x op y, both instances of the class at C, whose def for op is m; it may raise -/
def tOpO (C : Addr) (sp : Sp) (W : WX) (to te : TE) : TE := fun σ H Q => to σ H fun x H1 => te σ H1 fun y H2 => ∃ a dx fs b dy gs, x = .ref a ∧ y = .ref b ∧ H2 a = some (.ins C dx fs) ∧ H2 b = some (.ins C dy gs) ∧ sp [x, y] H2 Q (WE W σ)
theorem pe_opT {op : Operator} (c : MetX X.prog X.w X.K X.mg X.base k C (PySem.dunder op.info.2) sp) (sf : PySem.W.selfFirst X.K C = true) (hr : Room j X.A) (hk : k ≤ j) (tk : Takes X W) (ho : PE X o to) (he : PE X e te) : PE X (.BinOp o op e pos) (tOpO C sp W to te) := by
  obtain ⟨f, fd, ps, hc, hm, F, b⟩ := c.ex
  refine ⟨fun pins s σ H Q I h => wpAny_BinOp (binT ho he I h fun v u s2 x y H2 I2 rx ry q => ?_)⟩
  obtain ⟨a, dx, fs, b', dy, gs, rfl, rfl, ha, hb, q⟩ := q
  cases rx
  cases ry
  obtain ⟨mA, J, _⟩ := ins_get I2.hok ha
  obtain ⟨mB, J', _⟩ := ins_get I2.hok hb
  obtain ⟨od, J, _⟩ := J.look
  obtain ⟨od', J', _⟩ := J'.look
  obtain ⟨m', hF⟩ := I2.fr
  refine PySem.W.binop_K hF I2.ok.mod.kin J J'.type sf hm.at_ hm.fn ?_
  refine wpAny_mono (run_fnS (E := WE W) (us := [.ref a, .ref b']) (vs := [.ref a, .ref b']) F (hr.mono hk) b (passAt tk σ) I2 (.cons rfl (.cons rfl .nil)) q) (fun w s' z => ?_) fun _ _ x => x
  obtain ⟨z', H', I', rz, qz⟩ := z
  exact SlX.cmpback rz ⟨z', H', I', rz, qz⟩
/-- the same in a def that raises nothing -/
def tOp0 (C : Addr) (sp : Sp) (to te : TE) : TE := fun σ H Q => to σ H fun x H1 => te σ H1 fun y H2 => ∃ a dx fs b dy gs, x = .ref a ∧ y = .ref b ∧ H2 a = some (.ins C dx fs) ∧ H2 b = some (.ins C dy gs) ∧ sp [x, y] H2 Q (fun _ _ _ => False)
theorem pe_op0 {op : Operator} (c : Met X.prog X.w X.K X.mg X.base k C (PySem.dunder op.info.2) sp) (sf : PySem.W.selfFirst X.K C = true) (hr : Room j X.A) (hk : k ≤ j) (ho : PE X o to) (he : PE X e te) : PE X (.BinOp o op e pos) (tOp0 C sp to te) := by
  obtain ⟨f, fd, ps, hc, hm, F, b⟩ := c.ex
  refine ⟨fun pins s σ H Q I h => wpAny_BinOp (binT ho he I h fun v u s2 x y H2 I2 rx ry q => ?_)⟩
  obtain ⟨a, dx, fs, b', dy, gs, rfl, rfl, ha, hb, q⟩ := q
  cases rx
  cases ry
  obtain ⟨mA, J, _⟩ := ins_get I2.hok ha
  obtain ⟨mB, J', _⟩ := ins_get I2.hok hb
  obtain ⟨od, J, _⟩ := J.look
  obtain ⟨od', J', _⟩ := J'.look
  obtain ⟨m', hF⟩ := I2.fr
  refine PySem.W.binop_K hF I2.ok.mod.kin J J'.type sf hm.at_ hm.fn ?_
  refine wpAny_mono (run_fnS (E := fun _ _ _ _ => False) (us := [.ref a, .ref b']) (vs := [.ref a, .ref b']) F (hr.mono hk) b (fun _ _ _ _ _ _ c => False.elim c) I2 (.cons rfl (.cons rfl .nil)) q) (fun w s' z => ?_) fun _ _ x => x
  obtain ⟨z', H', I', rz, qz⟩ := z
  exact SlX.cmpback rz ⟨z', H', I', rz, qz⟩
end
/-- an own error class without __init__ over ValueError -/
structure RseIn (K : PySem.W.Frag) (mg : Str → Option Value) (x : Str) (C : Addr) : Prop where
  xP : PySem.W.excIn K C [.type "ValueError", .type "Exception", .type "BaseException", .type "object"] "ValueError.__new__" = true
  gC : mg x = some (.ref C)
  kP : PySem.W.keepIn K (.ref C) = true
  bP : PySem.W.subIn K (.ref C) (.type "BaseException") = some true
  tP : PySem.W.typeIn K (.ref C) = some (.type "type")
  E : ErrC K C
end LR

set_option Elab.async false
set_option maxRecDepth 100000
set_option linter.all false
set_option maxHeartbeats 4000000
/-! t[::-1] of a tuple: always a new one -/
namespace LR
open PySem PySem.Spec PyProof.Rows L2
section
open HT
variable {prog : Program} {w : World} {A : Around} {E : Value → Shared → Prop} {s : Shared}
theorem adjust_rev (n : Nat) : Builtin.Slice.sliceAdjust none none (-1) (n : Int) = ((n : Int) - 1, -1) := by
  unfold Builtin.Slice.sliceAdjust
  simp
theorem places_rev (n : Nat) : Builtin.Slice.slicePlaces ((n : Int) - 1) (-1) (-1) = n := by
  unfold Builtin.Slice.slicePlaces
  rw [if_neg (by decide)]
  by_cases h : (n : Int) - 1 > -1
  · rw [if_pos h, show (-(-1 : Int)) = 1 by decide, Int.ediv_one]
    omega
  · rw [if_neg h]
    omega
theorem applied_rev {sl : Addr} {vl vu vs : Value} {n : Nat} {Q : Int × Int × Nat → Shared → Prop} (hs : s.heap.IsSliceOf sl vl vu vs) (pl : IsPart vl none) (pu : IsPart vu none) (ps : IsPart vs (some (-1)))
    (h : Q ((n : Int) - 1, -1, n) s) : wpAny (model prog w) A (Builtin.Slice.sliceApplied (.ref sl) (pure (n : Int))) Q E s := by
  obtain ⟨os, hos, hcs, hds⟩ := id hs
  unfold Builtin.Slice.sliceApplied Builtin.Slice.sliceFields
  refine wpAny_bind (wpAny_bind (wpAny_field hos hds (x := vl) rfl (wpAny_bind (wpAny_field hos hds (x := vu) rfl (wpAny_bind (wpAny_field hos hds (x := vs) rfl (wpAny_pure ?_)))))))
  refine wpAny_bind (slicePart_ ps ?_)
  show wpAny _ _ (if ((-1 : Int) == 0) = true then _ else _) _ _ s
  rw [if_neg (by decide)]
  refine wpAny_bind (slicePart_ pl (wpAny_bind (slicePart_ pu (wpAny_bind (wpAny_pure ?_)))))
  show wpAny _ _ (match Builtin.Slice.sliceAdjust none none (-1) (n : Int) with | (lo, hi) => pure (lo, (-1 : Int), Builtin.Slice.slicePlaces lo hi (-1))) _ _ s
  rw [adjust_rev n]
  show wpAny _ _ (pure ((n : Int) - 1, (-1 : Int), Builtin.Slice.slicePlaces ((n : Int) - 1) (-1) (-1))) _ _ s
  rw [places_rev]
  exact wpAny_pure h
theorem pick_rev (xs : Array Value) : ((List.range xs.size).filterMap fun (m : Nat) => xs[(((xs.size : Int) - 1) + (m : Int) * (-1)).toNat]?).toArray = xs.toList.reverse.toArray := by
  have e : (List.range xs.size).filterMap (fun (m : Nat) => xs[(((xs.size : Int) - 1) + (m : Int) * (-1)).toNat]?) = ((List.range xs.size).map fun k => xs.size - 1 - k).filterMap (xs[·]?) := by
    rw [List.filterMap_map]
    congr 1
    funext m
    show xs[(((xs.size : Int) - 1) + (m : Int) * (-1)).toNat]? = xs[xs.size - 1 - m]?
    by_cases h : m < xs.size
    · have : (((xs.size : Int) - 1) + (m : Int) * (-1)).toNat = xs.size - 1 - m := by omega
      rw [this]
    · have : (((xs.size : Int) - 1) + (m : Int) * (-1)).toNat = xs.size - 1 - m := by omega
      rw [this]
  rw [e, PySem.W.krv_range, List.filterMap_reverse, PySem.W.krv_all]
theorem getItem_tuple_rev {t sl : Addr} {items : Array Value} {vl vu vs : Value} {Q : Value → Shared → Prop} (ht : IsTup s.heap t items) (hs : s.heap.IsSliceOf sl vl vu vs) (pl : IsPart vl none) (pu : IsPart vu none) (ps : IsPart vs (some (-1)))
    (h : Q (.ref s.heap.objs.size) { s with heap := s.heap.push { cls := .type "tuple", data := .seq items.toList.reverse.toArray } })
    (hsz : items.size ≤ sizeLine) : wpAny (model prog w) A (getItem (.ref t) (.ref sl)) Q E s := by
  have htake : sizeOk (.seq items.toList.reverse.toArray) := by
    show items.toList.reverse.toArray.size ≤ sizeLine
    rw [List.size_toArray, List.length_reverse, Array.length_toList]
    exact hsz
  obtain ⟨os, hos, hcs, hds⟩ := id hs
  have hTs : s.TypeIs (.ref sl) "slice" := ⟨os, hos, hcs⟩
  unfold getItem
  try with_reducible refine wpAny_holding ?_
  first | refine wpAny_bind (wpAny_pure ?_) | skip
  refine wpAny_bind (wpAny_sequenceKey ht.typeIs (by decide) ?_)
  refine wpAny_bind (wpAny_callSpecial?_slot (name := Str.ofString "__getitem__") ht.typeIs PyProof.Rows.slot_tuple_getitem
    (wpAny_call_entry PyProof.Rows.slot_tuple_getitem ht.typeIs entry_tuple_getitem ?_ (args_tuple_getitem _ _)))
  show wpAny _ _ (Builtin.Tuple.tupleItemsOf (.ref t) >>= _) _ _ s
  refine wpAny_bind (tupleItemsOf_ ht ?_)
  refine wpAny_bind (wpAny_typeOf hTs ?_)
  rw [if_pos (by decide)]
  refine wpAny_bind (applied_rev hs pl pu ps ?_)
  show wpAny _ _ (if ((((items.size : Nat) : Int) - 1) == 0 && (-1 : Int) == 1 && items.size == items.size) = true then _ else _) _ _ s
  rw [if_neg (by simp), pick_rev]
  first
    | exact wpAny_bind (m := Builtin.Tuple.tupleExact _) (wpAny_newObj_type (wpAny_pure ⟨_, rfl, wpAny_pure h⟩) htake)
    | exact wpAny_bind (m := Builtin.Tuple.tupleExact _) (wpAny_newObj_type (wpAny_bind (wpAny_pure (wpAny_pure ⟨_, rfl, wpAny_pure h⟩))) htake)
    | exact wpAny_bind (wpAny_bind (m := Builtin.Tuple.tupleExact _) (wpAny_newObj_type (wpAny_pure (wpAny_pure ⟨_, rfl, wpAny_pure h⟩)) htake))
    | exact wpAny_bind (wpAny_bind (m := Builtin.Tuple.tupleExact _) (wpAny_newObj_type (wpAny_pure ⟨_, rfl, wpAny_pure h⟩) htake))
end
section
variable {X : Cx}
def tRevT (K : PySem.W.Frag) (te : TE) : TE := fun σ H Q => te σ H fun x H1 => ∃ a xs, x = .ref a ∧ SqT K H1 a xs ∧ ∀ p, H1 p = none → Q (.ref p) (upd H1 p (.tup xs.reverse))
theorem pe_revT {e : Expr} {te : TE} {k : Nat} {p1 p2 p3 pos : Pos} (he : PE X e te) : PE X (.Subscript e (.Slice none none (some (.UnaryOp .USub (.Constant (.int 1) k p1) p2)) p3) pos) (tRevT X.K te) := by
  refine ⟨fun pins s σ H Q I h => ?_⟩
  refine Subscript_ (thn (he.run pins s σ H _ I h) fun v s1 ⟨x, H1, I1, r1, q1⟩ => ?_)
  obtain ⟨a, xs, ex, hx, q⟩ := q1
  subst ex
  cases r1
  have hst : PO X (some (.UnaryOp .USub (.Constant (.int 1) k p1) p2)) (tPart (tUn (rU fun i => .int (-i)) (tC (.int 1)))) := po_some (pe_un un_neg pe_int)
  refine wpAny_Slice (thn (po_none.run pins s1 σ H1 (fun o H2 => o = none ∧ H2 = H1) I1 ⟨rfl, rfl⟩) fun vl s2 ⟨l, H2, I2, pl, el, e2⟩ => ?_)
  subst el e2
  refine thn (po_none.run pins s2 σ H2 (fun o H3 => o = none ∧ H3 = H2) I2 ⟨rfl, rfl⟩) fun vu s3 ⟨u, H3, I3, pu, eu, e3⟩ => ?_
  subst eu e3
  refine thn (hst.run pins s3 σ H3 (fun o H4 => o = some (-1) ∧ H4 = H3) I3 ⟨1, rfl, -1, rfl, rfl, rfl⟩) fun vs s4 ⟨o, H4, I4, ps, eo, e4⟩ => ?_
  subst eo e4
  have I5 : Inv X pins σ H4 { s4 with heap := s4.heap.push { cls := .type "slice", data := .fields #[vl, vu, vs] } } := I4.kept (t' := s4.toks) fun b ob q => Heap.get?_push_of_some _ q
  obtain ⟨its, r, ht, hz⟩ := I5.tuple hx
  have hlen := r.length
  show wpAny (model X.prog X.w) X.A (subscriptTail e (.Slice none none (some (.UnaryOp .USub (.Constant (.int 1) k p1) p2)) p3) (.ref a) (.ref s4.heap.objs.size)) (EP X pins σ Q) X.xe { s4 with heap := s4.heap.push { cls := .type "slice", data := .fields #[vl, vu, vs] } }
  refine tail_any (ops := [.ref a, .ref s4.heap.objs.size]) ht.typeIs (PyProof.Rows.slot_tuple_getitem.lookup) ?_ (by with_unfolding_all rfl)
  refine getItem_tuple_rev ht (Heap.IsSliceOf.new _ vl vu vs) pl pu ps ?_ (by rw [List.size_toArray]; omega)
  refine ⟨.ref _, _, I5.laid (t' := s4.toks) (o := .tup xs.reverse) (fun b ob q => Heap.get?_push_of_some _ q) (Nat.le_refl _) ?_, rfl, q _ (I5.hok.fresh (Nat.le_refl _))⟩
  exact ⟨by rw [List.length_reverse]; exact hz, _, r.reverse, IsTup.new _ _⟩
end
end LR

set_option Elab.async false
set_option maxRecDepth 100000
set_option linter.all false
set_option maxHeartbeats 4000000
/-! pieces, flips, sums of ladders -/
namespace LR
open PySem PySem.Spec PyProof.Rows L2
/-- the stretches between the levels that equal h -/
def spl (h : Int) : List Int → List (List Int)
  | [] => [[]]
  | l :: r => if l = h then [] :: spl h r else (l :: (spl h r).headD []) :: (spl h r).tail
theorem spl_ne (h : Int) : ∀ r, ∃ p ps, spl h r = p :: ps
  | [] => ⟨_, _, rfl⟩
  | l :: r => by
    unfold spl
    split
    · exact ⟨_, _, rfl⟩
    · exact ⟨_, _, rfl⟩
theorem spl_hit {h : Int} {r : List Int} : spl h (h :: r) = [] :: spl h r := by rw [spl, if_pos rfl]
theorem spl_miss {h l : Int} {r : List Int} {p : List Int} {ps : List (List Int)} (c : ¬ l = h) (e : spl h r = p :: ps) : spl h (l :: r) = (l :: p) :: ps := by rw [spl, if_neg c, e]; rfl
theorem spl_cat (h : Int) (ms : List Int) : ∀ ls, spl h (ls ++ h :: ms) = spl h ls ++ spl h ms
  | [] => by rw [List.nil_append, spl_hit]; rfl
  | l :: r => by
    have ih := spl_cat h ms r
    by_cases c : l = h
    · subst c
      rw [List.cons_append, spl_hit, spl_hit, ih]; rfl
    · obtain ⟨p, ps, e⟩ := spl_ne h r
      rw [e] at ih
      rw [List.cons_append, spl_miss c ih, spl_miss c e]; rfl
theorem spl_snoc {h l : Int} (c : ¬ l = h) : ∀ (xs : List Int) (P : List (List Int)) (p : List Int), spl h xs = P ++ [p] → spl h (xs ++ [l]) = P ++ [p ++ [l]]
  | [], P, p, e => by
    have e : [[]] = P ++ [p] := e
    cases P with
    | nil => cases e; exact spl_miss c rfl
    | cons q P => injection e with _ e; cases P <;> cases e
  | x :: r, P, p, e => by
    obtain ⟨q, qs, eq⟩ := spl_ne h r
    by_cases d : x = h
    · subst d
      rw [spl_hit] at e
      rw [List.cons_append, spl_hit]
      cases P with
      | nil => injection e with _ e; rw [eq] at e; cases e
      | cons y P =>
        injection e with e1 e2
        rw [spl_snoc c r P p e2, e1]; rfl
    · rw [spl_miss d eq] at e
      cases P with
      | nil =>
        injection e with e1 e2
        subst e2
        have := spl_snoc c r [] q eq
        rw [List.cons_append, spl_miss d this, ← e1]; rfl
      | cons y P =>
        injection e with e1 e2
        have := spl_snoc c r (q :: P) p (by rw [eq, e2]; rfl)
        rw [List.cons_append, spl_miss d this, ← e1]; rfl
/-- what lies ahead of the pieces behind P, and behind those ahead of S -/
def pre (h : Int) (P : List (List Int)) : List Int := P.flatMap fun q => q ++ [h]
def suf (h : Int) (S : List (List Int)) : List Int := S.flatMap fun q => h :: q
theorem pre_cons {h q P} : pre h (q :: P) = q ++ [h] ++ pre h P := rfl
theorem suf_cons {h q P} : suf h (q :: P) = h :: q ++ suf h P := rfl
theorem pre_snoc {h q} (P : List (List Int)) : pre h (P ++ [q]) = pre h P ++ (q ++ [h]) := by
  unfold pre; rw [List.flatMap_append]; simp
theorem spl_at (h : Int) : ∀ (ls : List Int) (P : List (List Int)) (p : List Int) (S : List (List Int)), spl h ls = P ++ p :: S → ls = pre h P ++ p ++ suf h S
  | [], P, p, S, e => by
    have e : [[]] = P ++ p :: S := e
    cases P with
    | nil => cases e; rfl
    | cons q P => injection e with _ e; cases P <;> cases e
  | x :: r, P, p, S, e => by
    obtain ⟨q, T, eq⟩ := spl_ne h r
    by_cases d : x = h
    · subst d
      rw [spl_hit] at e
      cases P with
      | nil =>
        injection e with e1 e2
        subst e1
        have := spl_at x r [] q T eq
        rw [← e2, eq, suf_cons]
        show x :: r = [] ++ [] ++ (x :: q ++ suf x T)
        rw [this]; rfl
      | cons y P =>
        injection e with e1 e2
        subst e1
        have := spl_at x r P p S e2
        rw [pre_cons]
        conv => lhs; rw [this]
        simp
    · rw [spl_miss d eq] at e
      cases P with
      | nil =>
        injection e with e1 e2
        subst e1 e2
        have := spl_at h r [] q T eq
        conv => lhs; rw [this]
        simp [pre]
      | cons y P =>
        injection e with e1 e2
        subst e1
        have := spl_at h r (q :: P) p S (by rw [eq, e2]; rfl)
        conv => lhs; rw [this]
        simp [pre]
theorem spl_no (h : Int) : ∀ (ls : List Int) (p : List Int), p ∈ spl h ls → ∀ l ∈ p, l ∈ ls ∧ l ≠ h
  | [], p, hp, l, hl => by
    have : p = [] := by simpa [spl] using hp
    subst this; cases hl
  | x :: r, p, hp, l, hl => by
    obtain ⟨q, T, eq⟩ := spl_ne h r
    by_cases d : x = h
    · subst d
      rw [spl_hit] at hp
      rcases List.mem_cons.mp hp with e | hp
      · subst e; cases hl
      · have := spl_no x r p hp l hl
        exact ⟨List.mem_cons_of_mem _ this.1, this.2⟩
    · rw [spl_miss d eq] at hp
      rcases List.mem_cons.mp hp with e | hp
      · subst e
        rcases List.mem_cons.mp hl with e | hl
        · subst e; exact ⟨List.mem_cons_self, d⟩
        · have := spl_no h r q (by rw [eq]; exact List.mem_cons_self) l hl
          exact ⟨List.mem_cons_of_mem _ this.1, this.2⟩
      · have := spl_no h r p (by rw [eq]; exact List.mem_cons_of_mem _ hp) l hl
        exact ⟨List.mem_cons_of_mem _ this.1, this.2⟩
theorem get_split {α : Type} {l : List α} {k : Nat} {a : α} (h : l[k]? = some a) : l = l.take k ++ a :: l.drop (k + 1) := by
  obtain ⟨hk, e⟩ := List.getElem?_eq_some_iff.mp h
  rw [← e, List.getElem_cons_drop, List.take_append_drop]
/-- the length of the pieces ahead of place k, with the levels behind each of them -/
def off (h : Int) (ps : List (List Int)) (k : Nat) : Nat := (pre h (ps.take k)).length
theorem off_zero {h ps} : off h ps 0 = 0 := rfl
theorem off_succ {h : Int} {ps : List (List Int)} {k : Nat} {p : List Int} (e : ps[k]? = some p) : off h ps (k + 1) = off h ps k + p.length + 1 := by
  unfold off
  rw [List.take_succ, e]
  show (pre h (ps.take k ++ [p])).length = _
  rw [pre_snoc, List.length_append, List.length_append]; simp; omega
theorem off_mono {h : Int} {ps : List (List Int)} {k m : Nat} (hk : k ≤ m) (hm : m ≤ ps.length) : off h ps k ≤ off h ps m := by
  induction hk with
  | refl => exact Nat.le_refl _
  | @step m hk ih =>
    have hm' : m < ps.length := hm
    have h1 := off_succ (h := h) (List.getElem?_eq_getElem hm')
    have h2 := ih (by omega)
    show off h ps k ≤ off h ps (m + 1)
    omega
theorem off_all {h : Int} {ls : List Int} : off h (spl h ls) (spl h ls).length = ls.length + 1 := by
  have key : ∀ (ps : List (List Int)), ps ≠ [] → ∃ P p, ps = P ++ [p] := fun ps hn => ⟨ps.dropLast, ps.getLast hn, (List.dropLast_concat_getLast hn).symm⟩
  obtain ⟨q, T, eq⟩ := spl_ne h ls
  obtain ⟨P, p, e⟩ := key (spl h ls) (by rw [eq]; simp)
  have e2 := spl_at h ls P p [] e
  have e3 : (pre h P).length + p.length = ls.length := by
    conv => rhs; rw [e2]
    simp [suf]
  unfold off
  rw [List.take_length, e, pre_snoc]
  simp
  omega
/-- a place of the row and its piece -/
def InPiece (h : Int) (ls : List Int) (s : Nat) (k j : Nat) : Prop := ∃ p, (spl h ls)[k]? = some p ∧ j ≤ p.length ∧ s = off h (spl h ls) k + j
theorem piece_get {h : Int} {ls : List Int} {k : Nat} {p : List Int} (e : (spl h ls)[k]? = some p) : (∀ m, m < p.length → ls[off h (spl h ls) k + m]? = p[m]?) ∧ (k + 1 < (spl h ls).length → ls[off h (spl h ls) k + p.length]? = some h) := by
  have e2 := spl_at h ls _ _ _ (get_split e)
  have eo : off h (spl h ls) k = (pre h ((spl h ls).take k)).length := rfl
  rw [eo]
  constructor
  · intro m hm
    conv => lhs; arg 1; rw [e2]
    rw [List.append_assoc, List.getElem?_append_right (by omega), List.getElem?_append_left (by omega)]
    congr 1; omega
  · intro hk
    conv => lhs; arg 1; rw [e2]
    rw [List.append_assoc, List.getElem?_append_right (by omega), List.getElem?_append_right (by omega)]
    obtain ⟨q, hq⟩ : ∃ q, (spl h ls)[k + 1]? = some q := ⟨_, List.getElem?_eq_getElem hk⟩
    have : (spl h ls).drop (k + 1) = q :: (spl h ls).drop (k + 2) := by
      obtain ⟨hk2, e3⟩ := List.getElem?_eq_some_iff.mp hq
      rw [← e3, List.getElem_cons_drop]
    rw [this, suf_cons]
    rw [show (pre h ((spl h ls).take k)).length + p.length - (pre h ((spl h ls).take k)).length - p.length = 0 by omega]
    rfl
theorem gap_same {h : Int} {ls p : List Int} {k i j : Nat} {g : Int} (e : (spl h ls)[k]? = some p) (hi : i ≤ p.length) (hj : j ≤ p.length) (hg : IsGap p (min i j) (max i j) g) :
    IsGap ls (min (off h (spl h ls) k + i) (off h (spl h ls) k + j)) (max (off h (spl h ls) k + i) (off h (spl h ls) k + j)) g := by
  have key := (piece_get e).1
  obtain ⟨g0, g1, g2⟩ := hg
  refine ⟨g0, fun m z a b em => ?_, ?_⟩
  · have := key (m - off h (spl h ls) k) (by omega)
    rw [show off h (spl h ls) k + (m - off h (spl h ls) k) = m by omega, em] at this
    exact g1 _ _ (by omega) (by omega) this.symm
  · rcases g2 with g2 | ⟨m, a, b, em⟩
    · exact .inl g2
    · exact .inr ⟨off h (spl h ls) k + m, by omega, by omega, by rw [key m (by omega), em]⟩
theorem gap_level {h : Int} {ls : List Int} {lo hi m : Nat} (h0 : 0 ≤ h) (hb : ∀ l ∈ ls, l ≤ h) (a : lo ≤ m) (b : m < hi) (e : ls[m]? = some h) : IsGap ls lo hi h :=
  ⟨h0, fun m z _ _ e => hb z (List.mem_of_getElem? e), .inr ⟨m, a, b, e⟩⟩
theorem gap_other {h : Int} {ls : List Int} {s t k j k' j' : Nat} (h0 : 0 ≤ h) (hb : ∀ l ∈ ls, l ≤ h) (a : InPiece h ls s k j) (b : InPiece h ls t k' j') (n : k ≠ k') : IsGap ls (min s t) (max s t) h := by
  have key : ∀ {s t k j k' j' : Nat}, InPiece h ls s k j → InPiece h ls t k' j' → k < k' → ∃ m, s ≤ m ∧ m < t ∧ ls[m]? = some h := by
    rintro s t k j k' j' ⟨p, e, hj, rfl⟩ ⟨p', e', hj', rfl⟩ hk
    have hk' := (List.getElem?_eq_some_iff.mp e').1
    refine ⟨off h (spl h ls) k + p.length, by omega, ?_, (piece_get e).2 (by omega)⟩
    have h1 := off_succ (h := h) e
    have h2 := off_mono (h := h) (ps := spl h ls) (k := k + 1) (m := k') (by omega) (by omega)
    omega
  by_cases c : k < k'
  · obtain ⟨m, m1, m2, m3⟩ := key a b c
    exact gap_level h0 hb (m := m) (by omega) (by omega) m3
  · obtain ⟨m, m1, m2, m3⟩ := key b a (by omega)
    exact gap_level h0 hb (m := m) (by omega) (by omega) m3
theorem gapI_of {ls : List Int} {u w g : Int} (hb : ∀ l ∈ ls, 1 ≤ l) (hu : 0 ≤ u) (hw : 0 ≤ w) (h : IsGap ls (min u.toNat w.toNat) (max u.toNat w.toNat) g) : gapI ls u w = g := (isGap_gapI hb hu hw).one h
theorem gap_rev {ls : List Int} {lo hi : Nat} {g : Int} (hh : hi ≤ ls.length) (h : IsGap ls lo hi g) : IsGap ls.reverse (ls.length - hi) (ls.length - lo) g := by
  obtain ⟨g0, g1, g2⟩ := h
  refine ⟨g0, fun m z a b e => ?_, ?_⟩
  · have hm : m < ls.length := by
      have := (List.getElem?_eq_some_iff.mp e).1
      rwa [List.length_reverse] at this
    rw [List.getElem?_reverse hm] at e
    exact g1 _ _ (by omega) (by omega) e
  · rcases g2 with g2 | ⟨m, a, b, e⟩
    · exact .inl g2
    · refine .inr ⟨ls.length - 1 - m, by omega, by omega, ?_⟩
      rw [List.getElem?_reverse (by omega)]
      rw [show ls.length - 1 - (ls.length - 1 - m) = m by omega, e]
theorem gapI_rev {ls : List Int} {u w : Int} (hb : ∀ l ∈ ls, 1 ≤ l) (hu : 0 ≤ u ∧ u ≤ ls.length) (hw : 0 ≤ w ∧ w ≤ ls.length) : gapI ls.reverse (ls.length - u) (ls.length - w) = gapI ls u w := by
  refine gapI_of (fun l hl => hb l (List.mem_reverse.mp hl)) (by omega) (by omega) ?_
  have := gap_rev (by omega) (isGap_gapI hb hu.1 hw.1)
  have e1 : min (((ls.length : Int) - u).toNat) (((ls.length : Int) - w).toNat) = ls.length - max u.toNat w.toNat := by omega
  have e2 : max (((ls.length : Int) - u).toNat) (((ls.length : Int) - w).toNat) = ls.length - min u.toNat w.toNat := by omega
  rw [e1, e2]
  exact this
theorem cnt_rev (lv : Int) (l : List Int) : cnt lv l.reverse = cnt lv l := by unfold cnt; rw [List.filter_reverse, List.length_reverse]
theorem cn_rev {ls : List Int} {lv : Int} {u : Nat} (hu : u ≤ ls.length) : cn ls.reverse lv (ls.length - u) = cnt lv (ls.drop u) := by
  unfold cn
  rw [List.take_reverse, cnt_rev]
  congr 2
  omega
theorem cat_tup {K : PySem.W.Frag} {H : Hp} {a b : Addr} {xs ys : List V} {Q : VK} (ha : H a = some (.tup xs)) (hb : H b = some (.tup ys)) (hz : xs.length + ys.length ≤ 10000) (k : ∀ p H', Same H H' → H' p = some (.tup (xs ++ ys)) → Q (.ref p) H') : rCatA K (.ref a) (.ref b) H Q :=
  ⟨a, b, xs, ys, rfl, rfl, SqT.of ha, SqT.of hb, (by rw [sizeLine_eq]; omega), fun e => k b H (Same.refl _) (by rw [e]; exact hb), fun _ e => k a H (Same.refl _) (by rw [e, List.append_nil]; exact ha), fun _ _ p hp => k p _ (same_new hp) upd_same⟩
/-- places a to b of the row -/
def cut (ls : List Int) (a b : Nat) : List Int := (ls.drop a).take (b - a)
theorem cut_full {ls : List Int} : cut ls 0 ls.length = ls := by unfold cut; simp
theorem cut_end {ls : List Int} {a : Nat} : cut ls a ls.length = ls.drop a := by
  unfold cut; rw [List.take_of_length_le]; rw [List.length_drop]; exact Nat.le_refl _
theorem cut_one {ls : List Int} {a : Nat} : cut ls a a = [] := by unfold cut; simp
theorem cut_snoc {ls : List Int} {a b : Nat} {l : Int} (hab : a ≤ b) (e : ls[b]? = some l) : cut ls a (b + 1) = cut ls a b ++ [l] := by
  unfold cut
  rw [show b + 1 - a = (b - a) + 1 by omega, List.take_succ, List.getElem?_drop, show a + (b - a) = b by omega, e]
  rfl
theorem sIx_nat {n d a : Nat} (h : a ≤ n) : HT.sIx n d (some (a : Int)) = a := by
  unfold HT.sIx
  simp only []
  rw [if_neg (by omega)]; omega
theorem cutV_nat {ls : List Int} {a b : Nat} (hb : b ≤ ls.length) (ha : a ≤ ls.length) : cutV (ls.map V.int) (some (a : Int)) (some (b : Int)) = (cut ls a b).map V.int := by
  unfold cutV cut
  rw [sIx_nat (by rw [List.length_map]; omega), sIx_nat (by rw [List.length_map]; omega), List.map_take, List.map_drop]
theorem sl_cut {K : PySem.W.Frag} {H : Hp} {tl : Addr} {ls : List Int} {a b : Nat} {Q : VK} (hT : H tl = some (.tup (ls.map V.int))) (hab : a ≤ b) (hb : b ≤ ls.length)
    (k : ∀ p H', Same H H' → H' p = some (.tup ((cut ls a b).map V.int)) → Q (.ref p) H') : rSlA K (.ref tl) (some (a : Int)) (some (b : Int)) H Q := by
  refine ⟨tl, _, rfl, SqT.of hT, fun ⟨e1, e2⟩ => ?_, fun _ p hp => k p _ (same_new hp) (by rw [upd_same, cutV_nat hb (by omega)])⟩
  rw [sIx_nat (by rw [List.length_map]; omega)] at e1
  rw [sIx_nat (by rw [List.length_map]; omega), List.length_map] at e2
  subst e1 e2
  exact k tl H (Same.refl _) (by rw [cut_full]; exact hT)
theorem sl_tail {K : PySem.W.Frag} {H : Hp} {tl : Addr} {ls : List Int} {a : Nat} {Q : VK} (hT : H tl = some (.tup (ls.map V.int))) (ha : a ≤ ls.length)
    (k : ∀ p H', Same H H' → H' p = some (.tup ((ls.drop a).map V.int)) → Q (.ref p) H') : rSlA K (.ref tl) (some (a : Int)) none H Q := by
  have ec : cutV (ls.map V.int) (some (a : Int)) none = (ls.drop a).map V.int := by
    unfold cutV
    rw [sIx_nat (by rw [List.length_map]; omega)]
    show ((ls.map V.int).drop a).take ((ls.map V.int).length - a) = _
    rw [List.take_of_length_le (by rw [List.length_drop]; exact Nat.le_refl _), List.map_drop]
  refine ⟨tl, _, rfl, SqT.of hT, fun ⟨e1, e2⟩ => ?_, fun _ p hp => k p _ (same_new hp) (by rw [upd_same, ec])⟩
  rw [sIx_nat (by rw [List.length_map]; omega)] at e1
  subst e1
  exact k tl H (Same.refl _) (by rw [List.drop_zero]; exact hT)
/-- the places of the level h below i -/
def mks (h : Int) (ls : List Int) (i : Nat) : List Nat := (List.range i).filter fun k => decide (ls[k]? = some h)
theorem mks_succ {h : Int} {ls : List Int} {i : Nat} : mks h ls (i + 1) = mks h ls i ++ if ls[i]? = some h then [i] else [] := by
  unfold mks
  rw [List.range_succ, List.filter_append]
  congr 1
  by_cases c : ls[i]? = some h
  · rw [if_pos c, List.filter_cons_of_pos (by simp [c])]; rfl
  · rw [if_neg c, List.filter_cons_of_neg (by simp [c])]; rfl
theorem mks_lt {h : Int} {ls : List Int} {i m : Nat} (hm : m ∈ mks h ls i) : m < i := by
  unfold mks at hm
  exact List.mem_range.mp (List.mem_filter.mp hm).1
def stF (ls : List Int) (a : List (List Int) × Nat) (m : Nat) : List (List Int) × Nat := (a.1 ++ [cut ls a.2 m], m + 1)
theorem stF_le {ls : List Int} {n : Nat} : ∀ (l : List Nat) (a : List (List Int) × Nat), a.2 ≤ n → (∀ m ∈ l, m < n) → (l.foldl (stF ls) a).2 ≤ n
  | [], _, h, _ => h
  | m :: r, a, _, h => stF_le r _ (h m List.mem_cons_self) fun k hk => h k (List.mem_cons_of_mem _ hk)
theorem fold_spl {h : Int} {ls : List Int} : ∀ i, i ≤ ls.length → spl h (ls.take i) = ((mks h ls i).foldl (stF ls) ([], 0)).1 ++ [cut ls ((mks h ls i).foldl (stF ls) ([], 0)).2 i]
  | 0, _ => rfl
  | i + 1, hi => by
    have ih := fold_spl (h := h) (ls := ls) i (by omega)
    have le := stF_le (ls := ls) (n := i) (mks h ls i) ([], 0) (Nat.zero_le _) (fun m hm => mks_lt hm)
    have el : ls[i]? = some ls[i] := List.getElem?_eq_getElem (by omega)
    have et : ls.take (i + 1) = ls.take i ++ [ls[i]] := by rw [List.take_succ, el]; rfl
    rw [mks_succ, et, List.foldl_append]
    by_cases c : ls[i]? = some h
    · rw [if_pos c]
      have e : ls[i] = h := by rw [el] at c; injection c
      rw [e, spl_cat, ih]
      show _ ++ [[]] = (((mks h ls i).foldl (stF ls) ([], 0)).1 ++ [cut ls ((mks h ls i).foldl (stF ls) ([], 0)).2 i]) ++ [cut ls (i + 1) (i + 1)]
      rw [cut_one]
    · rw [if_neg c]
      have e : ¬ ls[i] = h := fun q => c (by rw [el, q])
      rw [spl_snoc e _ _ _ ih]
      show _ = ((mks h ls i).foldl (stF ls) ([], 0)).1 ++ [cut ls ((mks h ls i).foldl (stF ls) ([], 0)).2 (i + 1)]
      rw [cut_snoc le el]
theorem fold_all {h : Int} {ls : List Int} : ((mks h ls ls.length ++ [ls.length]).foldl (stF ls) ([], 0)).1 = spl h ls := by
  have := fold_spl (h := h) (ls := ls) ls.length (Nat.le_refl _)
  rw [List.take_length] at this
  rw [List.foldl_append, this]
  rfl
/-- lists of tuples in the heap -/
def PartsAt (H : Hp) (a : Addr) (ps : List (List Int)) : Prop := ∃ ts : List Addr, H a = some (.lst (ts.map V.ref)) ∧ ts.length = ps.length ∧ ∀ (k : Nat) (t : Addr) (p : List Int), ts[k]? = some t → ps[k]? = some p → H t = some (.tup (p.map V.int))
theorem PartsAt.same {H H' a ps} (s : Same H H') (h : PartsAt H a ps) : PartsAt H' a ps := by
  obtain ⟨ts, h1, h2, h3⟩ := h
  exact ⟨ts, s _ _ h1, h2, fun k t p e1 e2 => s _ _ (h3 k t p e1 e2)⟩
theorem PartsAt.keep {H H' a ps q} (s : Keep q H H') (hq : ∃ l, H q = some (.lst l)) (n : a ≠ q) (h : PartsAt H a ps) : PartsAt H' a ps := by
  obtain ⟨ts, h1, h2, h3⟩ := h
  obtain ⟨l, hq⟩ := hq
  exact ⟨ts, s _ n _ h1, h2, fun k t p e1 e2 => s _ (ne_of (h3 k t p e1 e2) hq (by intro z; cases z)) _ (h3 k t p e1 e2)⟩
theorem PartsAt.push {H D ps q p} (h : PartsAt H D ps) (hq : H q = some (.tup (p.map V.int))) : ∃ xs, H D = some (.lst xs) ∧ xs.length = ps.length ∧ PartsAt (upd H D (.lst (xs ++ [.ref q]))) D (ps ++ [p]) := by
  obtain ⟨ts, h1, h2, h3⟩ := h
  refine ⟨_, h1, by rw [List.length_map, h2], ts ++ [q], by rw [upd_same, List.map_append]; rfl, by rw [List.length_append, List.length_append, h2]; rfl, fun k t r e1 e2 => ?_⟩
  have key : H t = some (.tup (r.map V.int)) := by
    by_cases c : k < ts.length
    · rw [List.getElem?_append_left c] at e1
      rw [List.getElem?_append_left (by omega)] at e2
      exact h3 k t r e1 e2
    · rw [List.getElem?_append_right (by omega)] at e1
      rw [List.getElem?_append_right (by omega)] at e2
      have : k = ts.length := by
        have := (List.getElem?_eq_some_iff.mp e1).1
        simp at this; omega
      subst this
      rw [Nat.sub_self] at e1
      rw [h2, Nat.sub_self] at e2
      cases e1; cases e2
      exact hq
  rw [upd_ne (ne_of key h1 (by intro z; cases z))]
  exact key
theorem parts_nil {H : Hp} {D : Addr} (h : H D = some (.lst [])) : PartsAt H D [] := ⟨[], h, rfl, fun k t p e _ => by simp at e⟩
def tupD (p : List Int) : Dt := .tup (p.map Dt.int)
theorem ats_of {H : Hp} : ∀ {ts : List Addr} {ps : List (List Int)}, ts.length = ps.length → (∀ p ∈ ps, p.length ≤ 100000) → (∀ (k : Nat) (t : Addr) (p : List Int), ts[k]? = some t → ps[k]? = some p → H t = some (.tup (p.map V.int))) → Ats H (ts.map V.ref) (ps.map tupD)
  | [], [], _, _, _ => .nil
  | t :: ts, p :: ps, hl, hz, h => .cons (.tup (h 0 t p rfl rfl) (ats_ints H p) (by rw [List.length_map]; exact hz p List.mem_cons_self)) (ats_of (by simpa using hl) (fun q hq => hz q (List.mem_cons_of_mem _ hq)) fun k t' p' e1 e2 => h (k + 1) t' p' (by simpa using e1) (by simpa using e2))
  | [], _ :: _, hl, _, _ => by simp at hl
  | _ :: _, [], hl, _, _ => by simp at hl
theorem PartsAt.at {H a ps} (h : PartsAt H a ps) (hz : ps.length ≤ 100000) (hp : ∀ p ∈ ps, p.length ≤ 100000) : At H (.ref a) (.lst (ps.map tupD)) := by
  obtain ⟨ts, h1, h2, h3⟩ := h
  exact .lst h1 (ats_of h2 hp h3) (by rw [List.length_map, h2]; exact hz)
theorem deps_parts : ∀ ps : List (List Int), deps (ps.map tupD) ≤ 1
  | [] => Nat.zero_le _
  | p :: ps => by
    rw [List.map_cons, deps]
    have : dep (tupD p) = 1 := by show deps (p.map Dt.int) + 1 = 1; rw [deps_ints]
    have := deps_parts ps
    omega
theorem tupD_inj {p q : List Int} (h : tupD p = tupD q) : p = q := by
  unfold tupD at h
  injection h with h
  exact ats_ints_eq h
theorem PartsAt.get {H a ps} (h : PartsAt H a ps) {k : Nat} {p : List Int} (e : ps[k]? = some p) : ∃ t xs, H a = some (.lst xs) ∧ xs.length = ps.length ∧ xs[k]? = some (.ref t) ∧ H t = some (.tup (p.map V.int)) := by
  obtain ⟨ts, h1, h2, h3⟩ := h
  have hk : k < ts.length := by rw [h2]; exact (List.getElem?_eq_some_iff.mp e).1
  exact ⟨ts[k], _, h1, by rw [List.length_map, h2], by rw [List.getElem?_map, List.getElem?_eq_getElem hk]; rfl, h3 k _ p (List.getElem?_eq_getElem hk) e⟩
theorem PartsAt.len {H a ps} (h : PartsAt H a ps) : ∃ xs, H a = some (.lst xs) ∧ xs.length = ps.length := by
  obtain ⟨ts, h1, h2, _⟩ := h
  exact ⟨_, h1, by rw [List.length_map, h2]⟩
theorem spl_len (h : Int) : ∀ ls, (spl h ls).length ≤ ls.length + 1
  | [] => Nat.le_refl _
  | l :: r => by
    have := spl_len h r
    obtain ⟨q, T, eq⟩ := spl_ne h r
    by_cases d : l = h
    · subst d; rw [spl_hit]; simp; exact this
    · rw [spl_miss d eq]; rw [eq] at this; simp at this ⊢; omega
theorem spl_plen {h : Int} {ls p : List Int} (hp : p ∈ spl h ls) : p.length ≤ ls.length := by
  obtain ⟨P, S, e⟩ := List.append_of_mem hp
  have := spl_at h ls P p S e
  conv => rhs; rw [this]
  simp; omega
end LR

set_option Elab.async false
set_option maxRecDepth 100000
set_option linter.all false
set_option maxHeartbeats 4000000
namespace LR
open PySem PySem.Spec PyProof.Rows L2
def topS (i : Nat) : Stmt := PySem.Challenge.pw_ladderreach_k20_pieces_flipped_and_joine.main.body.getD i (.Pass ⟨0, 0, 0, 0⟩)
abbrev s_check_height : Stmt := topS 14
abbrev N_check_height : List Str := ["height"]
theorem sc_check_height : FnScope N_check_height ["height"] (defScope s_check_height) := ⟨rfl, rfl, rfl, by decide +kernel, rfl, by decide +kernel, by decide +kernel⟩
abbrev s_check_same_height : Stmt := topS 15
abbrev N_check_same_height : List Str := ["one", "other"]
theorem sc_check_same_height : FnScope N_check_same_height ["one", "other"] (defScope s_check_same_height) := ⟨rfl, rfl, rfl, by decide +kernel, rfl, by decide +kernel, by decide +kernel⟩
abbrev s_check_row : Stmt := topS 18
abbrev N_check_row : List Str := ["height", "row", "most", "index", "level"]
theorem sc_check_row : FnScope N_check_row ["height", "row", "most"] (defScope s_check_row) := ⟨rfl, rfl, rfl, by decide +kernel, rfl, by decide +kernel, by decide +kernel⟩
abbrev s_check_step : Stmt := topS 16
abbrev N_check_step : List Str := ["top", "step"]
theorem sc_check_step : FnScope N_check_step ["top", "step"] (defScope s_check_step) := ⟨rfl, rfl, rfl, by decide +kernel, rfl, by decide +kernel, by decide +kernel⟩
abbrev s__counts_from : Stmt := topS 25
abbrev N__counts_from : List Str := ["level", "levels", "counts", "other"]
theorem sc__counts_from : FnScope N__counts_from ["level", "levels"] (defScope s__counts_from) := ⟨rfl, rfl, rfl, by decide +kernel, rfl, by decide +kernel, by decide +kernel⟩
abbrev s_pool : Stmt := topS 27
abbrev N_pool : List Str := ["script", "k", "cell"]
theorem sc_pool : FnScope N_pool ["script", "k"] (defScope s_pool) := ⟨rfl, rfl, rfl, by decide +kernel, rfl, by decide +kernel, by decide +kernel⟩
abbrev s_draw : Stmt := topS 28
abbrev N_draw : List Str := ["pool", "many", "value", "mixed"]
theorem sc_draw : FnScope N_draw ["pool", "many"] (defScope s_draw) := ⟨rfl, rfl, rfl, by decide +kernel, rfl, by decide +kernel, by decide +kernel⟩
abbrev s_levels : Stmt := topS 29
abbrev N_levels : List Str := ["pool", "height", "limit", "size", "index"]
theorem sc_levels : FnScope N_levels ["pool", "height", "limit"] (defScope s_levels) := ⟨rfl, rfl, rfl, by decide +kernel, rfl, by decide +kernel, by decide +kernel⟩
abbrev s_number : Stmt := topS 30
abbrev N_number : List Str := ["value"]
theorem sc_number : FnScope N_number ["value"] (defScope s_number) := ⟨rfl, rfl, rfl, by decide +kernel, rfl, by decide +kernel, by decide +kernel⟩
abbrev s_same : Stmt := topS 31
abbrev N_same : List Str := ["answer", "due", "k"]
theorem sc_same : FnScope N_same ["answer", "due"] (defScope s_same) := ⟨rfl, rfl, rfl, by decide +kernel, rfl, by decide +kernel, by decide +kernel⟩
abbrev s_gap : Stmt := topS 32
abbrev N_gap : List Str := ["levels", "one", "other", "greatest", "k"]
theorem sc_gap : FnScope N_gap ["levels", "one", "other"] (defScope s_gap) := ⟨rfl, rfl, rfl, by decide +kernel, rfl, by decide +kernel, by decide +kernel⟩
abbrev s_parts : Stmt := topS 33
abbrev N_parts : List Str := ["levels", "height", "parts", "begin", "mark", "k"]
theorem sc_parts : FnScope N_parts ["levels", "height"] (defScope s_parts) := ⟨rfl, rfl, rfl, by decide +kernel, rfl, by decide +kernel, by decide +kernel⟩
abbrev s_part_of : Stmt := topS 34
abbrev N_part_of : List Str := ["parts", "step", "k"]
theorem sc_part_of : FnScope N_part_of ["parts", "step"] (defScope s_part_of) := ⟨rfl, rfl, rfl, by decide +kernel, rfl, by decide +kernel, by decide +kernel⟩
abbrev s_pieces_good : Stmt := topS 35
abbrev N_pieces_good : List Str := ["pool", "made", "levels", "height", "parts", "found", "turn", "one", "other", "here", "there", "due", "inner"]
theorem sc_pieces_good : FnScope N_pieces_good ["pool", "made", "levels", "height"] (defScope s_pieces_good) := ⟨rfl, rfl, rfl, by decide +kernel, rfl, by decide +kernel, by decide +kernel⟩
abbrev s_flips : Stmt := topS 36
abbrev N_flips : List Str := ["pool", "made", "levels", "height", "turned", "back", "last", "turn", "one", "other", "level", "due", "beyond", "passed"]
theorem sc_flips : FnScope N_flips ["pool", "made", "levels", "height"] (defScope s_flips) := ⟨rfl, rfl, rfl, by decide +kernel, rfl, by decide +kernel, by decide +kernel⟩
abbrev s_sum : Stmt := topS 37
abbrev N_sum : List Str := ["first", "second", "found", "answer", "e", "above"]
theorem sc_sum : FnScope N_sum ["first", "second"] (defScope s_sum) := ⟨rfl, rfl, rfl, by decide +kernel, rfl, by decide +kernel, by decide +kernel⟩
abbrev s_sum_due : Stmt := topS 38
abbrev N_sum_due : List Str := ["height", "levels", "size", "others", "row"]
theorem sc_sum_due : FnScope N_sum_due ["height", "levels", "size", "others"] (defScope s_sum_due) := ⟨rfl, rfl, rfl, by decide +kernel, rfl, by decide +kernel, by decide +kernel⟩
abbrev s_joined : Stmt := topS 39
abbrev N_joined : List Str := ["pool", "first", "second", "levels", "others", "rest", "height", "both", "turn", "one", "other", "row", "third", "left", "right"]
theorem sc_joined : FnScope N_joined ["pool", "first", "second", "levels", "others", "rest", "height"] (defScope s_joined) := ⟨rfl, rfl, rfl, by decide +kernel, rfl, by decide +kernel, by decide +kernel⟩
abbrev s_law : Stmt := topS 40
abbrev N_law : List Str := ["script", "pool", "height", "size", "way", "levels", "others", "index", "count", "rest", "first", "second", "due"]
theorem sc_law : FnScope N_law ["script"] (defScope s_law) := ⟨rfl, rfl, rfl, by decide +kernel, rfl, by decide +kernel, by decide +kernel⟩
abbrev s_L_init : Stmt := inClass (topS 24) 1
abbrev N_L_init : List Str := ["self", "height", "levels", "level"]
theorem sc_L_init : FnScope N_L_init ["self", "height", "levels"] (defScope s_L_init) := ⟨rfl, rfl, rfl, by decide +kernel, rfl, by decide +kernel, by decide +kernel⟩
abbrev s_L_gap : Stmt := inClass (topS 24) 8
abbrev N_L_gap : List Str := ["self", "one", "other"]
theorem sc_L_gap : FnScope N_L_gap ["self", "one", "other"] (defScope s_L_gap) := ⟨rfl, rfl, rfl, by decide +kernel, rfl, by decide +kernel, by decide +kernel⟩
abbrev s_L_high : Stmt := inClass (topS 24) 9
abbrev N_L_high : List Str := ["self", "level", "step"]
theorem sc_L_high : FnScope N_L_high ["self", "level", "step"] (defScope s_L_high) := ⟨rfl, rfl, rfl, by decide +kernel, rfl, by decide +kernel, by decide +kernel⟩
abbrev s_L_add : Stmt := inClass (topS 24) 4
abbrev N_L_add : List Str := ["self", "other"]
theorem sc_L_add : FnScope N_L_add ["self", "other"] (defScope s_L_add) := ⟨rfl, rfl, rfl, by decide +kernel, rfl, by decide +kernel, by decide +kernel⟩
abbrev s_L_eq : Stmt := inClass (topS 24) 2
abbrev N_L_eq : List Str := ["self", "other"]
theorem sc_L_eq : FnScope N_L_eq ["self", "other"] (defScope s_L_eq) := ⟨rfl, rfl, rfl, by decide +kernel, rfl, by decide +kernel, by decide +kernel⟩
abbrev s_L_pieces : Stmt := inClass (topS 24) 13
abbrev N_L_pieces : List Str := ["self", "found", "start", "index", "level"]
theorem sc_L_pieces : FnScope N_L_pieces ["self"] (defScope s_L_pieces) := ⟨rfl, rfl, rfl, by decide +kernel, rfl, by decide +kernel, by decide +kernel⟩
abbrev s_L_flipped : Stmt := inClass (topS 24) 14
abbrev N_L_flipped : List Str := ["self"]
theorem sc_L_flipped : FnScope N_L_flipped ["self"] (defScope s_L_flipped) := ⟨rfl, rfl, rfl, by decide +kernel, rfl, by decide +kernel, by decide +kernel⟩
abbrev s_BadLevel_init : Stmt := inClass (topS 8) 0
abbrev N_BadLevel_init : List Str := ["self", "index"]
theorem csc_BadLevel_init : CScope N_BadLevel_init ["self", "index"] (defScope s_BadLevel_init) := ⟨rfl, rfl, rfl, by decide +kernel, rfl, by decide +kernel, by decide +kernel, by decide +kernel⟩
abbrev s_NoSuchStep_init : Stmt := inClass (topS 10) 0
abbrev N_NoSuchStep_init : List Str := ["self", "step"]
theorem csc_NoSuchStep_init : CScope N_NoSuchStep_init ["self", "step"] (defScope s_NoSuchStep_init) := ⟨rfl, rfl, rfl, by decide +kernel, rfl, by decide +kernel, by decide +kernel, by decide +kernel⟩
abbrev s_NoSuchLevel_init : Stmt := inClass (topS 12) 0
abbrev N_NoSuchLevel_init : List Str := ["self", "level"]
theorem csc_NoSuchLevel_init : CScope N_NoSuchLevel_init ["self", "level"] (defScope s_NoSuchLevel_init) := ⟨rfl, rfl, rfl, by decide +kernel, rfl, by decide +kernel, by decide +kernel, by decide +kernel⟩
structure Cs where
  Ladder : Addr
  BadLevel : Addr
  NoSuchStep : Addr
  NoSuchLevel : Addr
  TooLarge : Addr
  HeightMismatch : Addr
  LadderreachError : Addr
  BadHeight : Addr
  ShapeMismatch : Addr
  GameError : Addr
structure Txt (P : Program) (K : PySem.W.Frag) (mg : Str → Option Value) (ζ : Cs) : Prop where
  n_len : mg "len" = none
  n_abs : mg "abs" = none
  n_max : mg "max" = none
  n_min : mg "min" = none
  n_isinstance : mg "isinstance" = none
  n_int : mg "int" = none
  n_bool : mg "bool" = none
  n_str : mg "str" = none
  n_list : mg "list" = none
  n_tuple : mg "tuple" = none
  n_range : mg "range" = none
  n_enumerate : mg "enumerate" = none
  n_ValueError : mg "ValueError" = none
  objc : ObjC K
  d_check_height : DefIn K mg "check_height" s_check_height ["height"]
  d_check_same_height : DefIn K mg "check_same_height" s_check_same_height ["one", "other"]
  d_check_row : DefIn K mg "check_row" s_check_row ["height", "row", "most"]
  d_check_step : DefIn K mg "check_step" s_check_step ["top", "step"]
  d__counts_from : DefIn K mg "_counts_from" s__counts_from ["level", "levels"]
  d_pool : DefIn K mg "_law_pool" s_pool ["script", "k"]
  d_draw : DefIn K mg "_law_draw" s_draw ["pool", "many"]
  d_levels : DefIn K mg "_law_levels" s_levels ["pool", "height", "limit"]
  d_number : DefIn K mg "_law_number" s_number ["value"]
  d_same : DefIn K mg "_law_same" s_same ["answer", "due"]
  d_gap : DefIn K mg "_law_gap" s_gap ["levels", "one", "other"]
  d_parts : DefIn K mg "_law_parts" s_parts ["levels", "height"]
  d_part_of : DefIn K mg "_law_part_of" s_part_of ["parts", "step"]
  d_pieces_good : DefIn K mg "_law_pieces_good" s_pieces_good ["pool", "made", "levels", "height"]
  d_flips : DefIn K mg "_law_flips" s_flips ["pool", "made", "levels", "height"]
  d_sum : DefIn K mg "_law_sum" s_sum ["first", "second"]
  d_sum_due : DefIn K mg "_law_sum_due" s_sum_due ["height", "levels", "size", "others"]
  d_joined : DefIn K mg "_law_joined" s_joined ["pool", "first", "second", "levels", "others", "rest", "height"]
  d_law : DefIn K mg "law" s_law ["script"]
  cl_Ladder : Cls K ζ.Ladder
  mg_Ladder : mg "Ladder" = some (.ref ζ.Ladder)
  na_Ladder_height : NoAttr K ζ.Ladder "height"
  na_Ladder_levels : NoAttr K ζ.Ladder "levels"
  na_Ladder_top : NoAttr K ζ.Ladder "top"
  na_Ladder__counts : NoAttr K ζ.Ladder "_counts"
  mk_Ladder : MakIn K mg "Ladder" ζ.Ladder "Ladder.__init__" s_L_init ["self", "height", "levels"]
  mt_L_gap : MetIn K ζ.Ladder "gap" "Ladder.gap" s_L_gap ["self", "one", "other"]
  mt_L_high : MetIn K ζ.Ladder "high" "Ladder.high" s_L_high ["self", "level", "step"]
  mt_L_add : MetIn K ζ.Ladder "__add__" "Ladder.__add__" s_L_add ["self", "other"]
  mt_L_eq : MetIn K ζ.Ladder "__eq__" "Ladder.__eq__" s_L_eq ["self", "other"]
  mt_L_pieces : MetIn K ζ.Ladder "pieces" "Ladder.pieces" s_L_pieces ["self"]
  mt_L_flipped : MetIn K ζ.Ladder "flipped" "Ladder.flipped" s_L_flipped ["self"]
  sf_Ladder : PySem.W.selfFirst K ζ.Ladder = true
  cv_Ladder_MOST_LEVELS : ∃ mc u, ClX.CRead K ζ.Ladder mc ∧ ClX.CVal K ζ.Ladder mc "MOST_LEVELS" (.int 24) u
  ai_Ladder : PySem.W.findIn K (.ref ζ.Ladder) "__class__" = some (some (.builtin "object.__class__"))
  mo_Ladder : PySem.W.mroIn K ζ.Ladder (.type "object") = some true
  kit_Ladder_Ladder : PySem.W.kitOne K (.ref ζ.Ladder) (.ref ζ.Ladder) = some true
  e_BadLevel : ErrIn P K mg "BadLevel" ζ.BadLevel "BadLevel.__init__" s_BadLevel_init "index"
  mg_BadLevel : mg "BadLevel" = some (.ref ζ.BadLevel)
  e_NoSuchStep : ErrIn P K mg "NoSuchStep" ζ.NoSuchStep "NoSuchStep.__init__" s_NoSuchStep_init "step"
  mg_NoSuchStep : mg "NoSuchStep" = some (.ref ζ.NoSuchStep)
  e_NoSuchLevel : ErrIn P K mg "NoSuchLevel" ζ.NoSuchLevel "NoSuchLevel.__init__" s_NoSuchLevel_init "level"
  mg_NoSuchLevel : mg "NoSuchLevel" = some (.ref ζ.NoSuchLevel)
  mg_TooLarge : mg "TooLarge" = some (.ref ζ.TooLarge)
  r_TooLarge : RseIn K mg "TooLarge" ζ.TooLarge
  mg_HeightMismatch : mg "HeightMismatch" = some (.ref ζ.HeightMismatch)
  r_HeightMismatch : RseIn K mg "HeightMismatch" ζ.HeightMismatch
  mg_LadderreachError : mg "LadderreachError" = some (.ref ζ.LadderreachError)
  mg_BadHeight : mg "BadHeight" = some (.ref ζ.BadHeight)
  mg_ShapeMismatch : mg "ShapeMismatch" = some (.ref ζ.ShapeMismatch)
  mg_GameError : mg "GameError" = some (.ref ζ.GameError)
  kit_HeightMismatch_LadderreachError : PySem.W.kitOne K (.ref ζ.HeightMismatch) (.ref ζ.LadderreachError) = some true
  kit_HeightMismatch_ValueError : PySem.W.kitOne K (.ref ζ.HeightMismatch) (.type "ValueError") = some true
  kit_HeightMismatch_TooLarge : PySem.W.kitOne K (.ref ζ.HeightMismatch) (.ref ζ.TooLarge) = some false
  kit_HeightMismatch_BadHeight : PySem.W.kitOne K (.ref ζ.HeightMismatch) (.ref ζ.BadHeight) = some false
  kit_HeightMismatch_BadLevel : PySem.W.kitOne K (.ref ζ.HeightMismatch) (.ref ζ.BadLevel) = some false
  kit_HeightMismatch_ShapeMismatch : PySem.W.kitOne K (.ref ζ.HeightMismatch) (.ref ζ.ShapeMismatch) = some false
  kit_HeightMismatch_GameError : PySem.W.kitOne K (.ref ζ.HeightMismatch) (.ref ζ.GameError) = some false
  kit_TooLarge_LadderreachError : PySem.W.kitOne K (.ref ζ.TooLarge) (.ref ζ.LadderreachError) = some true
  kit_TooLarge_ValueError : PySem.W.kitOne K (.ref ζ.TooLarge) (.type "ValueError") = some true
  kit_TooLarge_HeightMismatch : PySem.W.kitOne K (.ref ζ.TooLarge) (.ref ζ.HeightMismatch) = some false
  kit_TooLarge_BadHeight : PySem.W.kitOne K (.ref ζ.TooLarge) (.ref ζ.BadHeight) = some false
  kit_TooLarge_BadLevel : PySem.W.kitOne K (.ref ζ.TooLarge) (.ref ζ.BadLevel) = some false
  kit_TooLarge_ShapeMismatch : PySem.W.kitOne K (.ref ζ.TooLarge) (.ref ζ.ShapeMismatch) = some false
  kit_TooLarge_GameError : PySem.W.kitOne K (.ref ζ.TooLarge) (.ref ζ.GameError) = some false
  exm_HeightMismatch_HeightMismatch : PySem.W.exmOne K (.ref ζ.HeightMismatch) (.ref ζ.HeightMismatch) = some true
  exm_TooLarge_HeightMismatch : PySem.W.exmOne K (.ref ζ.TooLarge) (.ref ζ.HeightMismatch) = some false
  exm_TooLarge_TooLarge : PySem.W.exmOne K (.ref ζ.TooLarge) (.ref ζ.TooLarge) = some true
end LR

set_option Elab.async false
set_option maxRecDepth 100000
set_option linter.all false
set_option maxHeartbeats 4000000
namespace LR
open PySem PySem.Spec PyProof.Rows L2
section
variable {P : Program} {w : World} {K : PySem.W.Frag} {mg : Str → Option Value} {base : Heap} {ζ : Cs}
theorem err_BadLevel (T : Txt P K mg ζ) : ErrOk P w K mg base "BadLevel" ζ.BadLevel "index" := by
  refine T.e_BadLevel.ok csc_BadLevel_init (fun f cc cda fd A outer s H vs Q E S hr h => ⟨_, nss_cons (ns_expr (ne_supV (i := 0) S T.e_BadLevel.T T.e_BadLevel.sm T.e_BadLevel.mr T.e_BadLevel.sv (pa_cons (pe_joined (PJ.cons (pe_str) (PJ.cons (pe_fmt (pv 1)) (PJ.cons (pe_str) (PJ.nil))))) pa_nil)))
   (nss_ps (pss_one (ps_ost (pv 0) (pv 1)))), ?_⟩)
  obtain ⟨a, v, rfl, ha, hv, kk⟩ := h
  refine ⟨a, rfl, ha, js_c (n := 0) (by decide) (Nat.zero_le _) (by decide +kernel) fun acc h => js_v (n := 1000) (by decide) h (log_small hv) (fun Q q => ⟨_, rfl, q⟩) fun acc h => js_c (n := 2921) (by decide) h (by decide +kernel) fun acc h => ⟨by show 1 ≤ 1000; decide, ha, ?_⟩⟩
  exact ⟨_, rfl, _, rfl, a, ζ.BadLevel, rfl, T.e_BadLevel.T, T.e_BadLevel.no, .inl ⟨ha, kk⟩⟩
theorem err_NoSuchStep (T : Txt P K mg ζ) : ErrOk P w K mg base "NoSuchStep" ζ.NoSuchStep "step" := by
  refine T.e_NoSuchStep.ok csc_NoSuchStep_init (fun f cc cda fd A outer s H vs Q E S hr h => ⟨_, nss_cons (ns_expr (ne_supV (i := 0) S T.e_NoSuchStep.T T.e_NoSuchStep.sm T.e_NoSuchStep.mr T.e_NoSuchStep.sv (pa_cons (pe_joined (PJ.cons (pe_str) (PJ.cons (pe_fmt (pv 1)) (PJ.nil)))) pa_nil)))
   (nss_ps (pss_one (ps_ost (pv 0) (pv 1)))), ?_⟩)
  obtain ⟨a, v, rfl, ha, hv, kk⟩ := h
  refine ⟨a, rfl, ha, js_c (n := 0) (by decide) (Nat.zero_le _) (by decide +kernel) fun acc h => js_v (n := 1000) (by decide) h (log_small hv) (fun Q q => ⟨_, rfl, q⟩) fun acc h => ⟨by show 1 ≤ 1000; decide, ha, ?_⟩⟩
  exact ⟨_, rfl, _, rfl, a, ζ.NoSuchStep, rfl, T.e_NoSuchStep.T, T.e_NoSuchStep.no, .inl ⟨ha, kk⟩⟩
theorem err_NoSuchLevel (T : Txt P K mg ζ) : ErrOk P w K mg base "NoSuchLevel" ζ.NoSuchLevel "level" := by
  refine T.e_NoSuchLevel.ok csc_NoSuchLevel_init (fun f cc cda fd A outer s H vs Q E S hr h => ⟨_, nss_cons (ns_expr (ne_supV (i := 0) S T.e_NoSuchLevel.T T.e_NoSuchLevel.sm T.e_NoSuchLevel.mr T.e_NoSuchLevel.sv (pa_cons (pe_joined (PJ.cons (pe_str) (PJ.cons (pe_fmt (pv 1)) (PJ.nil)))) pa_nil)))
   (nss_ps (pss_one (ps_ost (pv 0) (pv 1)))), ?_⟩)
  obtain ⟨a, v, rfl, ha, hv, kk⟩ := h
  refine ⟨a, rfl, ha, js_c (n := 0) (by decide) (Nat.zero_le _) (by decide +kernel) fun acc h => js_v (n := 1000) (by decide) h (log_small hv) (fun Q q => ⟨_, rfl, q⟩) fun acc h => ⟨by show 1 ≤ 1000; decide, ha, ?_⟩⟩
  exact ⟨_, rfl, _, rfl, a, ζ.NoSuchLevel, rfl, T.e_NoSuchLevel.T, T.e_NoSuchLevel.no, .inl ⟨ha, kk⟩⟩
end
end LR

set_option Elab.async false
set_option maxRecDepth 100000
set_option linter.all false
set_option maxHeartbeats 4000000
namespace LR
open PySem PySem.Spec PyProof.Rows L2
section
variable {P : Program} {w : World} {K : PySem.W.Frag} {mg : Str → Option Value} {base : Heap} {ζ : Cs}
def spPool (K : PySem.W.Frag) : Sp := fun vs H Q _ => ∃ (a : Addr) (ns : List Int) (k : Nat), vs = [.ref a, .int k] ∧ SqL K H a (ns.map V.int) ∧ ∀ p x y z t, H p = none → Q (.ref p) (upd H p (.lst [.int x, .int y, .int z, .int t]))
theorem ok_pool (T : Txt P K mg ζ) : Cal P w K mg base 1 "_law_pool" (spPool K) := by
  refine T.d_pool.cal sc_pool (fun vs H Q E h => ?_) (fun f cdv A outer s H vs Q E hr h => ⟨_, pss_cons (ps_set (i := 2) sc_pool.nd rfl (Or.inl rfl) (pe_int))
 (pss_cons (ps_if (pt_cmpR op_lt (pv 1) (pe_callB call_len_seq (by rfl) T.n_len b_len (pa_cons (pv 0) (pa_nil))) (nomark _))
 (pss_one (ps_set (i := 2) sc_pool.nd rfl (Or.inl rfl) (pe_callB call_abs (by rfl) T.n_abs b_abs (pa_cons (pe_callTy call_int1 (by rfl) T.n_int b_int (pa_cons (pe_ix ix_list (pv 0) (pv 1) (fun _ _ => rfl)) (pa_nil))) (pa_nil)))))
 (pss_nil))
 (pss_cons (ps_if (pt_cmpR op_ge (pv 2) (pe_op op_pow (pe_int) (pe_int)) (nomark _))
 (pss_one (ps_ret (pe_lst (pa_cons (pe_int) (pa_cons (pv 2) (pa_cons (pe_int) (pa_cons (pe_op op_add (pv 1) (pe_int)) (pa_nil))))))))
 (pss_nil))
 (pss_one (ps_ret (pe_lst (pa_cons (pe_int) (pa_cons (pv 2) (pa_cons (pe_int) (pa_cons (pe_op op_add (pv 1) (pe_int)) (pa_nil)))))))))), ?_⟩)
  · obtain ⟨a, ns, k, rfl, _⟩ := h; rfl
  obtain ⟨a, ns, k, rfl, hS, kk⟩ := h
  refine ⟨_, rfl, _, rfl, a, _, rfl, .inl hS, _, _, rfl, rfl, _, rfl, ?_⟩
  refine ite2 (fun c => ?_) (fun _ => ?_)
  have hlt : k < ns.length := by
    have := of_decide_eq_true c
    rw [List.length_map] at this
    omega
  refine ⟨_, rfl, _, rfl, a, _, _, _, rfl, rfl, hS, atI_nat (v := V.int (ns[k])) (by rw [List.getElem?_map, List.getElem?_eq_getElem hlt]; rfl), .inl ⟨_, rfl, _, rfl, ?_⟩⟩
  all_goals
    refine ⟨_, rfl, _, _, rfl, rfl, ⟨by decide, by decide, by decide⟩, _, _, rfl, rfl, _, rfl, ?_⟩
    refine ite2 (fun _ => ?_) (fun _ => ?_)
    · exact ⟨_, rfl, _, rfl, _, _, rfl, rfl, by show 4 ≤ sizeLine; decide, fun p hp => kk p _ _ _ _ hp⟩
    · exact ⟨_, rfl, _, rfl, _, _, rfl, rfl, by show 4 ≤ sizeLine; decide, fun p hp => kk p _ _ _ _ hp⟩
end
end LR

set_option Elab.async false
set_option maxRecDepth 100000
set_option linter.all false
set_option maxHeartbeats 4000000
namespace LR
open PySem PySem.Spec PyProof.Rows L2
section
variable {P : Program} {w : World} {K : PySem.W.Frag} {mg : Str → Option Value} {base : Heap} {ζ : Cs}
def spDraw : Sp := fun vs H Q _ => ∃ (p : Addr) (many : Int), vs = [.ref p, .int many] ∧ IsPool H p ∧ 0 < many ∧ many < 1073741824 ∧ ∀ (v : Int) H', 0 ≤ v → v < many → Keep p H H' → IsPool H' p → Q (.int v) H'
theorem ok_draw (T : Txt P K mg ζ) : Cal P w K mg base 1 "_law_draw" spDraw := by
  refine T.d_draw.cal sc_draw (fun vs H Q E h => ?_) (fun f cdv A outer s H vs Q E hr h => ⟨_, pss_cons (ps_if (pt_cmpR op_eq (pe_ix ix_list (pv 0) (pe_int) (fun _ _ => rfl)) (pe_int) (nomark _))
 (pss_cons (ps_set (i := 2) sc_draw.nd rfl (Or.inl rfl) (pe_op op_mod (pe_callTy call_int1 (by rfl) T.n_int b_int (pa_cons (pe_ix ix_list (pv 0) (pe_int) (fun _ _ => rfl)) (pa_nil))) (pv 1)))
 (pss_cons (ps_asg (pe_op op_fdiv (pe_callTy call_int1 (by rfl) T.n_int b_int (pa_cons (pe_ix ix_list (pv 0) (pe_int) (fun _ _ => rfl)) (pa_nil))) (pv 1)) (pg_sub (pv 0) (pe_int) set_list))
 (pss_cons (ps_if (pt_cmpR op_eq (pe_ix ix_list (pv 0) (pe_int) (fun _ _ => rfl)) (pe_int) (nomark _))
 (pss_cons (ps_asg (pe_int) (pg_sub (pv 0) (pe_int) set_list))
 (pss_one (ps_asg (pv 2) (pg_sub (pv 0) (pe_int) set_list))))
 (pss_nil))
 (pss_one (ps_ret (pv 2))))))
 (pss_nil))
 (pss_cons (ps_asg (pe_op op_add (pe_ix ix_list (pv 0) (pe_int) (fun _ _ => rfl)) (pe_int)) (pg_sub (pv 0) (pe_int) set_list))
 (pss_cons (ps_set (i := 3) sc_draw.nd rfl (Or.inl rfl) (pe_op op_mod (pe_callTy call_int1 (by rfl) T.n_int b_int (pa_cons (pe_op op_add (pe_op op_add (pe_op op_add (pe_op op_mul (pe_ix ix_list (pv 0) (pe_int) (fun _ _ => rfl)) (pe_int)) (pe_op op_mul (pe_ix ix_list (pv 0) (pe_int) (fun _ _ => rfl)) (pe_int))) (pe_op op_mul (pe_ix ix_list (pv 0) (pe_int) (fun _ _ => rfl)) (pe_int))) (pe_int)) (pa_nil))) (pe_int)))
 (pss_cons (ps_set (i := 3) sc_draw.nd rfl (Or.inl rfl) (pe_op op_mod (pe_callTy call_int1 (by rfl) T.n_int b_int (pa_cons (pe_op op_add (pe_op op_add (pe_op op_mul (pv 3) (pv 3)) (pe_op op_mul (pe_ix ix_list (pv 0) (pe_int) (fun _ _ => rfl)) (pe_int))) (pe_ix ix_list (pv 0) (pe_int) (fun _ _ => rfl))) (pa_nil))) (pe_int)))
 (pss_cons (ps_set (i := 3) sc_draw.nd rfl (Or.inl rfl) (pe_op op_mod (pe_callTy call_int1 (by rfl) T.n_int b_int (pa_cons (pe_op op_add (pe_op op_mul (pv 3) (pv 3)) (pe_int)) (pa_nil))) (pe_int)))
 (pss_one (ps_ret (pe_op op_mod (pe_callTy call_int1 (by rfl) T.n_int b_int (pa_cons (pe_op op_fdiv (pv 3) (pe_int)) (pa_nil))) (pv 1)))))))), ?_⟩)
  · obtain ⟨a, ns, rfl, _⟩ := h; rfl
  obtain ⟨p, many, rfl, ⟨a, b, c, d, hp⟩, hm0, hm1, kk⟩ := h
  refine ⟨_, rfl, p, _, _, _, rfl, rfl, SqL.of hp, rfl, rfl, _, rfl, ?_⟩
  refine ite2 (fun _ => ?_) (fun _ => ?_)
  · refine ⟨_, rfl, p, _, _, _, rfl, rfl, SqL.of hp, rfl, .inl ⟨_, rfl, _, rfl, _, _, rfl, rfl, hm0, ?_⟩⟩
    refine ⟨_, rfl, p, _, _, _, rfl, rfl, SqL.of hp, rfl, .inl ⟨_, rfl, _, rfl, _, _, rfl, rfl, ⟨hm0, hm1⟩, _, rfl, p, _, _, _, rfl, rfl, hp, rfl, ?_⟩⟩
    refine ⟨_, rfl, p, _, _, _, rfl, rfl, SqL.of upd_same, rfl, rfl, _, rfl, ?_⟩
    refine ite2 (fun _ => ?_) (fun _ => ?_)
    · refine ⟨_, rfl, p, _, _, _, rfl, rfl, upd_same, rfl, ?_⟩
      refine ⟨_, rfl, _, rfl, p, _, _, _, rfl, rfl, upd_same, rfl, ?_⟩
      exact ⟨_, rfl, kk _ _ (Int.emod_nonneg _ (by omega)) (Int.emod_lt_of_pos _ hm0) (by rw [upd_upd, upd_upd]; exact Keep.refl.upd) (by rw [upd_upd, upd_upd]; exact IsPool.upd)⟩
    · exact ⟨_, rfl, kk _ _ (Int.emod_nonneg _ (by omega)) (Int.emod_lt_of_pos _ hm0) Keep.refl.upd IsPool.upd⟩
  · refine ⟨_, rfl, _, _, _, _, rfl, rfl, SqL.of hp, rfl, _, _, rfl, rfl, _, rfl, p, _, _, _, rfl, rfl, hp, rfl, ?_⟩
    refine ⟨_, rfl, _, _, _, _, rfl, rfl, SqL.of upd_same, rfl, _, _, rfl, rfl, .inr ⟨by decide, by decide⟩, _, rfl, _, _, _, _, rfl, rfl, SqL.of upd_same, rfl, _, _, rfl, rfl, .inr ⟨by decide, by decide⟩, _, _, rfl, rfl, _, rfl, _, _, _, _, rfl, rfl, SqL.of upd_same, rfl, _, _, rfl, rfl, .inr ⟨by decide, by decide⟩, _, _, rfl, rfl, _, _, rfl, rfl, .inl ⟨_, rfl, _, _, rfl, rfl, (by show (0:Int) < _; decide), ?_⟩⟩
    refine ⟨_, rfl, _, rfl, _, _, rfl, rfl, .inl ⟨Int.lt_of_lt_of_le (by decide) (Int.emod_nonneg _ (by decide)), Int.lt_trans (Int.emod_lt_of_pos _ (by decide)) (by decide)⟩, _, rfl, _, _, _, _, rfl, rfl, SqL.of upd_same, rfl, _, _, rfl, rfl, .inr ⟨by decide, by decide⟩, _, _, rfl, rfl, _, rfl, _, _, _, _, rfl, rfl, SqL.of upd_same, rfl, _, _, rfl, rfl, .inl ⟨_, rfl, _, _, rfl, rfl, (by show (0:Int) < _; decide), ?_⟩⟩
    refine ⟨_, rfl, _, rfl, _, _, rfl, rfl, .inl ⟨Int.lt_of_lt_of_le (by decide) (Int.emod_nonneg _ (by decide)), Int.lt_trans (Int.emod_lt_of_pos _ (by decide)) (by decide)⟩, _, _, rfl, rfl, .inl ⟨_, rfl, _, _, rfl, rfl, (by show (0:Int) < _; decide), ?_⟩⟩
    exact ⟨_, rfl, _, _, rfl, rfl, ⟨by decide, by decide⟩, .inl ⟨_, rfl, _, rfl, _, _, rfl, rfl, hm0, kk _ _ (Int.emod_nonneg _ (by omega)) (Int.emod_lt_of_pos _ hm0) Keep.refl.upd IsPool.upd⟩⟩
end
end LR

set_option Elab.async false
set_option maxRecDepth 100000
set_option linter.all false
set_option maxHeartbeats 4000000
namespace LR
open PySem PySem.Spec PyProof.Rows L2
section
variable {P : Program} {w : World} {K : PySem.W.Frag} {mg : Str → Option Value} {base : Heap} {ζ : Cs}
def spNumber : Sp := fun vs H Q _ => ∃ (x : V) (d : Dt), vs = [x] ∧ At H x d ∧ Q (.bl (isN d)) H
theorem ok_number (T : Txt P K mg ζ) : Cal P w K mg base 1 "_law_number" spNumber := by
  refine T.d_number.cal sc_number (fun vs H Q E h => ?_) (fun f cdv A outer s H vs Q E hr h => ⟨_, pss_one (ps_ret (pe_and (pe_callB call_isi (by rfl) T.n_isinstance b_isinstance (pa_cons (pv 0) (pa_cons (pe_bltn (v := .ty "int") (by rfl) T.n_int b_int rfl) (pa_nil)))) (pe_one (pe_not (pe_callB call_isi (by rfl) T.n_isinstance b_isinstance (pa_cons (pv 0) (pa_cons (pe_bltn (v := .ty "bool") (by rfl) T.n_bool b_bool rfl) (pa_nil)))))))), ?_⟩)
  · obtain ⟨x, d, rfl, _⟩ := h; rfl
  obtain ⟨x, d, rfl, a, kk⟩ := h
  refine ⟨_, rfl, _, _, _, _, _, rfl, .ty _, At.tyX a, kit_ty (kitI d), _, rfl, ite_b (fun c => ?_) (fun c => ?_)⟩
  · refine ⟨_, rfl, _, _, _, _, _, rfl, .ty _, At.tyX a, kit_ty (kitBo d), _, rfl, ?_⟩
    have e : (!isB d) = isN d := by cases d <;> first | rfl | cases c
    rw [e]; exact kk
  · have e : isN d = false := by cases d <;> first | rfl | cases c
    rw [← e]; exact kk
end
end LR

set_option Elab.async false
set_option maxRecDepth 100000
set_option linter.all false
set_option maxHeartbeats 4000000
namespace LR
open PySem PySem.Spec PyProof.Rows L2
section
variable {P : Program} {w : World} {K : PySem.W.Frag} {mg : Str → Option Value} {base : Heap} {ζ : Cs}
/-- the answer is the due one, in kind and value -/
def spSame (n : Nat) : Sp := fun vs H Q _ => ∃ (x y : V) (a d : Dt), vs = [x, y] ∧ At H x a ∧ At H y d ∧ dep d < n ∧ ∀ b : Bool, (b = true ↔ a = d) → Q (.bl b) H
theorem at_seq {H : Hp} {p : Addr} {xs : List V} {K : PySem.W.Frag} {i : Nat} {v : V} {Q : VK} (h : SqL K H p xs ∨ SqT K H p xs) (e : xs[i]? = some v) (q : Q v H) : rIx K (.ref p) (.int i) H Q := by
  rcases h with h | h
  · exact .inl ⟨p, xs, i, v, rfl, rfl, h, atI_nat e, q⟩
  · exact .inr (.inl ⟨p, xs, i, v, rfl, rfl, h, atI_nat e, q⟩)
theorem ok_same (T : Txt P K mg ζ) (n : Nat) : Cal P w K mg base (n + 2) "_law_same" (spSame n) := by
  have c_number : Cal P w K mg base 1 "_law_number" spNumber := ok_number T
  induction n with
  | zero =>
    refine T.d_same.cal sc_same (fun vs H Q E h => ?_) (fun f cdv A outer s H vs Q E hr h => ?_)
    · obtain ⟨x, y, a, d, rfl, _⟩ := h; rfl
    · obtain ⟨x, y, a, d, rfl, _, _, hn, _⟩ := h
      exact absurd hn (Nat.not_lt_zero _)
  | succ n ih =>
  have c_same := ih
  refine T.d_same.cal sc_same (fun vs H Q E h => ?_) (fun f cdv A outer s H vs Q E hr h => ⟨_, pss_cons (ps_if (PW.pt (pw_or (pt_val (pe_callB call_isi (by rfl) T.n_isinstance b_isinstance (pa_cons (pv 1) (pa_cons (pe_bltn (v := .ty "list") (by rfl) T.n_list b_list rfl) (pa_nil))))) (pw_or1 (pt_val (pe_callB call_isi (by rfl) T.n_isinstance b_isinstance (pa_cons (pv 1) (pa_cons (pe_bltn (v := .ty "tuple") (by rfl) T.n_tuple b_tuple rfl) (pa_nil))))))))
 (pss_cons (ps_if (PW.pt (pw_and (pt_val (pe_callB call_isi (by rfl) T.n_isinstance b_isinstance (pa_cons (pv 1) (pa_cons (pe_bltn (v := .ty "list") (by rfl) T.n_list b_list rfl) (pa_nil))))) (pw_and1 (pt_not (pt_val (pe_callB call_isi (by rfl) T.n_isinstance b_isinstance (pa_cons (pv 0) (pa_cons (pe_bltn (v := .ty "list") (by rfl) T.n_list b_list rfl) (pa_nil)))))))))
 (pss_one (ps_ret (pe_bl)))
 (pss_nil))
 (pss_cons (ps_if (PW.pt (pw_and (pt_val (pe_callB call_isi (by rfl) T.n_isinstance b_isinstance (pa_cons (pv 1) (pa_cons (pe_bltn (v := .ty "tuple") (by rfl) T.n_tuple b_tuple rfl) (pa_nil))))) (pw_and1 (pt_not (pt_val (pe_callB call_isi (by rfl) T.n_isinstance b_isinstance (pa_cons (pv 0) (pa_cons (pe_bltn (v := .ty "tuple") (by rfl) T.n_tuple b_tuple rfl) (pa_nil)))))))))
 (pss_one (ps_ret (pe_bl)))
 (pss_nil))
 (pss_cons (ps_if (pt_cmpR op_ne (pe_callB call_len_seq (by rfl) T.n_len b_len (pa_cons (pv 0) (pa_nil))) (pe_callB call_len_seq (by rfl) T.n_len b_len (pa_cons (pv 1) (pa_nil))) (nomark _))
 (pss_one (ps_ret (pe_bl)))
 (pss_nil))
 (pss_cons (ps_for PassesOwn.never rfl (pi_range1 rfl T.n_range (pa_cons (pe_callB call_len_seq (by rfl) T.n_len b_len (pa_cons (pv 1) (pa_nil))) (pa_nil))) (pg_name (i := 2) sc_same.nd rfl (Or.inl rfl))
 (pss_one (ps_if (pt_not (pt_val (pe_c c_same hr (by first | decide | omega) (by rfl) (pa_cons (pe_ix ix_seq (pv 0) (pv 2) (fun _ _ => rfl)) (pa_cons (pe_ix ix_seq (pv 1) (pv 2) (fun _ _ => rfl)) (pa_nil))))))
 (pss_one (ps_ret (pe_bl)))
 (pss_nil))))
 (pss_one (ps_ret (pe_bl)))))))
 (pss_nil))
 (pss_cons (ps_if (pt_cmpR op_isN (pv 1) (pe_non) (nomark _))
 (pss_one (ps_ret (pe_cmpR op_isN (pv 0) (pe_non) (nomark _))))
 (pss_nil))
 (pss_cons (ps_if (pt_val (pe_callB call_isi (by rfl) T.n_isinstance b_isinstance (pa_cons (pv 1) (pa_cons (pe_bltn (v := .ty "bool") (by rfl) T.n_bool b_bool rfl) (pa_nil)))))
 (pss_one (ps_ret (pe_and (pe_callB call_isi (by rfl) T.n_isinstance b_isinstance (pa_cons (pv 0) (pa_cons (pe_bltn (v := .ty "bool") (by rfl) T.n_bool b_bool rfl) (pa_nil)))) (pe_one (pe_cmpR op_eq (pv 0) (pv 1) (nomark _))))))
 (pss_nil))
 (pss_cons (ps_if (pt_val (pe_callB call_isi (by rfl) T.n_isinstance b_isinstance (pa_cons (pv 1) (pa_cons (pe_bltn (v := .ty "int") (by rfl) T.n_int b_int rfl) (pa_nil)))))
 (pss_one (ps_ret (pe_and (pe_c c_number hr (by first | decide | omega) (by rfl) (pa_cons (pv 0) (pa_nil))) (pe_one (pe_cmpR op_eq (pv 0) (pv 1) (nomark _))))))
 (pss_nil))
 (pss_one (ps_ret (pe_and (pe_callB call_isi (by rfl) T.n_isinstance b_isinstance (pa_cons (pv 0) (pa_cons (pe_bltn (v := .ty "str") (by rfl) T.n_str b_str rfl) (pa_nil)))) (pe_one (pe_cmpR op_eq (pv 0) (pv 1) (nomark _))))))))), ?_⟩)
  · obtain ⟨x, y, a, d, rfl, _⟩ := h; rfl
  obtain ⟨x, y, a, d, rfl, ha, hd, hn, kk⟩ := h
  cases hd with
  | non =>
    refine ⟨_, rfl, _, _, _, _, _, rfl, .ty _, At.tyX .non, kit_ty (kitL _), _, rfl, iteF ⟨_, rfl, _, _, _, _, _, rfl, .ty _, At.tyX .non, kit_ty (kitU _), _, rfl, iteF ?_⟩⟩
    refine ⟨_, rfl, rfl, _, rfl, iteT ⟨_, rfl, rfl, kk _ ?_⟩⟩
    cases ha <;> simp
  | bl b =>
    refine ⟨_, rfl, _, _, _, _, _, rfl, .ty _, At.tyX (.bl _), kit_ty (kitL _), _, rfl, iteF ⟨_, rfl, _, _, _, _, _, rfl, .ty _, At.tyX (.bl _), kit_ty (kitU _), _, rfl, iteF ?_⟩⟩
    refine ⟨_, rfl, rfl, _, rfl, iteF ⟨_, rfl, _, _, _, _, _, rfl, .ty _, At.tyX (.bl _), kit_ty (kitBo _), _, rfl, iteT ?_⟩⟩
    refine ⟨_, rfl, _, _, _, _, _, rfl, .ty _, At.tyX ha, kit_ty (kitBo _), _, rfl, ite_b (fun c => ?_) (fun c => ?_)⟩
    · cases ha with
      | bl b' => exact ⟨_, rfl, _, rfl, rfl, kk _ (by simp)⟩
      | _ => cases c
    · refine kk _ ⟨fun z => (by cases z), fun z => ?_⟩
      subst z; cases c
  | int b =>
    refine ⟨_, rfl, _, _, _, _, _, rfl, .ty _, At.tyX (.int _), kit_ty (kitL _), _, rfl, iteF ⟨_, rfl, _, _, _, _, _, rfl, .ty _, At.tyX (.int _), kit_ty (kitU _), _, rfl, iteF ?_⟩⟩
    refine ⟨_, rfl, rfl, _, rfl, iteF ⟨_, rfl, _, _, _, _, _, rfl, .ty _, At.tyX (.int _), kit_ty (kitBo _), _, rfl, iteF ⟨_, rfl, _, _, _, _, _, rfl, .ty _, At.tyX (.int _), kit_ty (kitI _), _, rfl, iteT ?_⟩⟩⟩
    refine ⟨_, rfl, x, a, rfl, ha, _, rfl, ite_b (fun c => ?_) (fun c => ?_)⟩
    · cases ha with
      | int b' => exact ⟨_, rfl, _, rfl, rfl, kk _ (by simp)⟩
      | _ => cases c
    · refine kk _ ⟨fun z => (by cases z), fun z => ?_⟩
      subst z; cases c
  | str b =>
    refine ⟨_, rfl, _, _, _, _, _, rfl, .ty _, At.tyX (.str _), kit_ty (kitL _), _, rfl, iteF ⟨_, rfl, _, _, _, _, _, rfl, .ty _, At.tyX (.str _), kit_ty (kitU _), _, rfl, iteF ?_⟩⟩
    refine ⟨_, rfl, rfl, _, rfl, iteF ⟨_, rfl, _, _, _, _, _, rfl, .ty _, At.tyX (.str _), kit_ty (kitBo _), _, rfl, iteF ⟨_, rfl, _, _, _, _, _, rfl, .ty _, At.tyX (.str _), kit_ty (kitI _), _, rfl, iteF ?_⟩⟩⟩
    refine ⟨_, rfl, _, _, _, _, _, rfl, .ty _, At.tyX ha, kit_ty (kitS _), _, rfl, ite_b (fun c => ?_) (fun c => ?_)⟩
    · cases ha with
      | str b' => exact ⟨_, rfl, _, rfl, rfl, kk _ (by simp)⟩
      | _ => cases c
    · refine kk _ ⟨fun z => (by cases z), fun z => ?_⟩
      subst z; cases c
  | lst hq hs hz =>
    rename_i q ys ds
    have hdn : deps ds < n := by rw [dep] at hn; omega
    refine ⟨_, rfl, _, _, _, _, _, rfl, .ty _, At.tyX (At.lst hq hs hz), kit_ty (kitL _), _, rfl, iteT ?_⟩
    refine ⟨_, rfl, _, _, _, _, _, rfl, .ty _, At.tyX (At.lst hq hs hz), kit_ty (kitL _), _, rfl, iteT ?_⟩
    cases ha with
    | lst hp as az =>
      rename_i p xs as'
      refine ⟨_, rfl, _, _, _, _, _, rfl, .ty _, At.tyX (At.lst hp as az), kit_ty (kitL _), _, rfl, iteF ?_⟩
      refine ⟨_, rfl, _, _, _, _, _, rfl, .ty _, At.tyX (At.lst hq hs hz), kit_ty (kitU _), _, rfl, iteF (iteF ?_)⟩
      have hl1 := as.length; have hl2 := hs.length
      refine ⟨_, rfl, p, xs, rfl, .inl (SqL.of hp), _, rfl, q, ys, rfl, .inl (SqL.of hq), rfl, _, rfl, ?_⟩
      refine ite_b (fun c => ?_) (fun c => ?_)
      · refine kk _ ⟨fun z => (by cases z), fun z => ?_⟩
        cases z
        rw [hl1, hl2] at c; simp at c
      have hl : as'.length = ds.length := by
        rw [hl1, hl2] at c; simp at c; omega
      refine ⟨_, rfl, q, ys, rfl, .inl (SqL.of hq), _, rfl, by omega, by omega, ?_⟩
      refine for_range (lo := 0) (n := ys.length) (fun i σ H' => H' = H ∧ (∃ z, σ = [some (.ref p), some (.ref q), z]) ∧ as'.take i = ds.take i) ⟨rfl, ⟨_, rfl⟩, rfl⟩ ?_ ?_
      · rintro i σ H' hi ⟨rfl, ⟨z, rfl⟩, ht⟩
        have hi1 : i < as'.length := by omega
        have hi2 : i < ds.length := by omega
        obtain ⟨x, ex, ax⟩ := as.getD (List.getElem?_eq_getElem hi1)
        obtain ⟨y, ey, ay⟩ := hs.getD (List.getElem?_eq_getElem hi2)
        refine ⟨_, rfl, _, rfl, .inl ⟨ p, xs, _, _, rfl, rfl, SqL.of hp, (by rw [Int.zero_add]; exact atI_nat ex), _, rfl, _, rfl, .inl ⟨ q, ys, _, _, rfl, rfl, SqL.of hq, (by rw [Int.zero_add]; exact atI_nat ey), ?_⟩⟩⟩
        refine ⟨x, y, _, _, rfl, ax, ay, Nat.lt_of_le_of_lt (deps_mem (List.getElem_mem hi2)) hdn, fun b hb => ⟨_, rfl, ite_b (fun c => ?_) (fun c => ?_)⟩⟩
        · refine kk _ ⟨fun z => (by cases z), fun z => ?_⟩
          injection z with z
          have hbt := hb.mpr (List.getElem_of_eq z hi1)
          rw [hbt] at c; cases c
        · refine ⟨rfl, ⟨_, rfl⟩, ?_⟩
          have hbt : b = true := by cases b with
            | true => rfl
            | false => cases c
          rw [List.take_succ, List.take_succ, ht, List.getElem?_eq_getElem hi1, List.getElem?_eq_getElem hi2, hb.mp hbt]
      · rintro σ H' ⟨rfl, ⟨z, rfl⟩, ht⟩
        refine kk true ⟨fun _ => ?_, fun _ => rfl⟩
        rw [hl2, List.take_length, ← hl, List.take_length] at ht
        rw [ht]
    | non => exact ⟨_, rfl, _, _, _, _, _, rfl, .ty _, At.tyX .non, kit_ty (kitL _), _, rfl, iteT (kk _ ⟨fun z => (by cases z), fun z => (by cases z)⟩)⟩
    | bl _ => exact ⟨_, rfl, _, _, _, _, _, rfl, .ty _, At.tyX (.bl _), kit_ty (kitL _), _, rfl, iteT (kk _ ⟨fun z => (by cases z), fun z => (by cases z)⟩)⟩
    | int _ => exact ⟨_, rfl, _, _, _, _, _, rfl, .ty _, At.tyX (.int _), kit_ty (kitL _), _, rfl, iteT (kk _ ⟨fun z => (by cases z), fun z => (by cases z)⟩)⟩
    | str _ => exact ⟨_, rfl, _, _, _, _, _, rfl, .ty _, At.tyX (.str _), kit_ty (kitL _), _, rfl, iteT (kk _ ⟨fun z => (by cases z), fun z => (by cases z)⟩)⟩
    | tup h5 a5 z5 => exact ⟨_, rfl, _, _, _, _, _, rfl, .ty _, At.tyX (.tup h5 a5 z5), kit_ty (kitL _), _, rfl, iteT (kk _ ⟨fun z => (by cases z), fun z => (by cases z)⟩)⟩
  | tup hq hs hz =>
    rename_i q ys ds
    have hdn : deps ds < n := by rw [dep] at hn; omega
    refine ⟨_, rfl, _, _, _, _, _, rfl, .ty _, At.tyX (At.tup hq hs hz), kit_ty (kitL _), _, rfl, iteF ⟨_, rfl, _, _, _, _, _, rfl, .ty _, At.tyX (At.tup hq hs hz), kit_ty (kitU _), _, rfl, iteT ?_⟩⟩
    refine ⟨_, rfl, _, _, _, _, _, rfl, .ty _, At.tyX (At.tup hq hs hz), kit_ty (kitL _), _, rfl, iteF (iteF ⟨_, rfl, _, _, _, _, _, rfl, .ty _, At.tyX (At.tup hq hs hz), kit_ty (kitU _), _, rfl, iteT ?_⟩)⟩
    cases ha with
    | tup hp as az =>
      rename_i p xs as'
      refine ⟨_, rfl, _, _, _, _, _, rfl, .ty _, At.tyX (At.tup hp as az), kit_ty (kitU _), _, rfl, iteF ?_⟩
      have hl1 := as.length; have hl2 := hs.length
      refine ⟨_, rfl, p, xs, rfl, .inr (SqT.of hp), _, rfl, q, ys, rfl, .inr (SqT.of hq), rfl, _, rfl, ?_⟩
      refine ite_b (fun c => ?_) (fun c => ?_)
      · refine kk _ ⟨fun z => (by cases z), fun z => ?_⟩
        cases z
        rw [hl1, hl2] at c; simp at c
      have hl : as'.length = ds.length := by
        rw [hl1, hl2] at c; simp at c; omega
      refine ⟨_, rfl, q, ys, rfl, .inr (SqT.of hq), _, rfl, by omega, by omega, ?_⟩
      refine for_range (lo := 0) (n := ys.length) (fun i σ H' => H' = H ∧ (∃ z, σ = [some (.ref p), some (.ref q), z]) ∧ as'.take i = ds.take i) ⟨rfl, ⟨_, rfl⟩, rfl⟩ ?_ ?_
      · rintro i σ H' hi ⟨rfl, ⟨z, rfl⟩, ht⟩
        have hi1 : i < as'.length := by omega
        have hi2 : i < ds.length := by omega
        obtain ⟨x, ex, ax⟩ := as.getD (List.getElem?_eq_getElem hi1)
        obtain ⟨y, ey, ay⟩ := hs.getD (List.getElem?_eq_getElem hi2)
        refine ⟨_, rfl, _, rfl, .inr (.inl ⟨ p, xs, _, _, rfl, rfl, SqT.of hp, (by rw [Int.zero_add]; exact atI_nat ex), _, rfl, _, rfl, .inr (.inl ⟨ q, ys, _, _, rfl, rfl, SqT.of hq, (by rw [Int.zero_add]; exact atI_nat ey), ?_⟩)⟩)⟩
        refine ⟨x, y, _, _, rfl, ax, ay, Nat.lt_of_le_of_lt (deps_mem (List.getElem_mem hi2)) hdn, fun b hb => ⟨_, rfl, ite_b (fun c => ?_) (fun c => ?_)⟩⟩
        · refine kk _ ⟨fun z => (by cases z), fun z => ?_⟩
          injection z with z
          have hbt := hb.mpr (List.getElem_of_eq z hi1)
          rw [hbt] at c; cases c
        · refine ⟨rfl, ⟨_, rfl⟩, ?_⟩
          have hbt : b = true := by cases b with
            | true => rfl
            | false => cases c
          rw [List.take_succ, List.take_succ, ht, List.getElem?_eq_getElem hi1, List.getElem?_eq_getElem hi2, hb.mp hbt]
      · rintro σ H' ⟨rfl, ⟨z, rfl⟩, ht⟩
        refine kk true ⟨fun _ => ?_, fun _ => rfl⟩
        rw [hl2, List.take_length, ← hl, List.take_length] at ht
        rw [ht]
    | non => exact ⟨_, rfl, _, _, _, _, _, rfl, .ty _, At.tyX .non, kit_ty (kitU _), _, rfl, iteT (kk _ ⟨fun z => (by cases z), fun z => (by cases z)⟩)⟩
    | bl _ => exact ⟨_, rfl, _, _, _, _, _, rfl, .ty _, At.tyX (.bl _), kit_ty (kitU _), _, rfl, iteT (kk _ ⟨fun z => (by cases z), fun z => (by cases z)⟩)⟩
    | int _ => exact ⟨_, rfl, _, _, _, _, _, rfl, .ty _, At.tyX (.int _), kit_ty (kitU _), _, rfl, iteT (kk _ ⟨fun z => (by cases z), fun z => (by cases z)⟩)⟩
    | str _ => exact ⟨_, rfl, _, _, _, _, _, rfl, .ty _, At.tyX (.str _), kit_ty (kitU _), _, rfl, iteT (kk _ ⟨fun z => (by cases z), fun z => (by cases z)⟩)⟩
    | lst h5 a5 z5 => exact ⟨_, rfl, _, _, _, _, _, rfl, .ty _, At.tyX (.lst h5 a5 z5), kit_ty (kitU _), _, rfl, iteT (kk _ ⟨fun z => (by cases z), fun z => (by cases z)⟩)⟩
end
end LR

set_option Elab.async false
set_option maxRecDepth 100000
set_option linter.all false
set_option maxHeartbeats 4000000
namespace LR
open PySem PySem.Spec PyProof.Rows L2
section
variable {P : Program} {w : World} {K : PySem.W.Frag} {mg : Str → Option Value} {base : Heap} {ζ : Cs}
def spHeight : Sp := fun vs H Q _ => ∃ h : Int, vs = [.int h] ∧ (h = 1 ∨ h = 2 ∨ h = 3) ∧ ∀ H', Same H H' → Q .non H'
theorem ok_height (T : Txt P K mg ζ) : Cal P w K mg base 1 "check_height" spHeight := by
  refine T.d_check_height.cal sc_check_height (fun vs H Q E h => ?_) (fun f cdv A outer s H vs Q E hr h => ⟨_, pss_one (ps_if (pt_cmpR op_notIn_seq (pv 0) (pe_tup (pa_cons (pe_int) (pa_cons (pe_int) (pa_cons (pe_int) (pa_nil))))) rfl)
 (pss_never)
 (pss_nil)), ?_⟩)
  · obtain ⟨h, rfl, _⟩ := h; rfl
  obtain ⟨h, rfl, hh, kk⟩ := h
  refine ⟨_, rfl, (by show 3 ≤ sizeLine; decide), fun t ht => ?_⟩
  refine ⟨t, _, rfl, .inr (SqT.of upd_same), rfl, rfl, _, rfl, ?_⟩
  rcases hh with rfl | rfl | rfl <;> exact iteF (kk _ (same_new ht))
end
end LR

set_option Elab.async false
set_option maxRecDepth 100000
set_option linter.all false
set_option maxHeartbeats 4000000
namespace LR
open PySem PySem.Spec PyProof.Rows L2
section
variable {P : Program} {w : World} {K : PySem.W.Frag} {mg : Str → Option Value} {base : Heap} {ζ : Cs}
def spRowS (K : PySem.W.Frag) : Sp := fun vs H Q _ => ∃ (h : Int) (a : Addr) (ls : List Int) (most : Int), vs = [.int h, .ref a, .int most] ∧ Sq K H a (ls.map V.int) ∧ (ls.length : Int) ≤ most ∧ (∀ l ∈ ls, 1 ≤ l ∧ l ≤ h) ∧ ∀ H', Same H H' → Q .non H'
theorem ok_rowS (T : Txt P K mg ζ) : Cal P w K mg base 1 "check_row" (spRowS K) := by
  refine T.d_check_row.cal sc_check_row (fun vs H Q E h => ?_) (fun f cdv A outer s H vs Q E hr h => ⟨_, pss_cons (ps_if (pt_cmpR op_gt (pe_callB call_len_seq (by rfl) T.n_len b_len (pa_cons (pv 1) (pa_nil))) (pv 2) (nomark _))
 (pss_never)
 (pss_nil))
 (pss_one (ps_for PassesOwn.never rfl (pi_enumS (by rfl) T.n_enumerate (pa_cons (pv 1) (pa_nil))) (pg_tup rfl (pgs_cons (pg_name (i := 3) sc_check_row.nd rfl (Or.inl rfl)) (pgs_cons (pg_name (i := 4) sc_check_row.nd rfl (Or.inl rfl)) (pgs_nil))))
 (pss_one (ps_if (pt_not (pt_chain op_le op_le (pe_int) (pv 4) (pv 0) ))
 (pss_never)
 (pss_nil))))), ?_⟩)
  · obtain ⟨h, a, ls, most, rfl, _⟩ := h; rfl
  obtain ⟨h, a, ls, most, rfl, hS, hl, hb, kk⟩ := h
  refine ⟨_, rfl, a, _, rfl, hS, _, rfl, _, _, rfl, rfl, _, rfl, ?_⟩
  refine ite2 (fun c => absurd (of_decide_eq_true c) (by rw [List.length_map]; omega)) (fun _ => ?_)
  refine ⟨_, rfl, a, rfl, hS.enum (Same.refl _) fun J G W g1 g2 => for_it W (fun i σ H' => Same H H' ∧ ∃ y z, σ = [some (.int h), some (.ref a), some (.int most), y, z]) ⟨Same.refl _, _, _, rfl⟩ (fun i σ H' _ h => g1 _ h.1) ?_ (fun σ H' h => ?_)⟩
  · rintro i x σ H1 H2 hi ⟨s1, y, z, rfl⟩ ⟨t, x, y, rfl, ht, rfl, ex, ey⟩
    cases ex
    obtain ⟨l, el, rfl⟩ := map_get ey
    obtain ⟨b1, b2⟩ := hb l (List.mem_of_getElem? el)
    refine ⟨t, _, rfl, SqT.of upd_same, rfl, _, _, rfl, _, _, rfl, rfl, ?_⟩
    refine ⟨_, rfl, _, _, rfl, rfl, _, rfl, ?_⟩
    refine ite2 (fun c => ?_) (fun c => absurd (decide_eq_true b1) c)
    refine ⟨_, rfl, _, _, rfl, rfl, _, rfl, ?_⟩
    refine ite2 (fun c => ?_) (fun _ => ⟨s1.new ht, _, _, rfl⟩)
    rw [decide_eq_true b2] at c; cases c
  · exact kk _ h.1
def spCountsS (K : PySem.W.Frag) : Sp := fun vs H Q _ => ∃ (lv : Int) (a : Addr) (ls : List Int), vs = [.int lv, .ref a] ∧ Sq K H a (ls.map V.int) ∧ ls.length ≤ 1000 ∧ ∀ H' p, Same H H' → H p = none → H' p = some (.tup (cnL ls lv (ls.length + 1))) → Q (.ref p) H'
theorem ok_countsS (T : Txt P K mg ζ) : Cal P w K mg base 1 "_counts_from" (spCountsS K) := by
  refine T.d__counts_from.cal sc__counts_from (fun vs H Q E h => ?_) (fun f cdv A outer s H vs Q E hr h => ⟨_, pss_cons (ps_set (i := 2) sc__counts_from.nd rfl (Or.inl rfl) (pe_lst (pa_cons (pe_int) (pa_nil))))
 (pss_cons (ps_for PassesOwn.never rfl (pi_seq (pv 1)) (pg_name (i := 3) sc__counts_from.nd rfl (Or.inl rfl))
 (pss_one (ps_expr (pe_bm PySem.F.plainAttrs_list PySem.F.slot_list_append PySem.F.type_list_append mt_append (pv 2) (pa_cons (pe_op op_add (pe_ix ix_list (pv 2) (pe_un un_neg (pe_int)) (fun _ _ => rfl)) (pe_ifExp (pt_cmpR op_ge (pv 3) (pv 0) (nomark _)) (pe_int) (pe_int))) (pa_nil))))))
 (pss_one (ps_ret (pe_callTy call_tuple_of (by rfl) T.n_tuple b_tuple (pa_cons (pv 2) (pa_nil)))))), ?_⟩)
  · obtain ⟨lv, a, ls, rfl, _⟩ := h; rfl
  obtain ⟨lv, a, ls, rfl, hS, hl, kk⟩ := h
  refine ⟨(by show 1 ≤ sizeLine; decide), fun d hd => ?_⟩
  refine ⟨_, rfl, a, rfl, hS.walk (same_new hd) fun J G W g1 g2 => for_it W (fun i σ H' => Same H H' ∧ H' d = some (.lst (cnL ls lv (i + 1))) ∧ ∃ z, σ = [some (.int lv), some (.ref a), some (.ref d), z]) ⟨same_new hd, upd_same, _, rfl⟩ (fun i σ H' _ h => g1 _ h.1) ?_ ?_⟩
  · rintro i x σ H1 H2 hi ⟨s1, h1, z, rfl⟩ ⟨rfl, hx⟩
    obtain ⟨l, el, rfl⟩ := map_get hx
    have hi : i < ls.length := (List.getElem?_eq_some_iff.mp el).1
    refine ⟨_, rfl, .inl ⟨rfl, _, SqL.of h1⟩, _, rfl, _, rfl, _, _, _, _, rfl, rfl, SqL.of h1, (by rw [cnL_succ]; exact atI_last _ _), ?_⟩
    refine ⟨_, rfl, _, rfl, _, _, rfl, rfl, _, rfl, ?_⟩
    have fin : ∀ z1 : Int, cn ls lv (i + 1) = cn ls lv i + z1 → Same H (upd H2 d (.lst (cnL ls lv (i + 1) ++ [V.int (cn ls lv i + z1)]))) ∧ (upd H2 d (.lst (cnL ls lv (i + 1) ++ [V.int (cn ls lv i + z1)]))) d = some (.lst (cnL ls lv (i + 1 + 1))) := fun z1 e => by
      refine ⟨fun b o e1 => ?_, ?_⟩
      · rw [upd_ne (ne_of_none e1 hd)]; exact s1 _ _ e1
      · rw [upd_same, cnL_succ (n := i + 1), e]
    have e0 := cn_succ (lv := lv) el
    refine ite2 (fun c => ?_) (fun c => ?_)
    · have c := of_decide_eq_true c
      rw [if_pos c] at e0
      obtain ⟨f1, f2⟩ := fin 1 e0
      exact ⟨_, _, rfl, rfl, d, _, _, rfl, rfl, h1, by rw [cnL_length, sizeLine_eq]; omega, f1, f2, _, rfl⟩
    · have c : ¬ lv ≤ l := fun q => c (decide_eq_true q)
      rw [if_neg c] at e0
      obtain ⟨f1, f2⟩ := fin 0 e0
      exact ⟨_, _, rfl, rfl, d, _, _, rfl, rfl, h1, by rw [cnL_length, sizeLine_eq]; omega, f1, f2, _, rfl⟩
  · rintro σ H1 ⟨s1, h1, z, rfl⟩
    rw [List.length_map] at h1
    refine ⟨_, rfl, d, _, rfl, .inl ⟨SqL.of h1, fun t ht => ?_⟩⟩
    exact kk _ t (s1.new ht) (s1.free ht) upd_same
def spInitS (C : Addr) : Sp := fun vs H Q _ => ∃ (x a dx : Addr) (h : Int) (ls : List Int), vs = [.ref x, .int h, .ref a] ∧ H x = some (.ins C dx []) ∧ (H a = some (.lst (ls.map V.int)) ∨ H a = some (.tup (ls.map V.int))) ∧ (h = 1 ∨ h = 2 ∨ h = 3) ∧ ls.length ≤ 24 ∧ (∀ l ∈ ls, 1 ≤ l ∧ l ≤ h) ∧ ∀ H', Keep x H H' → LadderAt C H' x h ls → Q .non H'
theorem ok_initS (T : Txt P K mg ζ) : Mak P w K mg base 2 "Ladder" ζ.Ladder (spInitS ζ.Ladder) := by
  have c_check_height : Cal P w K mg base 1 "check_height" spHeight := ok_height T
  have c_check_row : Cal P w K mg base 1 "check_row" (spRowS K) := ok_rowS T
  have c__counts_from : Cal P w K mg base 1 "_counts_from" (spCountsS K) := ok_countsS T
  refine T.mk_Ladder.mak sc_L_init (fun vs H Q E h => ?_) (fun f cdv A outer s H vs Q E hr h => ⟨_, pss_cons (ps_expr (pe_c c_check_height hr (by first | decide | omega) (by rfl) (pa_cons (pv 1) (pa_nil))))
 (pss_cons (ps_expr (pe_c c_check_row hr (by first | decide | omega) (by rfl) (pa_cons (pv 1) (pa_cons (pv 2) (pa_cons (ClX.pe_cval (pe_glob (v := .ref ζ.Ladder) (by rfl) T.mg_Ladder rfl)) (pa_nil))))))
 (pss_cons (ps_fld (pv 0) (pv 1) rfl)
 (pss_cut (ps_fld (pv 0) (pe_callTy call_tuple_of (by rfl) T.n_tuple b_tuple (pa_cons (pv 2) (pa_nil))) rfl)
 (pss_cons (ps_fld (pv 0) (pe_callB call_len_seq (by rfl) T.n_len b_len (pa_cons (pv 2) (pa_nil))) rfl)
 (pss_one (ps_fld (pv 0) (pe_callTy call_tuple_of (by rfl) T.n_tuple b_tuple (pa_cons (pe_lc (own := [("level", 3)]) (g := gName 3) (tt := tYes)  rfl sc_L_init.nd (pi_range2 rfl T.n_range (pa_cons (pe_int) (pa_cons (pe_op op_add (pv 1) (pe_int)) (pa_nil)))) (blkOk_by (N := N_L_init) (sc := defScope s_L_init) (by decide +kernel)) (fun _ _ _ _ _ => pg_name (i := 3) sc_L_init.nd rfl (Or.inl rfl)) (fun _ _ _ _ _ => pts_nil) (fun _ _ _ _ _ => pe_c c__counts_from hr (by first | decide | omega) (by rfl) (pa_cons (pv 3) (pa_cons (pv 2) (pa_nil))))) (pa_nil))) rfl)))))), ?_⟩)
  · obtain ⟨x, a, dx, h, ls, rfl, _⟩ := h; rfl
  obtain ⟨x, a, dx, h, ls, rfl, hx, ha, hh, hl, hb, kk⟩ := h
  have nax : a ≠ x := by
    rcases ha with ha | ha
    · exact ne_of ha hx (by intro z; cases z)
    · exact ne_of ha hx (by intro z; cases z)
  have hS : Sq K H a (ls.map V.int) := by
    rcases ha with ha | ha
    · exact .inl (SqL.of ha)
    · exact .inr (SqT.of ha)
  obtain ⟨mc, u, cr, cv⟩ := T.cv_Ladder_MOST_LEVELS
  refine ⟨_, rfl, h, rfl, hh, fun H1 s1 => ?_⟩
  refine ⟨_, rfl, _, rfl, ζ.Ladder, mc, _, u, rfl, cr, cv, h, a, ls, 24, rfl, hS.same s1, by omega, hb, fun H2 s2 => ?_⟩
  have k2 : Keep x H H2 := (s1.trans s2).keep
  refine ⟨_, rfl, _, rfl, x, ζ.Ladder, dx, _, rfl, s2 _ _ (s1 _ _ hx), T.cl_Ladder, T.na_Ladder_height, (by show 0 < 1000; decide), ?_⟩
  have k3 : Keep x H (upd H2 x (.ins ζ.Ladder dx (putF "height" (V.int h) []))) := k2.upd
  refine ⟨fun σ' H' => σ' = [some (.ref x), some (.int h), some (.ref a), none] ∧ Keep x H H' ∧ ∃ tl, x ≠ tl ∧ H' tl = some (.tup (ls.map V.int)) ∧ H' x = some (.ins ζ.Ladder dx (putF "levels" (V.ref tl) (putF "height" (V.int h) []))), ?_, ?_⟩
  · rcases ha with ha | ha
    · refine ⟨_, rfl, a, _, rfl, .inl ⟨SqL.of (k3 _ nax _ ha), fun tl htl => ?_⟩⟩
      have nxt : x ≠ tl := fun q => by rw [← q, upd_same] at htl; cases htl
      refine ⟨_, rfl, x, ζ.Ladder, dx, _, rfl, (upd_ne nxt).trans upd_same, T.cl_Ladder, T.na_Ladder_levels, (by show 1 < 1000; decide), ?_⟩
      exact ⟨rfl, (k3.new htl).upd, tl, nxt, by rw [upd_ne nxt.symm, upd_same], upd_same⟩
    · refine ⟨_, rfl, a, _, rfl, .inr ⟨SqT.of (k3 _ nax _ ha), ?_⟩⟩
      refine ⟨_, rfl, x, ζ.Ladder, dx, _, rfl, upd_same, T.cl_Ladder, T.na_Ladder_levels, (by show 1 < 1000; decide), ?_⟩
      exact ⟨rfl, k3.upd, a, nax.symm, by rw [upd_ne nax, k3 _ nax _ ha], upd_same⟩
  rintro σ' H3 ⟨rfl, k4, tl, nxt, htl, hx3⟩
  refine ⟨_, rfl, a, _, rfl, hS.keep k4 nax, _, rfl, x, ζ.Ladder, dx, _, rfl, hx3, T.cl_Ladder, T.na_Ladder_top, (by show 2 < 1000; decide), ?_⟩
  have k5 := k4.upd (o := .ins ζ.Ladder dx (putF "top" (V.int ((ls.map V.int).length : Int)) (putF "levels" (V.ref tl) (putF "height" (V.int h) []))))
  have hx5 : (upd H3 x (.ins ζ.Ladder dx (putF "top" (V.int ((ls.map V.int).length : Int)) (putF "levels" (V.ref tl) (putF "height" (V.int h) []))))) x = some (.ins ζ.Ladder dx (putF "top" (V.int ((ls.map V.int).length : Int)) (putF "levels" (V.ref tl) (putF "height" (V.int h) [])))) := upd_same
  have ht5 : (upd H3 x (.ins ζ.Ladder dx (putF "top" (V.int ((ls.map V.int).length : Int)) (putF "levels" (V.ref tl) (putF "height" (V.int h) []))))) tl = some (.tup (ls.map V.int)) := by rw [upd_ne nxt.symm, htl]
  generalize upd H3 x (.ins ζ.Ladder dx (putF "top" (V.int ((ls.map V.int).length : Int)) (putF "levels" (V.ref tl) (putF "height" (V.int h) [])))) = H5 at k5 hx5 ht5 ⊢
  refine ⟨_, rfl, _, _, rfl, rfl, 1, _, rfl, ⟨by decide, by decide, by omega, by omega⟩, fun D hD => ?_⟩
  have nDx : D ≠ x := fun q => by rw [q, hx5] at hD; cases hD
  refine lc_range (lo := 1) (n := (h + 2 - 1).toNat) (fun i H' => Keep x H H' ∧ H' x = H5 x ∧ H' tl = H5 tl ∧ ∃ cs : List Addr, H' D = some (.lst (cs.map V.ref)) ∧ cs.length = i ∧ ∀ (j : Nat) (b : Addr), cs[j]? = some b → H' b = some (.tup (cnL ls (j + 1) (ls.length + 1)))) ?_ ?_ ?_
  · exact ⟨k5.new hD, upd_ne nDx.symm, upd_ne (ne_of_none ht5 hD), [], upd_same, rfl, fun j b e => by simp at e⟩
  · rintro i H6 hi ⟨k6, e1, e2, cs, h6, hc, hj⟩
    refine ⟨rfl, lc_yes (iteT ?_)⟩
    refine ⟨_, rfl, _, rfl, _, a, ls, rfl, hS.keep k6 nax, by omega, fun H7 p s7 hp h7 => ?_⟩
    have nD : D ≠ p := ne_of_none h6 hp
    refine ⟨_, s7 _ _ h6, (by rw [List.length_map, hc, sizeLine_eq]; omega), ?_, ?_, ?_, cs ++ [p], ?_, by simp [hc], ?_⟩
    · intro b nb o e
      have := s7 _ _ (k6 b nb o e)
      rw [upd_ne (fun q => ?_)]
      · exact this
      · have hn : H D = none := by
          cases q2 : H D with
          | none => rfl
          | some o2 =>
            have := k5 D nDx o2 q2
            rw [hD] at this; cases this
        rw [q, hn] at e; cases e
    · rw [upd_ne nDx.symm, s7 x _ (e1.trans hx5), hx5]
    · rw [upd_ne (ne_of_none ht5 hD), s7 tl _ (e2.trans ht5), ht5]
    · rw [upd_same, List.map_append]; rfl
    · intro j b e
      rw [List.getElem?_append] at e
      split at e
      · rename_i hj2
        have h8 := s7 _ _ (hj j b e)
        rw [upd_ne (fun q => ?_)]
        · exact h8
        · rw [q, s7 _ _ h6] at h8; cases h8
      · rename_i hj2
        have ej : j = i := by
          have := (List.getElem?_eq_some_iff.mp e).1
          simp at this; omega
        subst ej
        rw [hc, Nat.sub_self] at e
        simp at e
        subst e
        rw [upd_ne nD.symm, h7, Int.add_comm]
  · rintro H6 ⟨k6, e1, e2, cs, h6, hc, hj⟩
    refine ⟨D, _, rfl, .inl ⟨SqL.of h6, fun tc htc => ?_⟩⟩
    have hx6 := e1.trans hx5
    have ht6 := e2.trans ht5
    have nx : x ≠ tc := ne_of_none hx6 htc
    refine ⟨_, rfl, x, ζ.Ladder, dx, _, rfl, (upd_ne nx).trans hx6, T.cl_Ladder, T.na_Ladder__counts, (by show 3 < 1000; decide), ?_⟩
    refine kk _ ((k6.new htc).upd) ⟨dx, tl, tc, ?_, ?_, cs, ?_, by rw [hc]; omega, fun j b e => ?_⟩
    · rw [upd_same, List.length_map]; rfl
    · rw [upd_ne nxt.symm, upd_ne (ne_of_none ht6 htc), ht6]
    · rw [upd_ne nx.symm, upd_same]
    · have h9 := hj j b e
      rw [upd_ne (ne_of h9 hx6 (by intro z; cases z)), upd_ne (ne_of_none h9 htc), h9]
end
end LR

set_option Elab.async false
set_option maxRecDepth 100000
set_option linter.all false
set_option maxHeartbeats 4000000
namespace LR
open PySem PySem.Spec PyProof.Rows L2
section
variable {P : Program} {w : World} {K : PySem.W.Frag} {mg : Str → Option Value} {base : Heap} {ζ : Cs}
def spRowT (K : PySem.W.Frag) (D : Addr) : Sp := fun vs H Q E => ∃ (h : Int) (a : Addr) (ls : List Int) (most : Int), vs = [.int h, .ref a, .int most] ∧ Sq K H a (ls.map V.int) ∧ (∀ l ∈ ls, 1 ≤ l ∧ l ≤ h) ∧ ls.length ≤ 1000 ∧ most.natAbs < 2 ^ 1900 ∧ ((ls.length : Int) ≤ most → ∀ H', Same H H' → Q .non H') ∧ (most < (ls.length : Int) → E (.ref D) none H)
theorem small_nat {n : Nat} (h : n ≤ 100000) : (n : Int).natAbs < 2 ^ 1900 := Nat.lt_of_le_of_lt (by omega : (n : Int).natAbs ≤ 100000) (Nat.lt_of_lt_of_le (by decide : 100000 < 2 ^ 20) (Nat.pow_le_pow_right (by decide) (by decide)))
theorem ok_rowT (T : Txt P K mg ζ) : CalX P w K mg base 3 "check_row" (spRowT K ζ.TooLarge) := by
  have e_BadLevel : ErrOk P w K mg base "BadLevel" ζ.BadLevel "index" := err_BadLevel T
  refine T.d_check_row.calX sc_check_row (fun vs H Q E h => ?_) (fun f cdv A outer s H vs Q E hr h => ⟨_, pss_cons (ps_if (pt_cmpR op_gt (pe_callB call_len_seq (by rfl) T.n_len b_len (pa_cons (pv 1) (pa_nil))) (pv 2) (nomark _))
 (pss_one (ps_raise rfl (takes_of rfl rfl rfl rfl) (SkE.pmk_own1 PySem.F.excBase_ValueError T.r_TooLarge.xP T.r_TooLarge.gC T.r_TooLarge.kP (raises_own T.r_TooLarge.bP T.r_TooLarge.tP) (by rfl) (pe_joined (PJ.cons (pe_str) (PJ.cons (pe_fmt (pe_callB call_len_seq (by rfl) T.n_len b_len (pa_cons (pv 1) (pa_nil)))) (PJ.cons (pe_str) (PJ.cons (pe_fmt (pv 2)) (PJ.nil)))))))))
 (pss_nil))
 (pss_one (ps_for (passes_of rfl) rfl (pi_enumS (by rfl) T.n_enumerate (pa_cons (pv 1) (pa_nil))) (pg_tup rfl (pgs_cons (pg_name (i := 3) sc_check_row.nd rfl (Or.inl rfl)) (pgs_cons (pg_name (i := 4) sc_check_row.nd rfl (Or.inl rfl)) (pgs_nil))))
 (pss_one (ps_if (pt_not (pt_chain op_le op_le (pe_int) (pv 4) (pv 0) ))
 (pss_one (ps_raise rfl (takes_of rfl rfl rfl rfl) (pmk_err e_BadLevel hr (by first | decide | omega) (pa_cons (pv 3) (pa_nil)) rfl)))
 (pss_nil))))), ?_⟩)
  · obtain ⟨h, a, ls, most, rfl, _⟩ := h; rfl
  obtain ⟨h, a, ls, most, rfl, hS, hb, hl, hm, kk, bad⟩ := h
  refine ⟨_, rfl, a, _, rfl, hS, _, rfl, _, _, rfl, rfl, _, rfl, ?_⟩
  refine ite2 (fun c => ?_) (fun c => ?_)
  · have c := of_decide_eq_true c
    rw [List.length_map] at c
    refine js_c (n := 0) (by decide) (Nat.zero_le _) (by decide +kernel) fun acc h1 => ?_
    refine js_v (n := 1000) (v := ((ls.map V.int).length : Int)) (by decide) h1 (log_small (small_nat (by rw [List.length_map]; omega))) (fun Q q => ⟨_, rfl, a, _, rfl, hS, q⟩) fun acc h2 => ?_
    refine js_c (n := 2921) (by decide) h2 (by decide +kernel) fun acc h3 => ?_
    refine js_v (n := 3921) (by decide) h3 (log_small hm) (fun Q q => ⟨_, rfl, q⟩) fun acc h4 => ?_
    exact bad (by omega)
  have c : (ls.length : Int) ≤ most := by
    have c : ¬ ((ls.map V.int).length : Int) > most := fun q => c (decide_eq_true q)
    rw [List.length_map] at c; omega
  refine ⟨_, rfl, a, rfl, hS.enum (Same.refl _) fun J G W g1 g2 => for_it W (fun i σ H' => Same H H' ∧ ∃ y z, σ = [some (.int h), some (.ref a), some (.int most), y, z]) ⟨Same.refl _, _, _, rfl⟩ (fun i σ H' _ h => g1 _ h.1) ?_ (fun σ H' h => ?_)⟩
  · rintro i x σ H1 H2 hi ⟨s1, y, z, rfl⟩ ⟨t, x, y, rfl, ht, rfl, ex, ey⟩
    cases ex
    obtain ⟨l, el, rfl⟩ := map_get ey
    obtain ⟨b1, b2⟩ := hb l (List.mem_of_getElem? el)
    refine ⟨t, _, rfl, SqT.of upd_same, rfl, _, _, rfl, _, _, rfl, rfl, ?_⟩
    refine ⟨_, rfl, _, _, rfl, rfl, _, rfl, ?_⟩
    refine ite2 (fun c => ?_) (fun c => absurd (decide_eq_true b1) c)
    refine ⟨_, rfl, _, _, rfl, rfl, _, rfl, ?_⟩
    refine ite2 (fun c => ?_) (fun _ => ⟨s1.new ht, _, _, rfl⟩)
    rw [decide_eq_true b2] at c; cases c
  · exact kk c _ h.1
def spInitT (C D : Addr) : Sp := fun vs H Q E => ∃ (x a dx : Addr) (h : Int) (ls : List Int), vs = [.ref x, .int h, .ref a] ∧ H x = some (.ins C dx []) ∧ (H a = some (.lst (ls.map V.int)) ∨ H a = some (.tup (ls.map V.int))) ∧ (h = 1 ∨ h = 2 ∨ h = 3) ∧ ls.length ≤ 1000 ∧ (∀ l ∈ ls, 1 ≤ l ∧ l ≤ h) ∧ (ls.length ≤ 24 → ∀ H', Keep x H H' → LadderAt C H' x h ls → Q .non H') ∧ (24 < ls.length → ∀ H', Same H H' → E (.ref D) none H')
theorem ok_initT (T : Txt P K mg ζ) : MakX P w K mg base 4 "Ladder" ζ.Ladder (spInitT ζ.Ladder ζ.TooLarge) := by
  have c_check_height : Cal P w K mg base 1 "check_height" spHeight := ok_height T
  have cx_check_row : CalX P w K mg base 3 "check_row" (spRowT K ζ.TooLarge) := ok_rowT T
  have c__counts_from : Cal P w K mg base 1 "_counts_from" (spCountsS K) := ok_countsS T
  refine T.mk_Ladder.makX sc_L_init (fun vs H Q E h => ?_) (fun f cdv A outer s H vs Q E hr h => ⟨_, pss_cons (ps_expr (pe_c c_check_height hr (by first | decide | omega) (by rfl) (pa_cons (pv 1) (pa_nil))))
 (pss_cons (ps_expr (pe_cT cx_check_row hr (by first | decide | omega) (takes_of rfl rfl rfl rfl) (by rfl) (pa_cons (pv 1) (pa_cons (pv 2) (pa_cons (ClX.pe_cval (pe_glob (v := .ref ζ.Ladder) (by rfl) T.mg_Ladder rfl)) (pa_nil))))))
 (PSs.nox (pss_cons (ps_fld (pv 0) (pv 1) rfl)
 (pss_cut (ps_fld (pv 0) (pe_callTy call_tuple_of (by rfl) T.n_tuple b_tuple (pa_cons (pv 2) (pa_nil))) rfl)
 (pss_cons (ps_fld (pv 0) (pe_callB call_len_seq (by rfl) T.n_len b_len (pa_cons (pv 2) (pa_nil))) rfl)
 (pss_one (ps_fld (pv 0) (pe_callTy call_tuple_of (by rfl) T.n_tuple b_tuple (pa_cons (pe_lc (own := [("level", 3)]) (g := gName 3) (tt := tYes)  rfl sc_L_init.nd (pi_range2 rfl T.n_range (pa_cons (pe_int) (pa_cons (pe_op op_add (pv 1) (pe_int)) (pa_nil)))) (blkOk_by (N := N_L_init) (sc := defScope s_L_init) (by decide +kernel)) (fun _ _ _ _ _ => pg_name (i := 3) sc_L_init.nd rfl (Or.inl rfl)) (fun _ _ _ _ _ => pts_nil) (fun _ _ _ _ _ => pe_c c__counts_from hr (by first | decide | omega) (by rfl) (pa_cons (pv 3) (pa_cons (pv 2) (pa_nil))))) (pa_nil))) rfl))))))), ?_⟩)
  · obtain ⟨x, a, dx, h, ls, rfl, _⟩ := h; rfl
  obtain ⟨x, a, dx, h, ls, rfl, hx, ha, hh, hl, hb, kk, bad⟩ := h
  have nax : a ≠ x := by
    rcases ha with ha | ha
    · exact ne_of ha hx (by intro z; cases z)
    · exact ne_of ha hx (by intro z; cases z)
  have hS : Sq K H a (ls.map V.int) := by
    rcases ha with ha | ha
    · exact .inl (SqL.of ha)
    · exact .inr (SqT.of ha)
  obtain ⟨mc, u, cr, cv⟩ := T.cv_Ladder_MOST_LEVELS
  refine ⟨_, rfl, h, rfl, hh, fun H1 s1 => ?_⟩
  refine ⟨_, rfl, _, rfl, ζ.Ladder, mc, _, u, rfl, cr, cv, h, a, ls, 24, rfl, hS.same s1, hb, hl, by decide, fun le H2 s2 => ?_, fun gt => bad (by omega) _ s1⟩
  have hl : ls.length ≤ 24 := by omega
  replace kk := kk hl
  have k2 : Keep x H H2 := (s1.trans s2).keep
  refine ⟨_, rfl, _, rfl, x, ζ.Ladder, dx, _, rfl, s2 _ _ (s1 _ _ hx), T.cl_Ladder, T.na_Ladder_height, (by show 0 < 1000; decide), ?_⟩
  have k3 : Keep x H (upd H2 x (.ins ζ.Ladder dx (putF "height" (V.int h) []))) := k2.upd
  refine ⟨fun σ' H' => σ' = [some (.ref x), some (.int h), some (.ref a), none] ∧ Keep x H H' ∧ ∃ tl, x ≠ tl ∧ H' tl = some (.tup (ls.map V.int)) ∧ H' x = some (.ins ζ.Ladder dx (putF "levels" (V.ref tl) (putF "height" (V.int h) []))), ?_, ?_⟩
  · rcases ha with ha | ha
    · refine ⟨_, rfl, a, _, rfl, .inl ⟨SqL.of (k3 _ nax _ ha), fun tl htl => ?_⟩⟩
      have nxt : x ≠ tl := fun q => by rw [← q, upd_same] at htl; cases htl
      refine ⟨_, rfl, x, ζ.Ladder, dx, _, rfl, (upd_ne nxt).trans upd_same, T.cl_Ladder, T.na_Ladder_levels, (by show 1 < 1000; decide), ?_⟩
      exact ⟨rfl, (k3.new htl).upd, tl, nxt, by rw [upd_ne nxt.symm, upd_same], upd_same⟩
    · refine ⟨_, rfl, a, _, rfl, .inr ⟨SqT.of (k3 _ nax _ ha), ?_⟩⟩
      refine ⟨_, rfl, x, ζ.Ladder, dx, _, rfl, upd_same, T.cl_Ladder, T.na_Ladder_levels, (by show 1 < 1000; decide), ?_⟩
      exact ⟨rfl, k3.upd, a, nax.symm, by rw [upd_ne nax, k3 _ nax _ ha], upd_same⟩
  rintro σ' H3 ⟨rfl, k4, tl, nxt, htl, hx3⟩
  refine ⟨_, rfl, a, _, rfl, hS.keep k4 nax, _, rfl, x, ζ.Ladder, dx, _, rfl, hx3, T.cl_Ladder, T.na_Ladder_top, (by show 2 < 1000; decide), ?_⟩
  have k5 := k4.upd (o := .ins ζ.Ladder dx (putF "top" (V.int ((ls.map V.int).length : Int)) (putF "levels" (V.ref tl) (putF "height" (V.int h) []))))
  have hx5 : (upd H3 x (.ins ζ.Ladder dx (putF "top" (V.int ((ls.map V.int).length : Int)) (putF "levels" (V.ref tl) (putF "height" (V.int h) []))))) x = some (.ins ζ.Ladder dx (putF "top" (V.int ((ls.map V.int).length : Int)) (putF "levels" (V.ref tl) (putF "height" (V.int h) [])))) := upd_same
  have ht5 : (upd H3 x (.ins ζ.Ladder dx (putF "top" (V.int ((ls.map V.int).length : Int)) (putF "levels" (V.ref tl) (putF "height" (V.int h) []))))) tl = some (.tup (ls.map V.int)) := by rw [upd_ne nxt.symm, htl]
  generalize upd H3 x (.ins ζ.Ladder dx (putF "top" (V.int ((ls.map V.int).length : Int)) (putF "levels" (V.ref tl) (putF "height" (V.int h) [])))) = H5 at k5 hx5 ht5 ⊢
  refine ⟨_, rfl, _, _, rfl, rfl, 1, _, rfl, ⟨by decide, by decide, by omega, by omega⟩, fun D hD => ?_⟩
  have nDx : D ≠ x := fun q => by rw [q, hx5] at hD; cases hD
  refine lc_range (lo := 1) (n := (h + 2 - 1).toNat) (fun i H' => Keep x H H' ∧ H' x = H5 x ∧ H' tl = H5 tl ∧ ∃ cs : List Addr, H' D = some (.lst (cs.map V.ref)) ∧ cs.length = i ∧ ∀ (j : Nat) (b : Addr), cs[j]? = some b → H' b = some (.tup (cnL ls (j + 1) (ls.length + 1)))) ?_ ?_ ?_
  · exact ⟨k5.new hD, upd_ne nDx.symm, upd_ne (ne_of_none ht5 hD), [], upd_same, rfl, fun j b e => by simp at e⟩
  · rintro i H6 hi ⟨k6, e1, e2, cs, h6, hc, hj⟩
    refine ⟨rfl, lc_yes (iteT ?_)⟩
    refine ⟨_, rfl, _, rfl, _, a, ls, rfl, hS.keep k6 nax, by omega, fun H7 p s7 hp h7 => ?_⟩
    have nD : D ≠ p := ne_of_none h6 hp
    refine ⟨_, s7 _ _ h6, (by rw [List.length_map, hc, sizeLine_eq]; omega), ?_, ?_, ?_, cs ++ [p], ?_, by simp [hc], ?_⟩
    · intro b nb o e
      have := s7 _ _ (k6 b nb o e)
      rw [upd_ne (fun q => ?_)]
      · exact this
      · have hn : H D = none := by
          cases q2 : H D with
          | none => rfl
          | some o2 =>
            have := k5 D nDx o2 q2
            rw [hD] at this; cases this
        rw [q, hn] at e; cases e
    · rw [upd_ne nDx.symm, s7 x _ (e1.trans hx5), hx5]
    · rw [upd_ne (ne_of_none ht5 hD), s7 tl _ (e2.trans ht5), ht5]
    · rw [upd_same, List.map_append]; rfl
    · intro j b e
      rw [List.getElem?_append] at e
      split at e
      · rename_i hj2
        have h8 := s7 _ _ (hj j b e)
        rw [upd_ne (fun q => ?_)]
        · exact h8
        · rw [q, s7 _ _ h6] at h8; cases h8
      · rename_i hj2
        have ej : j = i := by
          have := (List.getElem?_eq_some_iff.mp e).1
          simp at this; omega
        subst ej
        rw [hc, Nat.sub_self] at e
        simp at e
        subst e
        rw [upd_ne nD.symm, h7, Int.add_comm]
  · rintro H6 ⟨k6, e1, e2, cs, h6, hc, hj⟩
    refine ⟨D, _, rfl, .inl ⟨SqL.of h6, fun tc htc => ?_⟩⟩
    have hx6 := e1.trans hx5
    have ht6 := e2.trans ht5
    have nx : x ≠ tc := ne_of_none hx6 htc
    refine ⟨_, rfl, x, ζ.Ladder, dx, _, rfl, (upd_ne nx).trans hx6, T.cl_Ladder, T.na_Ladder__counts, (by show 3 < 1000; decide), ?_⟩
    refine kk _ ((k6.new htc).upd) ⟨dx, tl, tc, ?_, ?_, cs, ?_, by rw [hc]; omega, fun j b e => ?_⟩
    · rw [upd_same, List.length_map]; rfl
    · rw [upd_ne nxt.symm, upd_ne (ne_of_none ht6 htc), ht6]
    · rw [upd_ne nx.symm, upd_same]
    · have h9 := hj j b e
      rw [upd_ne (ne_of h9 hx6 (by intro z; cases z)), upd_ne (ne_of_none h9 htc), h9]
end
end LR

set_option Elab.async false
set_option maxRecDepth 100000
set_option linter.all false
set_option maxHeartbeats 4000000
namespace LR
open PySem PySem.Spec PyProof.Rows L2
section
variable {P : Program} {w : World} {K : PySem.W.Frag} {mg : Str → Option Value} {base : Heap} {ζ : Cs}
def spSameHX (D : Addr) : Sp := fun vs H Q E => ∃ h k : Int, vs = [.int h, .int k] ∧ h.natAbs < 2 ^ 1900 ∧ k.natAbs < 2 ^ 1900 ∧ (h = k → Q .non H) ∧ (h ≠ k → E (.ref D) none H)
theorem ok_samehX (T : Txt P K mg ζ) : CalX P w K mg base 1 "check_same_height" (spSameHX ζ.HeightMismatch) := by
  refine T.d_check_same_height.calX sc_check_same_height (fun vs H Q E h => ?_) (fun f cdv A outer s H vs Q E hr h => ⟨_, pss_one (ps_if (pt_cmpR op_ne (pv 0) (pv 1) (nomark _))
 (pss_one (ps_raise rfl (takes_of rfl rfl rfl rfl) (SkE.pmk_own1 PySem.F.excBase_ValueError T.r_HeightMismatch.xP T.r_HeightMismatch.gC T.r_HeightMismatch.kP (raises_own T.r_HeightMismatch.bP T.r_HeightMismatch.tP) (by rfl) (pe_joined (PJ.cons (pe_str) (PJ.cons (pe_fmt (pv 0)) (PJ.cons (pe_str) (PJ.cons (pe_fmt (pv 1)) (PJ.cons (pe_str) (PJ.nil))))))))))
 (pss_nil)), ?_⟩)
  · obtain ⟨h, k, rfl, _⟩ := h; rfl
  obtain ⟨h, k, rfl, hh, hk, good, bad⟩ := h
  refine ⟨_, rfl, _, rfl, rfl, _, rfl, ?_⟩
  have em : (!decide (V.int h = V.int k)) = decide (h ≠ k) := by simp
  rw [em]
  refine ite2 (fun c => ?_) (fun c => ?_)
  · have c := of_decide_eq_true c
    refine js_c (n := 0) (by decide) (Nat.zero_le _) (by decide +kernel) fun acc h1 => ?_
    refine js_v (n := 1000) (by decide) h1 (log_small hh) (fun Q q => ⟨_, rfl, q⟩) fun acc h2 => ?_
    refine js_c (n := 2921) (by decide) h2 (by decide +kernel) fun acc h3 => ?_
    refine js_v (n := 3921) (by decide) h3 (log_small hk) (fun Q q => ⟨_, rfl, q⟩) fun acc h4 => ?_
    exact js_c (n := 5842) (by decide) h4 (by decide +kernel) fun acc h5 => bad c
  · exact good (Classical.byContradiction fun q => c (decide_eq_true q))
def spSameH : Sp := fun vs H Q _ => ∃ h : Int, vs = [.int h, .int h] ∧ Q .non H
theorem ok_sameh (T : Txt P K mg ζ) : Cal P w K mg base 1 "check_same_height" spSameH := by
  refine T.d_check_same_height.cal sc_check_same_height (fun vs H Q E h => ?_) (fun f cdv A outer s H vs Q E hr h => ⟨_, pss_one (ps_if (pt_cmpR op_ne (pv 0) (pv 1) (nomark _))
 (pss_never)
 (pss_nil)), ?_⟩)
  · obtain ⟨h, rfl, _⟩ := h; rfl
  obtain ⟨h, rfl, good⟩ := h
  refine ⟨_, rfl, _, rfl, rfl, _, rfl, ?_⟩
  exact ite2 (fun c => by simp at c) (fun _ => good)
theorem small_h {h : Int} (hh : h = 1 ∨ h = 2 ∨ h = 3) : h.natAbs < 2 ^ 1900 := Nat.lt_of_le_of_lt (by omega : h.natAbs ≤ 3) (Nat.lt_of_lt_of_le (by decide : 3 < 2 ^ 20) (Nat.pow_le_pow_right (by decide) (by decide)))
def spAddX (C DH DT : Addr) : Sp := fun vs H Q E => ∃ (x y : Addr) (h k : Int) (ls ms : List Int), vs = [.ref x, .ref y] ∧ LadderAt C H x h ls ∧ LadderAt C H y k ms ∧ (h = 1 ∨ h = 2 ∨ h = 3) ∧ (k = 1 ∨ k = 2 ∨ k = 3) ∧ ls.length ≤ 24 ∧ ms.length ≤ 24 ∧ (∀ l ∈ ls, 1 ≤ l ∧ l ≤ h) ∧ (∀ l ∈ ms, 1 ≤ l ∧ l ≤ k) ∧
  (h ≠ k → E (.ref DH) none H) ∧ (h = k → 24 < (ls ++ h :: ms).length → ∀ H', Same H H' → E (.ref DT) none H') ∧ (h = k → (ls ++ h :: ms).length ≤ 24 → ∀ H' z, Same H H' → LadderAt C H' z h (ls ++ h :: ms) → Q (.ref z) H')
theorem ok_addX (T : Txt P K mg ζ) : MetX P w K mg base 6 ζ.Ladder "__add__" (spAddX ζ.Ladder ζ.HeightMismatch ζ.TooLarge) := by
  have cx_check_same_height : CalX P w K mg base 1 "check_same_height" (spSameHX ζ.HeightMismatch) := ok_samehX T
  have cx_Ladder : MakX P w K mg base 4 "Ladder" ζ.Ladder (spInitT ζ.Ladder ζ.TooLarge) := ok_initT T
  refine T.mt_L_add.metX T.cl_Ladder sc_L_add (fun vs H Q E h => ?_) (fun f cdv A outer s H vs Q E hr h => ⟨_, pss_cons (ps_expr (pe_cT cx_check_same_height hr (by first | decide | omega) (takes_of rfl rfl rfl rfl) (by rfl) (pa_cons (pe_fld (pv 0) rfl) (pa_cons (pe_fld (pv 1) rfl) (pa_nil)))))
 (pss_one (ps_ret (pe_mkT cx_Ladder hr (by first | decide | omega) (takes_of rfl rfl rfl rfl) (by rfl) (pa_cons (pe_fld (pv 0) rfl) (pa_cons (pe_op op_catA (pe_op op_catA (pe_fld (pv 0) rfl) (pe_tup (pa_cons (pe_fld (pv 0) rfl) (pa_nil)))) (pe_fld (pv 1) rfl)) (pa_nil)))))), ?_⟩)
  · obtain ⟨x, y, h, k, ls, ms, rfl, _⟩ := h; rfl
  obtain ⟨x, y, h, k, ls, ms, rfl, LA, LB, hh, hk, hl, hm, bl, bm, bad1, bad2, good⟩ := h
  obtain ⟨dx, tl, tc, h1, h2, h3⟩ := id LA
  obtain ⟨dy, sl, sc, i1, i2, i3⟩ := id LB
  refine ⟨_, rfl, x, ζ.Ladder, dx, _, _, rfl, h1, T.cl_Ladder, T.na_Ladder_height, rfl, _, rfl, y, ζ.Ladder, dy, _, _, rfl, i1, T.cl_Ladder, T.na_Ladder_height, rfl, h, k, rfl, small_h hh, small_h hk, fun e => ?_, bad1⟩
  subst e
  refine ⟨_, rfl, x, ζ.Ladder, dx, _, _, rfl, h1, T.cl_Ladder, T.na_Ladder_height, rfl, _, rfl, x, ζ.Ladder, dx, _, _, rfl, h1, T.cl_Ladder, T.na_Ladder_levels, rfl, _, rfl, x, ζ.Ladder, dx, _, _, rfl, h1, T.cl_Ladder, T.na_Ladder_height, rfl, (by show 1 ≤ sizeLine; decide), fun p hp => ?_⟩
  have s1 : Same H (upd H p (.tup [.int h])) := same_new hp
  refine cat_tup (s1 _ _ h2) upd_same (by rw [List.length_map]; show ls.length + 1 ≤ _; omega) fun q H2 s2 hq => ?_
  have s3 := s1.trans s2
  refine ⟨_, rfl, y, ζ.Ladder, dy, _, _, rfl, s3 _ _ i1, T.cl_Ladder, T.na_Ladder_levels, rfl, ?_⟩
  refine cat_tup hq (s3 _ _ i2) (by rw [List.length_append, List.length_map, List.length_map]; show ls.length + 1 + ms.length ≤ _; omega) fun r H4 s4 hr4 => ?_
  have s5 := s3.trans s4
  have er : ls.map V.int ++ [V.int h] ++ ms.map V.int = (ls ++ h :: ms).map V.int := by simp
  rw [er] at hr4
  intro z dz hz hdz nz
  have s6 : Same H4 (upd (upd H4 dz (.own z)) z (.ins ζ.Ladder dz [])) := (same_new hdz).new (by rw [upd_ne nz.symm]; exact hz)
  refine ⟨z, r, dz, h, ls ++ h :: ms, rfl, upd_same, .inr (s6 _ _ hr4), hh, by simp; omega, ?_, fun le H' k' LA' => ⟨rfl, good rfl le H' z (fun b o e => k' b (ne_of_none (s5 _ _ e) hz) o (s6 b o (s5 _ _ e))) LA'⟩, fun gt H' s' => bad2 rfl gt H' ((s5.trans s6).trans s')⟩
  · intro l hl
    rcases List.mem_append.mp hl with q | q
    · exact bl l q
    · rcases List.mem_cons.mp q with q | q
      · subst q; omega
      · exact bm l q
def spAdd (C : Addr) : Sp := fun vs H Q _ => ∃ (x y : Addr) (h : Int) (ls ms : List Int), vs = [.ref x, .ref y] ∧ LadderAt C H x h ls ∧ LadderAt C H y h ms ∧ (h = 1 ∨ h = 2 ∨ h = 3) ∧ (∀ l ∈ ls, 1 ≤ l ∧ l ≤ h) ∧ (∀ l ∈ ms, 1 ≤ l ∧ l ≤ h) ∧ (ls ++ h :: ms).length ≤ 24 ∧ ∀ H' z, Same H H' → H z = none → LadderAt C H' z h (ls ++ h :: ms) → Q (.ref z) H'
theorem ok_add (T : Txt P K mg ζ) : Met P w K mg base 4 ζ.Ladder "__add__" (spAdd ζ.Ladder) := by
  have c_check_same_height : Cal P w K mg base 1 "check_same_height" spSameH := ok_sameh T
  have c_Ladder : Mak P w K mg base 2 "Ladder" ζ.Ladder (spInitS ζ.Ladder) := ok_initS T
  refine T.mt_L_add.met T.cl_Ladder sc_L_add (fun vs H Q E h => ?_) (fun f cdv A outer s H vs Q E hr h => ⟨_, pss_cons (ps_expr (pe_c c_check_same_height hr (by first | decide | omega) (by rfl) (pa_cons (pe_fld (pv 0) rfl) (pa_cons (pe_fld (pv 1) rfl) (pa_nil)))))
 (pss_one (ps_ret (pe_mk c_Ladder hr (by first | decide | omega) (by rfl) (pa_cons (pe_fld (pv 0) rfl) (pa_cons (pe_op op_catA (pe_op op_catA (pe_fld (pv 0) rfl) (pe_tup (pa_cons (pe_fld (pv 0) rfl) (pa_nil)))) (pe_fld (pv 1) rfl)) (pa_nil)))))), ?_⟩)
  · obtain ⟨x, y, h, ls, ms, rfl, _⟩ := h; rfl
  obtain ⟨x, y, h, ls, ms, rfl, LA, LB, hh, bl, bm, hl, good⟩ := h
  obtain ⟨dx, tl, tc, h1, h2, h3⟩ := id LA
  obtain ⟨dy, sl, sc, i1, i2, i3⟩ := id LB
  have hl2 : ls.length + 1 + ms.length ≤ 24 := by simp at hl; omega
  refine ⟨_, rfl, x, ζ.Ladder, dx, _, _, rfl, h1, T.cl_Ladder, T.na_Ladder_height, rfl, _, rfl, y, ζ.Ladder, dy, _, _, rfl, i1, T.cl_Ladder, T.na_Ladder_height, rfl, h, rfl, ?_⟩
  refine ⟨_, rfl, x, ζ.Ladder, dx, _, _, rfl, h1, T.cl_Ladder, T.na_Ladder_height, rfl, _, rfl, x, ζ.Ladder, dx, _, _, rfl, h1, T.cl_Ladder, T.na_Ladder_levels, rfl, _, rfl, x, ζ.Ladder, dx, _, _, rfl, h1, T.cl_Ladder, T.na_Ladder_height, rfl, (by show 1 ≤ sizeLine; decide), fun p hp => ?_⟩
  have s1 : Same H (upd H p (.tup [.int h])) := same_new hp
  refine cat_tup (s1 _ _ h2) upd_same (by rw [List.length_map]; show ls.length + 1 ≤ _; omega) fun q H2 s2 hq => ?_
  have s3 := s1.trans s2
  refine ⟨_, rfl, y, ζ.Ladder, dy, _, _, rfl, s3 _ _ i1, T.cl_Ladder, T.na_Ladder_levels, rfl, ?_⟩
  refine cat_tup hq (s3 _ _ i2) (by rw [List.length_append, List.length_map, List.length_map]; show ls.length + 1 + ms.length ≤ _; omega) fun r H4 s4 hr4 => ?_
  have s5 := s3.trans s4
  have er : ls.map V.int ++ [V.int h] ++ ms.map V.int = (ls ++ h :: ms).map V.int := by simp
  rw [er] at hr4
  intro z dz hz hdz nz
  have s6 : Same H4 (upd (upd H4 dz (.own z)) z (.ins ζ.Ladder dz [])) := (same_new hdz).new (by rw [upd_ne nz.symm]; exact hz)
  have bb : ∀ l ∈ ls ++ h :: ms, 1 ≤ l ∧ l ≤ h := by
    intro l hl
    rcases List.mem_append.mp hl with q | q
    · exact bl l q
    · rcases List.mem_cons.mp q with q | q
      · subst q; omega
      · exact bm l q
  exact ⟨z, r, dz, h, ls ++ h :: ms, rfl, upd_same, .inr (s6 _ _ hr4), hh, hl, bb, fun H' k' LA' => ⟨rfl, good H' z (fun b o e => k' b (ne_of_none (s5 _ _ e) hz) o (s6 b o (s5 _ _ e))) (s5.free hz) LA'⟩⟩
def spFlip (C : Addr) : Sp := fun vs H Q _ => ∃ (x : Addr) (h : Int) (ls : List Int), vs = [.ref x] ∧ LadderAt C H x h ls ∧ (h = 1 ∨ h = 2 ∨ h = 3) ∧ ls.length ≤ 24 ∧ (∀ l ∈ ls, 1 ≤ l ∧ l ≤ h) ∧ ∀ H' z, Same H H' → H z = none → LadderAt C H' z h ls.reverse → Q (.ref z) H'
theorem ok_flip (T : Txt P K mg ζ) : Met P w K mg base 4 ζ.Ladder "flipped" (spFlip ζ.Ladder) := by
  have c_Ladder : Mak P w K mg base 2 "Ladder" ζ.Ladder (spInitS ζ.Ladder) := ok_initS T
  refine T.mt_L_flipped.met T.cl_Ladder sc_L_flipped (fun vs H Q E h => ?_) (fun f cdv A outer s H vs Q E hr h => ⟨_, pss_one (ps_ret (pe_mk c_Ladder hr (by first | decide | omega) (by rfl) (pa_cons (pe_fld (pv 0) rfl) (pa_cons (pe_revT (pe_fld (pv 0) rfl)) (pa_nil))))), ?_⟩)
  · obtain ⟨x, h, ls, rfl, _⟩ := h; rfl
  obtain ⟨x, h, ls, rfl, LA, hh, hl, hb, good⟩ := h
  obtain ⟨dx, tl, tc, h1, h2, h3⟩ := id LA
  refine ⟨_, rfl, x, ζ.Ladder, dx, _, _, rfl, h1, T.cl_Ladder, T.na_Ladder_height, rfl, _, rfl, x, ζ.Ladder, dx, _, _, rfl, h1, T.cl_Ladder, T.na_Ladder_levels, rfl, tl, _, rfl, SqT.of h2, fun p hp => ?_⟩
  intro z dz hz hdz nz
  have s5 : Same H (upd H p (.tup (ls.map V.int).reverse)) := same_new hp
  have hp5 : (upd H p (.tup (ls.map V.int).reverse)) p = some (.tup (ls.reverse.map V.int)) := by rw [upd_same, List.map_reverse]
  generalize upd H p (.tup (ls.map V.int).reverse) = H4 at s5 hp5 hz hdz ⊢
  have s6 : Same H4 (upd (upd H4 dz (.own z)) z (.ins ζ.Ladder dz [])) := (same_new hdz).new (by rw [upd_ne nz.symm]; exact hz)
  exact ⟨z, p, dz, h, ls.reverse, rfl, upd_same, .inr (s6 _ _ hp5), hh, by rw [List.length_reverse]; exact hl, fun l q => hb l (List.mem_reverse.mp q), fun H' k' LA' => ⟨rfl, good H' z (fun b o e => k' b (ne_of_none (s5 _ _ e) hz) o (s6 b o (s5 _ _ e))) (s5.free hz) LA'⟩⟩
end
end LR

set_option Elab.async false
set_option maxRecDepth 100000
set_option linter.all false
set_option maxHeartbeats 4000000
namespace LR
open PySem PySem.Spec PyProof.Rows L2
section
variable {P : Program} {w : World} {K : PySem.W.Frag} {mg : Str → Option Value} {base : Heap} {ζ : Cs}
theorem dp_ints {K : PySem.W.Frag} {H : Hp} : ∀ l : List Int, DpAll K H (l.map V.int) (l.map PyData.int)
  | [] => .nil
  | i :: r => .cons (.int i) (dp_ints r)
theorem eqv_ints : ∀ l m : List Int, PyData.eqvAll (l.map PyData.int) (m.map PyData.int) = decide (l = m)
  | [], [] => by simp [PyData.eqvAll]
  | i :: r, [] => by simp [PyData.eqvAll]
  | [], i :: r => by simp [PyData.eqvAll]
  | i :: r, j :: t => by
    rw [List.map_cons, List.map_cons, PyData.eqvAll, eqv_ints r t]
    by_cases c : i = j <;> simp [PyData.eqv, c]
theorem shaped_ints (l : List Int) : SeqAt.shaped (.tuple (l.map PyData.int)) = true := by
  have h0 : ∀ l : List Int, PyData.canLayAll0 (l.map PyData.int) = true := fun l => by
    induction l with
    | nil => rfl
    | cons i r ih => rw [List.map_cons]; simp [PyData.canLayAll0, PyData.canLay0, ih]
  unfold SeqAt.shaped
  rw [Bool.and_eq_true]
  refine ⟨?_, decide_eq_true ?_⟩
  · simp [PyData.canLay0, h0]
  · simp [PyData.depth, depth_ints]
def spEq (C : Addr) : Sp := fun vs H Q _ => ∃ (x y : Addr) (h k : Int) (ls ms : List Int), vs = [.ref x, .ref y] ∧ LadderAt C H x h ls ∧ LadderAt C H y k ms ∧ Q (.bl (decide (h = k ∧ ls = ms))) H
theorem ok_eq (T : Txt P K mg ζ) : Met P w K mg base 2 ζ.Ladder "__eq__" (spEq ζ.Ladder) := by
  refine T.mt_L_eq.met T.cl_Ladder sc_L_eq (fun vs H Q E h => ?_) (fun f cdv A outer s H vs Q E hr h => ⟨_, pss_one (ps_ret (pe_and (pe_callB call_isi (by rfl) T.n_isinstance b_isinstance (pa_cons (pv 1) (pa_cons (pe_glob (v := .ref ζ.Ladder) (by rfl) T.mg_Ladder rfl) (pa_nil)))) (pe_and (pe_cmpR op_eq (pe_fld (pv 0) rfl) (pe_fld (pv 1) rfl) (nomark _)) (pe_one (pe_cmpR (op_eqD hr.units) (pe_fld (pv 0) rfl) (pe_fld (pv 1) rfl) (nomark _)))))), ?_⟩)
  · obtain ⟨x, y, h, k, ls, ms, rfl, _⟩ := h; rfl
  obtain ⟨x, y, h, k, ls, ms, rfl, LA, LB, good⟩ := h
  obtain ⟨dx, tl, tc, h1, h2, h3⟩ := id LA
  obtain ⟨dy, sl, sc, i1, i2, i3⟩ := id LB
  refine ⟨_, rfl, _, _, _, _, true, rfl, .own _, .base (.ins i1 T.cl_Ladder T.ai_Ladder T.objc.gt T.objc.tk T.mo_Ladder), T.kit_Ladder_Ladder, ?_⟩
  refine ⟨true, rfl, ?_⟩
  refine iteT ⟨_, rfl, x, ζ.Ladder, dx, _, _, rfl, h1, T.cl_Ladder, T.na_Ladder_height, rfl, _, rfl, y, ζ.Ladder, dy, _, _, rfl, i1, T.cl_Ladder, T.na_Ladder_height, rfl, rfl, _, rfl, ?_⟩
  have em : decide (V.int h = V.int k) = decide (h = k) := by simp
  rw [em]
  refine ite_b (fun c => ?_) (fun c => ?_)
  · have c := of_decide_eq_true c
    refine ⟨_, rfl, x, ζ.Ladder, dx, _, _, rfl, h1, T.cl_Ladder, T.na_Ladder_levels, rfl, _, rfl, y, ζ.Ladder, dy, _, _, rfl, i1, T.cl_Ladder, T.na_Ladder_levels, rfl, _, _, .tup (SqT.of h2) (dp_ints ls), .tup (SqT.of i2) (dp_ints ms), shaped_ints ls, shaped_ints ms, ?_⟩
    have e : PyData.eqv (.tuple (ls.map PyData.int)) (.tuple (ms.map PyData.int)) = decide (h = k ∧ ls = ms) := by
      rw [PyData.eqv, eqv_ints]; simp [c]
    rw [e]; exact good
  · have e : decide (h = k ∧ ls = ms) = false := by
      have : ¬ h = k := fun q => by rw [decide_eq_true q] at c; cases c
      simp [this]
    rw [e] at good; exact good
end
end LR

set_option Elab.async false
set_option maxRecDepth 100000
set_option linter.all false
set_option maxHeartbeats 4000000
namespace LR
open PySem PySem.Spec PyProof.Rows L2
section
variable {P : Program} {w : World} {K : PySem.W.Frag} {mg : Str → Option Value} {base : Heap} {ζ : Cs}
def spStep : Sp := fun vs H Q _ => ∃ (m u : Int), vs = [.int m, .int u] ∧ 0 ≤ u ∧ u ≤ m ∧ Q .non H
theorem ok_step (T : Txt P K mg ζ) : Cal P w K mg base 1 "check_step" spStep := by
  refine T.d_check_step.cal sc_check_step (fun vs H Q E h => ?_) (fun f cdv A outer s H vs Q E hr h => ⟨_, pss_one (ps_if (pt_not (pt_chain op_le op_le (pe_int) (pv 1) (pv 0) ))
 (pss_never)
 (pss_nil)), ?_⟩)
  · obtain ⟨m, u, rfl, _⟩ := h; rfl
  obtain ⟨m, u, rfl, u0, u1, kk⟩ := h
  refine ⟨_, rfl, _, _, rfl, rfl, _, rfl, ?_⟩
  refine ite2 (fun c => ?_) (fun c => absurd (decide_eq_true u0) c)
  refine ⟨_, rfl, _, _, rfl, rfl, _, rfl, ?_⟩
  refine ite2 (fun c => ?_) (fun _ => kk)
  rw [decide_eq_true u1] at c; cases c
end
end LR

set_option Elab.async false
set_option maxRecDepth 100000
set_option linter.all false
set_option maxHeartbeats 4000000
namespace LR
open PySem PySem.Spec PyProof.Rows L2
section
variable {P : Program} {w : World} {K : PySem.W.Frag} {mg : Str → Option Value} {base : Heap} {ζ : Cs}
def spGapP (C : Addr) : Sp := fun vs H Q _ => ∃ (x : Addr) (h : Int) (ls : List Int) (u w : Int), vs = [.ref x, .int u, .int w] ∧ LadderAt C H x h ls ∧ ls.length ≤ 1000 ∧ (0 ≤ u ∧ u ≤ ls.length) ∧ (0 ≤ w ∧ w ≤ ls.length) ∧ ∀ H', Same H H' → Q (.int (gapI ls u w)) H'
theorem ok_gapP (T : Txt P K mg ζ) : Met P w K mg base 2 ζ.Ladder "gap" (spGapP ζ.Ladder) := by
  have c_check_step : Cal P w K mg base 1 "check_step" spStep := ok_step T
  refine T.mt_L_gap.met T.cl_Ladder sc_L_gap (fun vs H Q E h => ?_) (fun f cdv A outer s H vs Q E hr h => ⟨_, pss_cons (ps_expr (pe_c c_check_step hr (by first | decide | omega) (by rfl) (pa_cons (pe_fld (pv 0) rfl) (pa_cons (pv 1) (pa_nil)))))
 (pss_cons (ps_expr (pe_c c_check_step hr (by first | decide | omega) (by rfl) (pa_cons (pe_fld (pv 0) rfl) (pa_cons (pv 2) (pa_nil)))))
 (pss_one (ps_ret (pe_callBK (cr_maxD rfl (Nat.lt_of_le_of_lt (Nat.add_le_add_left (by decide) _) hr.units)) (by rfl) T.n_max b_max (pa_cons (pe_slice sl_tupA (pe_fld (pv 0) rfl) (po_some (pe_callB (call_min2 rfl) (by rfl) T.n_min b_min (pa_cons (pv 1) (pa_cons (pv 2) (pa_nil))))) (po_some (pe_callB (call_max2 rfl) (by rfl) T.n_max b_max (pa_cons (pv 1) (pa_cons (pv 2) (pa_nil)))))) (pa_nil)) (pk_cons (pe_int) pk_nil))))), ?_⟩)
  · obtain ⟨x, h, ls, p, w, rfl, _⟩ := h; rfl
  obtain ⟨x, h, ls, u, w, rfl, LA, hl, bu, bw, good⟩ := h
  obtain ⟨dx, tl, tc, h1, h2, h3⟩ := id LA
  refine ⟨_, rfl, x, ζ.Ladder, dx, _, _, rfl, h1, T.cl_Ladder, T.na_Ladder_top, rfl, _, rfl, _, u, rfl, bu.1, bu.2, ?_⟩
  refine ⟨_, rfl, x, ζ.Ladder, dx, _, _, rfl, h1, T.cl_Ladder, T.na_Ladder_top, rfl, _, rfl, _, w, rfl, bw.1, bw.2, ?_⟩
  have h2L : SqT K H tl (ls.map V.int) := SqT.of h2
  refine ⟨_, rfl, x, ζ.Ladder, dx, _, _, rfl, h1, T.cl_Ladder, T.na_Ladder_levels, rfl, _, rfl, _, rfl, u, w, rfl, _, rfl, _, rfl, _, rfl, u, w, rfl, _, rfl, tl, _, rfl, h2L, fun full => ?_, fun nf t ht => ?_⟩
  · have e := whole_gap bu bw full
    exact ⟨tl, gapL ls u w, 0, rfl, rfl, (by rw [e]; exact h2L), good H (Same.refl _)⟩
  · refine ⟨t, gapL ls u w, 0, rfl, rfl, ?_, good _ (same_new ht)⟩
    rw [← cut_gap bu bw]
    exact SqT.of upd_same
def spHigh (C : Addr) : Sp := fun vs H Q _ => ∃ (x : Addr) (h : Int) (ls : List Int) (l u : Int), vs = [.ref x, .int l, .int u] ∧ LadderAt C H x h ls ∧ (1 ≤ l ∧ l ≤ h + 1) ∧ (0 ≤ u ∧ u ≤ ls.length) ∧ Q (.int (cn ls l u.toNat)) H
theorem ok_high (T : Txt P K mg ζ) : Met P w K mg base 2 ζ.Ladder "high" (spHigh ζ.Ladder) := by
  have c_check_step : Cal P w K mg base 1 "check_step" spStep := ok_step T
  refine T.mt_L_high.met T.cl_Ladder sc_L_high (fun vs H Q E h => ?_) (fun f cdv A outer s H vs Q E hr h => ⟨_, pss_cons (ps_if (pt_not (pt_chain op_le op_le (pe_int) (pv 1) (pe_op op_add (pe_fld (pv 0) rfl) (pe_int)) ))
 (pss_never)
 (pss_nil))
 (pss_cons (ps_expr (pe_c c_check_step hr (by first | decide | omega) (by rfl) (pa_cons (pe_fld (pv 0) rfl) (pa_cons (pv 2) (pa_nil)))))
 (pss_one (ps_ret (pe_ix ix_tup (pe_ix ix_tup (pe_fld (pv 0) rfl) (pe_op op_sub (pv 1) (pe_int)) (fun _ _ => rfl)) (pv 2) (fun _ _ => rfl))))), ?_⟩)
  · obtain ⟨x, h, ls, p, w, rfl, _⟩ := h; rfl
  obtain ⟨x, h, ls, l, u, rfl, LA, bl, bu, good⟩ := h
  obtain ⟨dx, tl, tc, h1, h2, cs, h3, h4, h5⟩ := id LA
  refine ⟨_, rfl, _, _, rfl, rfl, _, rfl, ?_⟩
  refine ite2 (fun c => ?_) (fun c => absurd (decide_eq_true bl.1) c)
  refine ⟨_, rfl, x, ζ.Ladder, dx, _, _, rfl, h1, T.cl_Ladder, T.na_Ladder_height, rfl, _, _, rfl, rfl, _, _, rfl, rfl, _, rfl, ?_⟩
  refine ite_b (fun c2 => ?_) (fun c2 => ?_)
  · rw [decide_eq_true bl.2] at c2; cases c2
  refine ⟨_, rfl, x, ζ.Ladder, dx, _, _, rfl, h1, T.cl_Ladder, T.na_Ladder_top, rfl, _, rfl, _, u, rfl, bu.1, bu.2, ?_⟩
  have hj : (l - 1).toNat < cs.length := by rw [h4]; omega
  have ej : ((l - 1).toNat : Int) = l - 1 := Int.toNat_of_nonneg (by omega)
  have hc := h5 _ _ (List.getElem?_eq_getElem hj)
  rw [ej, show l - 1 + 1 = l by omega] at hc
  have gu : atI (cnL ls l (ls.length + 1)) u = some (V.int (cn ls l u.toNat)) := by
    have := atI_nat (cnL_get (ls := ls) (lv := l) (n := ls.length + 1) (i := u.toNat) (by omega))
    rwa [Int.toNat_of_nonneg bu.1] at this
  have g1 : atI (cs.map V.ref) (l - 1) = some (V.ref (cs[(l - 1).toNat])) := by
    have := atI_nat (xs := cs.map V.ref) (j := (l - 1).toNat) (v := V.ref (cs[(l - 1).toNat])) (by rw [List.getElem?_map, List.getElem?_eq_getElem hj]; rfl)
    rwa [ej] at this
  exact ⟨_, rfl, x, ζ.Ladder, dx, _, _, rfl, h1, T.cl_Ladder, T.na_Ladder__counts, rfl, _, rfl, _, _, rfl, rfl, tc, _, _, _, rfl, rfl, SqT.of h3, g1, _, rfl, _, _, _, _, rfl, rfl, SqT.of hc, gu, good⟩
end
end LR

set_option Elab.async false
set_option maxRecDepth 100000
set_option linter.all false
set_option maxHeartbeats 4000000
namespace LR
open PySem PySem.Spec PyProof.Rows L2
section
variable {P : Program} {w : World} {K : PySem.W.Frag} {mg : Str → Option Value} {base : Heap} {ζ : Cs}
def spPieces (C : Addr) : Sp := fun vs H Q _ => ∃ (x : Addr) (h : Int) (ls : List Int), vs = [.ref x] ∧ LadderAt C H x h ls ∧ ls.length ≤ 1000 ∧ ∀ H' D, Same H H' → H D = none → PartsAt H' D (spl h ls) → Q (.ref D) H'
theorem ok_pieces (T : Txt P K mg ζ) : Met P w K mg base 1 ζ.Ladder "pieces" (spPieces ζ.Ladder) := by
  refine T.mt_L_pieces.met T.cl_Ladder sc_L_pieces (fun vs H Q E h => ?_) (fun f cdv A outer s H vs Q E hr h => ⟨_, pss_cons (ps_set (i := 1) sc_L_pieces.nd rfl (Or.inl rfl) (pe_lst (pa_nil)))
 (pss_cons (ps_set (i := 2) sc_L_pieces.nd rfl (Or.inl rfl) (pe_int))
 (pss_cons (ps_for PassesOwn.never rfl (pi_enumS (by rfl) T.n_enumerate (pa_cons (pe_fld (pv 0) rfl) (pa_nil))) (pg_tup rfl (pgs_cons (pg_name (i := 3) sc_L_pieces.nd rfl (Or.inl rfl)) (pgs_cons (pg_name (i := 4) sc_L_pieces.nd rfl (Or.inl rfl)) (pgs_nil))))
 (pss_one (ps_if (pt_cmpR op_eq (pv 4) (pe_fld (pv 0) rfl) (nomark _))
 (pss_cons (ps_expr (pe_bm PySem.F.plainAttrs_list PySem.F.slot_list_append PySem.F.type_list_append mt_append (pv 1) (pa_cons (pe_slice sl_tupA (pe_fld (pv 0) rfl) (po_some (pv 2)) (po_some (pv 3))) (pa_nil))))
 (pss_one (ps_set (i := 2) sc_L_pieces.nd rfl (Or.inl rfl) (pe_op op_add (pv 3) (pe_int)))))
 (pss_nil))))
 (pss_cons (ps_expr (pe_bm PySem.F.plainAttrs_list PySem.F.slot_list_append PySem.F.type_list_append mt_append (pv 1) (pa_cons (pe_slice sl_tupA (pe_fld (pv 0) rfl) (po_some (pv 2)) po_none) (pa_nil))))
 (pss_one (ps_ret (pv 1)))))), ?_⟩)
  · obtain ⟨x, h, ls, rfl, _⟩ := h; rfl
  obtain ⟨x, h, ls, rfl, LA, hl, good⟩ := h
  obtain ⟨dx, tl, tc, h1, h2, h3⟩ := id LA
  refine ⟨(by show 0 ≤ sizeLine; decide), fun D hD => ?_⟩
  have s1 : Same H (upd H D (.lst [])) := same_new hD
  refine ⟨_, rfl, x, ζ.Ladder, dx, _, _, rfl, s1 _ _ h1, T.cl_Ladder, T.na_Ladder_levels, rfl, tl, rfl, (show Sq K H tl (ls.map V.int) from .inr (SqT.of h2)).enum s1 fun J G W g1 g2 => for_it W (fun i σ H' => Same H H' ∧ ∃ ps s, PartsAt H' D ps ∧ s ≤ i ∧ ps.length ≤ i ∧ spl h (ls.take i) = ps ++ [cut ls s i] ∧ ∃ y z, σ = [some (.ref x), some (.ref D), some (.int (s : Nat)), y, z]) ⟨s1, [], 0, parts_nil upd_same, Nat.le_refl _, Nat.le_refl _, rfl, _, _, rfl⟩ (fun i σ H' _ h => g1 _ h.1) ?_ ?_⟩
  · rintro i x1 σ H1 H2 hi ⟨s2, ps, s, hp, hs, hpl, hsp, y, z, rfl⟩ ⟨t, x2, y2, rfl, ht, rfl, ex, ey⟩
    cases ex
    obtain ⟨l, el, rfl⟩ := map_get ey
    have hil : i < ls.length := (List.getElem?_eq_some_iff.mp el).1
    refine ⟨t, _, rfl, SqT.of upd_same, rfl, _, _, rfl, _, _, rfl, rfl, ?_⟩
    have s3 := s2.new (o := .tup [.int (i : Nat), .int l]) ht
    have hp3 := hp.same (same_new (o := .tup [.int (i : Nat), .int l]) ht)
    generalize upd H1 t (.tup [.int (i : Nat), .int l]) = H3 at s3 hp3 ⊢
    have et : ls.take (i + 1) = ls.take i ++ [l] := by rw [List.take_succ, el]; rfl
    refine ⟨_, rfl, _, rfl, x, ζ.Ladder, dx, _, _, rfl, s3 _ _ h1, T.cl_Ladder, T.na_Ladder_height, rfl, rfl, _, rfl, ?_⟩
    have em : decide (V.int l = V.int h) = decide (l = h) := by simp
    rw [em]
    refine ite2 (fun c => ?_) (fun c => ?_)
    · have c := of_decide_eq_true c
      subst c
      obtain ⟨xs0, hx0, _⟩ := hp3.len
      refine ⟨_, rfl, .inl ⟨rfl, _, SqL.of hx0⟩, _, rfl, x, ζ.Ladder, dx, _, _, rfl, s3 _ _ h1, T.cl_Ladder, T.na_Ladder_levels, rfl, _, rfl, _, rfl, _, rfl, _, rfl, ?_⟩
      refine sl_cut (s3 _ _ h2) hs (by omega) fun q H4 s4 hq => ?_
      obtain ⟨xs, hx1, hx2, hp5⟩ := (hp3.same s4).push hq
      refine ⟨D, _, _, rfl, rfl, hx1, (by rw [hx2, sizeLine_eq]; omega), ?_⟩
      refine ⟨_, rfl, _, _, rfl, rfl, fun b o e => ?_, ps ++ [cut ls s i], i + 1, hp5, Nat.le_refl _, by rw [List.length_append]; simp; omega, ?_, _, _, rfl⟩
      · rw [upd_ne (ne_of_none e hD)]; exact s4 _ _ (s3 _ _ e)
      · rw [et, spl_cat, hsp, cut_one]; rfl
    · have c : ¬ l = h := fun q => c (decide_eq_true q)
      refine ⟨s3, ps, s, hp3, by omega, by omega, ?_, _, _, rfl⟩
      rw [et, spl_snoc c _ _ _ hsp, cut_snoc hs el]
  · rintro σ' H' ⟨s2, ps, s, hp, hs, hpl, hsp, y, z, rfl⟩
    rw [List.length_map] at hs hpl hsp
    rw [List.take_length, cut_end] at hsp
    obtain ⟨xs0, hx0, _⟩ := hp.len
    refine ⟨_, rfl, .inl ⟨rfl, _, SqL.of hx0⟩, _, rfl, x, ζ.Ladder, dx, _, _, rfl, s2 _ _ h1, T.cl_Ladder, T.na_Ladder_levels, rfl, _, rfl, _, rfl, ?_⟩
    unfold tNoPart
    refine sl_tail (s2 _ _ h2) hs fun q H4 s4 hq => ?_
    obtain ⟨xs, hx1, hx2, hp5⟩ := (hp.same s4).push hq
    refine ⟨D, _, _, rfl, rfl, hx1, (by rw [hx2, sizeLine_eq]; omega), ?_⟩
    refine ⟨_, rfl, good _ D (fun b o e => ?_) hD (by rw [hsp]; exact hp5)⟩
    rw [upd_ne (ne_of_none e hD)]; exact s4 _ _ (s2 _ _ e)
end
end LR

set_option Elab.async false
set_option maxRecDepth 100000
set_option linter.all false
set_option maxHeartbeats 4000000
namespace LR
open PySem PySem.Spec PyProof.Rows L2
section
variable {P : Program} {w : World} {K : PySem.W.Frag} {mg : Str → Option Value} {base : Heap} {ζ : Cs}
def spGapS (K : PySem.W.Frag) : Sp := fun vs H Q _ => ∃ (a : Addr) (ls : List Int) (u v : Int), vs = [.ref a, .int u, .int v] ∧ Sq K H a (ls.map V.int) ∧ (0 ≤ u ∧ u ≤ ls.length) ∧ (0 ≤ v ∧ v ≤ ls.length) ∧ ls.length ≤ 1000 ∧ ∀ g, IsGap ls (min u.toNat v.toNat) (max u.toNat v.toNat) g → Q (.int g) H
theorem ok_gapS (T : Txt P K mg ζ) : Cal P w K mg base 1 "_law_gap" (spGapS K) := by
  refine T.d_gap.cal sc_gap (fun vs H Q E h => ?_) (fun f cdv A outer s H vs Q E hr h => ⟨_, pss_cons (ps_set (i := 3) sc_gap.nd rfl (Or.inl rfl) (pe_int))
 (pss_cons (ps_for PassesOwn.never rfl (pi_range2 rfl T.n_range (pa_cons (pe_callB (call_min2 rfl) (by rfl) T.n_min b_min (pa_cons (pv 1) (pa_cons (pv 2) (pa_nil)))) (pa_cons (pe_callB (call_max2 rfl) (by rfl) T.n_max b_max (pa_cons (pv 1) (pa_cons (pv 2) (pa_nil)))) (pa_nil)))) (pg_name (i := 4) sc_gap.nd rfl (Or.inl rfl))
 (pss_one (ps_set (i := 3) sc_gap.nd rfl (Or.inl rfl) (pe_callB (call_max2 rfl) (by rfl) T.n_max b_max (pa_cons (pv 3) (pa_cons (pe_ix ix_seq (pv 0) (pv 4) (fun _ _ => rfl)) (pa_nil)))))))
 (pss_one (ps_ret (pv 3)))), ?_⟩)
  · obtain ⟨a, ls, u, v, rfl, _⟩ := h; rfl
  obtain ⟨a, ls, u, v, rfl, hS, ⟨u0, u1⟩, ⟨v0, v1⟩, hl, kk⟩ := h
  have em : (if v < u then v else u) = ((min u.toNat v.toNat : Nat) : Int) := by split <;> omega
  have eM : (if v > u then v else u) = ((max u.toNat v.toNat : Nat) : Int) := by split <;> omega
  refine ⟨_, rfl, _, rfl, _, _, rfl, _, rfl, _, rfl, _, _, rfl, _, _, rfl, ⟨by rw [em]; omega, by rw [em]; omega, by rw [eM]; omega, by rw [eM]; omega⟩, ?_⟩
  rw [em, eM]
  generalize hlo : min u.toNat v.toNat = lo at kk ⊢
  generalize hhi : max u.toNat v.toNat = hi at kk ⊢
  have en : ((hi : Int) - (lo : Int)).toNat = hi - lo := by omega
  rw [en]
  refine for_range (lo := (lo : Int)) (n := hi - lo) (fun i σ H' => H' = H ∧ ∃ g z, σ = [some (.ref a), some (.int u), some (.int v), some (.int g), z] ∧ IsGap ls lo (lo + i) g) ⟨rfl, 0, _, rfl, Int.le_refl _, fun m z a b => by omega, .inl rfl⟩ ?_ ?_
  · rintro i σ H' hi2 ⟨rfl, g, z, rfl, g0, g1, g2⟩
    have hlt : lo + i < ls.length := by omega
    have hget := List.getElem?_eq_getElem hlt
    have e0 : (lo : Int) + (i : Int) = ((lo + i : Nat) : Int) := by omega
    rw [e0]
    refine ⟨_, rfl, _, rfl, _, rfl, at_seq hS (get_map hget) ⟨_, _, rfl, rfl, _, _, rfl, ?_⟩⟩
    refine ⟨?_, ?_, ?_⟩
    · split <;> omega
    · intro m z a b e
      by_cases q : m < lo + i
      · have := g1 m z a q e
        split <;> omega
      · have : m = lo + i := by omega
        subst this
        rw [hget] at e; cases e
        split <;> omega
    · by_cases q : ls[lo + i] > g
      · rw [if_pos q]
        exact .inr ⟨lo + i, by omega, by omega, hget⟩
      · rw [if_neg q]
        rcases g2 with e | ⟨m, a, b, e⟩
        · exact .inl e
        · exact .inr ⟨m, a, by omega, e⟩
  · rintro σ H' ⟨rfl, g, z, rfl, hg⟩
    have : lo + (hi - lo) = hi := by omega
    rw [this] at hg
    exact ⟨_, rfl, kk g hg⟩
end
end LR

set_option Elab.async false
set_option maxRecDepth 100000
set_option linter.all false
set_option maxHeartbeats 4000000
namespace LR
open PySem PySem.Spec PyProof.Rows L2
section
variable {P : Program} {w : World} {K : PySem.W.Frag} {mg : Str → Option Value} {base : Heap} {ζ : Cs}
def spParts (K : PySem.W.Frag) : Sp := fun vs H Q _ => ∃ (a : Addr) (ls : List Int) (h : Int), vs = [.ref a, .int h] ∧ H a = some (.lst (ls.map V.int)) ∧ ls.length ≤ 1000 ∧ ∀ H' D, Same H H' → H D = none → PartsAt H' D (spl h ls) → Q (.ref D) H'
theorem ok_parts (T : Txt P K mg ζ) : Cal P w K mg base 1 "_law_parts" (spParts K) := by
  refine T.d_parts.cal sc_parts (fun vs H Q E h => ?_) (fun f cdv A outer s H vs Q E hr h => ⟨_, pss_cons (ps_set (i := 2) sc_parts.nd rfl (Or.inl rfl) (pe_lst (pa_nil)))
 (pss_cons (ps_set (i := 3) sc_parts.nd rfl (Or.inl rfl) (pe_int))
 (pss_cons (ps_for PassesOwn.never rfl (pi_seq (pe_op op_cat (pe_lc (own := [("k", 5)]) (g := gName 5)  rfl sc_parts.nd (pi_range1 rfl T.n_range (pa_cons (pe_callB call_len_seq (by rfl) T.n_len b_len (pa_cons (pv 0) (pa_nil))) (pa_nil))) (blkOk_by (N := N_parts) (sc := defScope s_parts) (by decide +kernel)) (fun _ _ _ _ _ => pg_name (i := 5) sc_parts.nd rfl (Or.inl rfl)) (fun _ _ _ _ _ => pts_one (pt_cmpR op_eq (pe_ix (ix_listK (K := K) rfl) (pv 0) (pv 5) (fun _ _ => rfl)) (pv 1) (nomark _))) (fun _ _ _ _ _ => pv 5)) (pe_lst (pa_cons (pe_callB call_len_seq (by rfl) T.n_len b_len (pa_cons (pv 0) (pa_nil))) (pa_nil))))) (pg_name (i := 4) sc_parts.nd rfl (Or.inl rfl))
 (pss_cons (ps_expr (pe_bm PySem.F.plainAttrs_list PySem.F.slot_list_append PySem.F.type_list_append mt_append (pv 2) (pa_cons (pe_callTy call_tuple_of (by rfl) T.n_tuple b_tuple (pa_cons (pe_slice sl_list (pv 0) (po_some (pv 3)) (po_some (pv 4))) (pa_nil))) (pa_nil))))
 (pss_one (ps_set (i := 3) sc_parts.nd rfl (Or.inl rfl) (pe_op op_add (pv 4) (pe_int))))))
 (pss_one (ps_ret (pv 2))))), ?_⟩)
  · obtain ⟨a, ls, h, rfl, _⟩ := h; rfl
  obtain ⟨a, ls, h, rfl, ha, hl, good⟩ := h
  have ll : (ls.map V.int).length = ls.length := List.length_map ..
  refine ⟨(by show 0 ≤ sizeLine; decide), fun D hD => ?_⟩
  have s1 : Same H (upd H D (.lst [])) := same_new hD
  have hD1 : (upd H D (.lst [])) D = some (.lst []) := upd_same
  generalize upd H D (.lst []) = H1 at s1 hD1 ⊢
  refine ⟨_, rfl, a, _, rfl, .inl (SqL.of (s1 _ _ ha)), _, rfl, by omega, by omega, fun M hM => ?_⟩
  refine lc_range (lo := 0) (n := (ls.map V.int).length) (fun i H' => Same H1 H' ∧ H' M = some (.lst ((mks h ls i).map fun k : Nat => V.int k))) ⟨same_new hM, upd_same⟩ ?_ ?_
  · rintro i H2 hi ⟨s2, hm⟩
    have el : ls[i]? = some ls[i] := List.getElem?_eq_getElem (by omega)
    refine ⟨rfl, _, rfl, _, rfl, a, _, _, _, rfl, rfl, SqL.of (s2 _ _ (s1 _ _ ha)), (by rw [Int.zero_add]; exact atI_nat (get_map el)), _, rfl, rfl, _, rfl, ?_⟩
    have em : decide (V.int ls[i] = V.int h) = decide (ls[i]? = some h) := by rw [el]; simp
    rw [em]
    refine ite2 (fun c => ?_) (fun c => ?_)
    · have c := of_decide_eq_true c
      have lt : (mks h ls i).length ≤ i := by unfold mks; exact Nat.le_trans (List.length_filter_le _ _) (by rw [List.length_range]; exact Nat.le_refl _)
      refine ⟨_, rfl, _, hm, (by rw [List.length_map, sizeLine_eq]; omega), fun b o e => ?_, ?_⟩
      · rw [upd_ne (ne_of_none e hM)]; exact s2 _ _ e
      · rw [upd_same, mks_succ, if_pos c, List.map_append, Int.zero_add]; rfl
    · have c : ¬ ls[i]? = some h := fun q => c (decide_eq_true q)
      refine ⟨s2, ?_⟩
      rw [mks_succ, if_neg c, List.append_nil]; exact hm
  · rintro H2 ⟨s2, hm⟩
    rw [ll] at hm
    have s12 := s1.trans s2
    have lt : (mks h ls ls.length).length ≤ ls.length := by unfold mks; exact Nat.le_trans (List.length_filter_le _ _) (by rw [List.length_range]; exact Nat.le_refl _)
    refine ⟨_, rfl, a, _, rfl, .inl (SqL.of (s12 _ _ ha)), (by show 1 ≤ sizeLine; decide), fun e1 he1 => ?_⟩
    have s3 := s2.new (o := .lst [.int (ls.map V.int).length]) he1
    refine ⟨M, e1, _, _, rfl, rfl, (same_new he1) _ _ hm, upd_same, (by rw [List.length_map, sizeLine_eq]; show _ + 1 ≤ _; omega), fun g hg => ?_⟩
    have s4 := s3.new (o := .lst ((mks h ls ls.length).map (fun k : Nat => V.int k) ++ [.int (ls.map V.int).length])) hg
    have hgl : (upd (upd H2 e1 (.lst [.int (ls.map V.int).length])) g (.lst ((mks h ls ls.length).map (fun k : Nat => V.int k) ++ [.int (ls.map V.int).length]))) g = some (.lst ((mks h ls ls.length ++ [ls.length]).map fun k : Nat => V.int k)) := by
      rw [upd_same, List.map_append, ll]; rfl
    generalize upd (upd H2 e1 (.lst [.int (ls.map V.int).length])) g (.lst ((mks h ls ls.length).map (fun k : Nat => V.int k) ++ [.int (ls.map V.int).length])) = H4 at s4 hgl ⊢
    have gD : g ≠ D := (ne_of_none (((same_new he1) _ _ (s2 _ _ hD1))) hg).symm
    have hD4 : H4 D = some (.lst []) := s4 _ _ hD1
    have ml : ∀ m ∈ mks h ls ls.length, m < ls.length := fun m hm => mks_lt hm
    refine ⟨g, rfl, .inl ⟨⟨_, SqL.of hgl⟩, ?_⟩⟩
    refine for_it walk_list (fun j σ H' => Same H H' ∧ H' g = some (.lst ((mks h ls ls.length ++ [ls.length]).map fun k : Nat => V.int k)) ∧ ∃ ps s, PartsAt H' D ps ∧ ((mks h ls ls.length ++ [ls.length]).take j).foldl (stF ls) ([], 0) = (ps, s) ∧ ps.length = j ∧ ∃ z z2 : Option V, σ = [some (.ref a), some (.int h), some (.ref D), some (.int (s : Nat)), z, z2]) ⟨s1.trans s4, hgl, [], 0, parts_nil hD4, rfl, rfl, none, none, rfl⟩ (fun i σ H' _ h => SqL.of h.2.1) ?_ ?_
    · rintro j x1 σ H5 H6 hj ⟨s5, hg5, ps, s, hp, hf, hpl, z, z2, rfl⟩ ⟨rfl, hx⟩
      rw [List.length_map] at hj
      obtain ⟨m, em, rfl⟩ : ∃ m : Nat, (mks h ls ls.length ++ [ls.length])[j]? = some m ∧ x1 = .int m := by
        rw [List.getElem?_map] at hx
        cases e : (mks h ls ls.length ++ [ls.length])[j]? with
        | none => rw [e] at hx; cases hx
        | some m => rw [e] at hx; cases hx; exact ⟨m, rfl, rfl⟩
      have hm : m ≤ ls.length := by
        rcases List.mem_append.mp (List.mem_of_getElem? em) with q | q
        · exact Nat.le_of_lt (ml m q)
        · have : m = ls.length := by simpa using q
          omega
      have hs : s ≤ ls.length := by
        have := stF_le (ls := ls) (n := ls.length) ((mks h ls ls.length ++ [ls.length]).take j) ([], 0) (Nat.zero_le _) (fun m hm => by
          rw [List.take_append_of_le_length (by rw [List.length_append] at hj; simp at hj; omega)] at hm
          exact ml m (List.mem_of_mem_take hm))
        rw [hf] at this; exact this
      obtain ⟨xs0, hx0, _⟩ := hp.len
      have gD : D ≠ g := ne_of_none (s2 _ _ hD1) (by
        rcases q : H2 g with _ | o
        · rfl
        · have := (same_new (o := .lst [.int (ls.map V.int).length]) he1) _ _ q
          rw [hg] at this; cases this)
      refine ⟨_, rfl, .inl ⟨rfl, _, SqL.of hx0⟩, _, rfl, _, rfl, _, rfl, _, rfl, _, rfl, a, _, rfl, SqL.of (s5 _ _ ha), fun q hq => ?_⟩
      refine ⟨q, _, rfl, .inl ⟨SqL.of upd_same, fun t ht => ?_⟩⟩
      have e6 : cutV (ls.map V.int) (some (s : Int)) (some (m : Int)) = (cut ls s m).map V.int := cutV_nat hm hs
      rw [e6] at ht ⊢
      have s6 : Same H6 (upd (upd H6 q (.lst ((cut ls s m).map V.int))) t (.tup ((cut ls s m).map V.int))) := (same_new hq).new ht
      have ht6 : (upd (upd H6 q (.lst ((cut ls s m).map V.int))) t (.tup ((cut ls s m).map V.int))) t = some (.tup ((cut ls s m).map V.int)) := upd_same
      generalize upd (upd H6 q (.lst ((cut ls s m).map V.int))) t (.tup ((cut ls s m).map V.int)) = H7 at s6 ht6 ⊢
      obtain ⟨xs, hx1, hx2, hp7⟩ := (hp.same s6).push ht6
      refine ⟨D, _, _, rfl, rfl, hx1, (by rw [hx2, hpl, sizeLine_eq]; rw [List.length_append] at hj; simp at hj; have := List.length_filter_le (fun k => decide (ls[k]? = some h)) (List.range ls.length); rw [List.length_range] at this; unfold mks at hj; omega), ?_⟩
      refine ⟨_, rfl, _, _, rfl, rfl, fun b o e => ?_, ?_, ps ++ [cut ls s m], m + 1, hp7, ?_, by rw [List.length_append, hpl]; rfl, _, _, rfl⟩
      · rw [upd_ne (ne_of_none e hD)]; exact s6 _ _ (s5 _ _ e)
      · rw [upd_ne gD.symm]; exact s6 _ _ hg5
      · rw [List.take_succ, em, List.foldl_append, hf]; rfl
    · rintro σ H5 ⟨s5, hg5, ps, s, hp, hf, hpl, z, z2, rfl⟩
      rw [List.length_map, List.take_length] at hf
      have e : ps = spl h ls := by
        have := fold_all (h := h) (ls := ls)
        rw [hf] at this; exact this
      subst e
      exact ⟨_, rfl, good _ D s5 hD hp⟩
end
end LR

set_option Elab.async false
set_option maxRecDepth 100000
set_option linter.all false
set_option maxHeartbeats 4000000
namespace LR
open PySem PySem.Spec PyProof.Rows L2
section
variable {P : Program} {w : World} {K : PySem.W.Frag} {mg : Str → Option Value} {base : Heap} {ζ : Cs}
def spPartOf : Sp := fun vs H Q _ => ∃ (a : Addr) (h : Int) (ls : List Int) (s : Int), vs = [.ref a, .int s] ∧ PartsAt H a (spl h ls) ∧ ls.length ≤ 1000 ∧ (0 ≤ s ∧ s ≤ ls.length) ∧ ∀ H' b k j, Same H H' → H' b = some (.lst [.int (k : Nat), .int (j : Nat)]) → InPiece h ls s.toNat k j → Q (.ref b) H'
theorem ok_partof (T : Txt P K mg ζ) : Cal P w K mg base 1 "_law_part_of" spPartOf := by
  refine T.d_part_of.cal sc_part_of (fun vs H Q E h => ?_) (fun f cdv A outer s H vs Q E hr h => ⟨_, pss_cons (ps_for PassesOwn.never rfl (pi_range1 rfl T.n_range (pa_cons (pe_callB call_len_seq (by rfl) T.n_len b_len (pa_cons (pv 0) (pa_nil))) (pa_nil))) (pg_name (i := 2) sc_part_of.nd rfl (Or.inl rfl))
 (pss_cons (ps_if (pt_cmpR op_le (pv 1) (pe_callB call_len_seq (by rfl) T.n_len b_len (pa_cons (pe_ix ix_list (pv 0) (pv 2) (fun _ _ => rfl)) (pa_nil))) (nomark _))
 (pss_one (ps_ret (pe_lst (pa_cons (pv 2) (pa_cons (pv 1) (pa_nil))))))
 (pss_nil))
 (pss_one (ps_set (i := 1) sc_part_of.nd rfl (Or.inl rfl) (pe_op op_sub (pe_op op_sub (pv 1) (pe_callB call_len_seq (by rfl) T.n_len b_len (pa_cons (pe_ix ix_list (pv 0) (pv 2) (fun _ _ => rfl)) (pa_nil)))) (pe_int))))))
 (pss_one (ps_ret (pe_lst (pa_cons (pe_callB call_len_seq (by rfl) T.n_len b_len (pa_cons (pv 0) (pa_nil))) (pa_cons (pv 1) (pa_nil)))))), ?_⟩)
  · obtain ⟨a, h, ls, s, rfl, _⟩ := h; rfl
  obtain ⟨a, h, ls, s0, rfl, hp, hl, hs, good⟩ := h
  obtain ⟨xs, hx, hxl⟩ := hp.len
  have sl := spl_len h ls
  refine ⟨_, rfl, a, _, rfl, .inl (SqL.of hx), _, rfl, by omega, by omega, ?_⟩
  refine for_range (lo := 0) (n := xs.length) (fun i σ H' => H' = H ∧ ∃ (s : Nat) (z : Option V), σ = [some (.ref a), some (.int (s : Nat)), z] ∧ s0.toNat = off h (spl h ls) i + s) ⟨rfl, s0.toNat, none, (by rw [Int.toNat_of_nonneg hs.1]; rfl), by rw [off_zero, Nat.zero_add]⟩ ?_ ?_
  · rintro i σ H' hi ⟨rfl, s, z, rfl, es⟩
    have e0 : (0 : Int) + (i : Int) = ((i : Nat) : Int) := by omega
    rw [e0]
    obtain ⟨p, ep⟩ : ∃ p, (spl h ls)[i]? = some p := ⟨_, List.getElem?_eq_getElem (by omega)⟩
    obtain ⟨t, xs', hx', _, et, ht⟩ := hp.get ep
    rw [hx] at hx'; cases hx'
    refine ⟨_, rfl, _, rfl, _, rfl, a, _, _, _, rfl, rfl, SqL.of hx, atI_nat et, t, _, rfl, .inr (SqT.of ht), _, _, rfl, rfl, _, rfl, ?_⟩
    refine ite2 (fun c => ?_) (fun c => ?_)
    · have c := of_decide_eq_true c
      rw [List.length_map] at c
      exact ⟨_, rfl, _, rfl, (by show 2 ≤ sizeLine; decide), fun b hb => good _ b i s (same_new hb) upd_same ⟨p, ep, by omega, es⟩⟩
    · have c : ¬ (s : Int) ≤ ((p.map V.int).length : Int) := fun q => c (decide_eq_true q)
      rw [List.length_map] at c
      refine ⟨_, rfl, _, rfl, _, rfl, a, _, _, _, rfl, rfl, SqL.of hx, atI_nat et, t, _, rfl, .inr (SqT.of ht), _, _, rfl, rfl, _, _, rfl, rfl, ?_⟩
      refine ⟨rfl, s - p.length - 1, some (.int (i : Nat)), ?_, by rw [off_succ ep]; omega⟩
      have e1 : ((s : Nat) : Int) - ((p.map V.int).length : Int) - 1 = ((s - p.length - 1 : Nat) : Int) := by rw [List.length_map]; omega
      show [some (.ref a), some (V.int (((s : Nat) : Int) - ((p.map V.int).length : Int) - 1)), some (.int (i : Nat))] = _
      rw [e1]
  · rintro σ H' ⟨rfl, s, z, rfl, es⟩
    rw [hxl, off_all] at es
    omega
end
end LR

set_option Elab.async false
set_option maxRecDepth 100000
set_option linter.all false
set_option maxHeartbeats 4000000
namespace LR
open PySem PySem.Spec PyProof.Rows L2
section
variable {P : Program} {w : World} {K : PySem.W.Frag} {mg : Str → Option Value} {base : Heap} {ζ : Cs}
def spPGood (C : Addr) : Sp := fun vs H Q _ => ∃ (p x a : Addr) (h : Int) (ls : List Int), vs = [.ref p, .ref x, .ref a, .int h] ∧ IsPool H p ∧ LadderAt C H x h ls ∧ H a = some (.lst (ls.map V.int)) ∧ a ≠ p ∧ (h = 1 ∨ h = 2 ∨ h = 3) ∧ ls.length ≤ 24 ∧ (∀ l ∈ ls, 1 ≤ l ∧ l ≤ h) ∧ ∀ H', Keep p H H' → IsPool H' p → Q (.bl true) H'
theorem ok_pgood (T : Txt P K mg ζ) : Cal P w K mg base 6 "_law_pieces_good" (spPGood ζ.Ladder) := by
  have c_draw : Cal P w K mg base 1 "_law_draw" spDraw := ok_draw T
  have c_parts : Cal P w K mg base 1 "_law_parts" (spParts K) := ok_parts T
  have c_part_of : Cal P w K mg base 1 "_law_part_of" spPartOf := ok_partof T
  have c_L_pieces : Met P w K mg base 1 ζ.Ladder "pieces" (spPieces ζ.Ladder) := ok_pieces T
  have c_L_gap : Met P w K mg base 2 ζ.Ladder "gap" (spGapP ζ.Ladder) := ok_gapP T
  have c_gap : Cal P w K mg base 1 "_law_gap" (spGapS K) := ok_gapS T
  have c_same : Cal P w K mg base 5 "_law_same" (spSame 3) := ok_same T 3
  have c_Ladder : Mak P w K mg base 2 "Ladder" ζ.Ladder (spInitS ζ.Ladder) := ok_initS T
  refine T.d_pieces_good.cal sc_pieces_good (fun vs H Q E h => ?_) (fun f cdv A outer s H vs Q E hr h => ⟨_, pss_cons (ps_set (i := 4) sc_pieces_good.nd rfl (Or.inl rfl) (pe_c c_parts hr (by first | decide | omega) (by rfl) (pa_cons (pv 2) (pa_cons (pv 3) (pa_nil)))))
 (pss_cons (ps_set (i := 5) sc_pieces_good.nd rfl (Or.inl rfl) (pe_mt0 c_L_pieces hr (by first | decide | omega) (pv 1)))
 (pss_cons (ps_if (pt_not (pt_val (pe_c c_same hr (by first | decide | omega) (by rfl) (pa_cons (pv 5) (pa_cons (pv 4) (pa_nil))))))
 (pss_one (ps_ret (pe_bl)))
 (pss_nil))
 (pss_cons (ps_asg (pe_tup (pa_cons (pv 3) (pa_nil))) (pg_sub (pv 5) (pe_int) set_list))
 (pss_cons (ps_expr (pe_bm PySem.F.plainAttrs_list PySem.F.slot_list_append PySem.F.type_list_append mt_append (pv 5) (pa_cons (pe_tup (pa_nil)) (pa_nil))))
 (pss_cons (ps_if (pt_not (pt_val (pe_c c_same hr (by first | decide | omega) (by rfl) (pa_cons (pe_mt0 c_L_pieces hr (by first | decide | omega) (pv 1)) (pa_cons (pv 4) (pa_nil))))))
 (pss_one (ps_ret (pe_bl)))
 (pss_nil))
 (pss_cons (ps_for PassesOwn.never rfl (pi_range1 rfl T.n_range (pa_cons (pe_int) (pa_nil))) (pg_name (i := 6) sc_pieces_good.nd rfl (Or.inl rfl))
 (pss_cons (ps_set (i := 7) sc_pieces_good.nd rfl (Or.inl rfl) (pe_c c_draw hr (by first | decide | omega) (by rfl) (pa_cons (pv 0) (pa_cons (pe_op op_add (pe_callB call_len_seq (by rfl) T.n_len b_len (pa_cons (pv 2) (pa_nil))) (pe_int)) (pa_nil)))))
 (pss_cons (ps_set (i := 8) sc_pieces_good.nd rfl (Or.inl rfl) (pe_c c_draw hr (by first | decide | omega) (by rfl) (pa_cons (pv 0) (pa_cons (pe_op op_add (pe_callB call_len_seq (by rfl) T.n_len b_len (pa_cons (pv 2) (pa_nil))) (pe_int)) (pa_nil)))))
 (pss_cons (ps_set (i := 9) sc_pieces_good.nd rfl (Or.inl rfl) (pe_c c_part_of hr (by first | decide | omega) (by rfl) (pa_cons (pv 4) (pa_cons (pv 7) (pa_nil)))))
 (pss_cons (ps_set (i := 10) sc_pieces_good.nd rfl (Or.inl rfl) (pe_c c_part_of hr (by first | decide | omega) (by rfl) (pa_cons (pv 4) (pa_cons (pv 8) (pa_nil)))))
 (pss_cons (ps_set (i := 11) sc_pieces_good.nd rfl (Or.inl rfl) (pv 3))
 (pss_cut (ps_if (pt_cmpR op_eq (pe_ix ix_list (pv 9) (pe_int) (fun _ _ => rfl)) (pe_ix ix_list (pv 10) (pe_int) (fun _ _ => rfl)) (nomark _))
 (pss_cons (ps_set (i := 11) sc_pieces_good.nd rfl (Or.inl rfl) (pe_c c_gap hr (by first | decide | omega) (by rfl) (pa_cons (pe_ix ix_list (pv 4) (pe_ix ix_list (pv 9) (pe_int) (fun _ _ => rfl)) (fun _ _ => rfl)) (pa_cons (pe_ix ix_list (pv 9) (pe_int) (fun _ _ => rfl)) (pa_cons (pe_ix ix_list (pv 10) (pe_int) (fun _ _ => rfl)) (pa_nil))))))
 (pss_one (ps_if (pt_cmpR op_gt (pv 3) (pe_int) (nomark _))
 (pss_cons (ps_set (i := 12) sc_pieces_good.nd rfl (Or.inl rfl) (pe_mk c_Ladder hr (by first | decide | omega) (by rfl) (pa_cons (pe_op op_sub (pv 3) (pe_int)) (pa_cons (pe_ix ix_list (pv 4) (pe_ix ix_list (pv 9) (pe_int) (fun _ _ => rfl)) (fun _ _ => rfl)) (pa_nil)))))
 (pss_one (ps_if (pt_not (pt_val (pe_c c_same hr (by first | decide | omega) (by rfl) (pa_cons (pe_mt c_L_gap hr (by first | decide | omega) (pv 12) (pa_cons (pe_ix ix_list (pv 9) (pe_int) (fun _ _ => rfl)) (pa_cons (pe_ix ix_list (pv 10) (pe_int) (fun _ _ => rfl)) (pa_nil)))) (pa_cons (pv 11) (pa_nil))))))
 (pss_one (ps_ret (pe_bl)))
 (pss_nil))))
 (pss_nil))))
 (pss_nil))
 (pss_one (ps_if (pt_not (pt_val (pe_c c_same hr (by first | decide | omega) (by rfl) (pa_cons (pe_mt c_L_gap hr (by first | decide | omega) (pv 1) (pa_cons (pv 7) (pa_cons (pv 8) (pa_nil)))) (pa_cons (pv 11) (pa_nil))))))
 (pss_one (ps_ret (pe_bl)))
 (pss_nil))))))))))
 (pss_one (ps_ret (pe_bl))))))))), ?_⟩)
  · obtain ⟨p, x, a, h, ls, rfl, _⟩ := h; rfl
  obtain ⟨p, x, a, h, ls, rfl, hp, LA, ha, nap, hh, hl, hb, kk⟩ := h
  obtain ⟨dx, tl, tc, hx, _⟩ := id LA
  have sl := spl_len h ls
  have bnd : ∀ q ∈ spl h ls, q.length ≤ 100000 := fun q hq => by have := spl_plen hq; omega
  have dz : dep (.lst ((spl h ls).map tupD)) < 3 := by have := deps_parts (spl h ls); rw [dep]; omega
  refine ⟨_, rfl, _, rfl, a, ls, h, rfl, ha, by omega, fun H1 P s1 hP hP1 => ?_⟩
  have nPp : P ≠ p := hp.free hP
  refine ⟨_, rfl, x, dx, _, rfl, s1 _ _ hx, rfl, x, h, ls, rfl, LA.same s1, by omega, fun H2 D2 s2 hD2 hf2 => ?_⟩
  refine ⟨_, rfl, _, rfl, _, _, _, _, rfl, hf2.at (by omega) bnd, (hP1.same s2).at (by omega) bnd, dz, fun b hb2 => ⟨_, rfl, ?_⟩⟩
  rw [hb2.mpr rfl]
  refine iteF ?_
  obtain ⟨xs2, hx2, hl2⟩ := hf2.len
  obtain ⟨q0, T0, eq0⟩ := spl_ne h ls
  have hpos : 0 < xs2.length := by rw [hl2, eq0]; exact Nat.succ_pos _
  refine ⟨_, rfl, (by show 1 ≤ sizeLine; decide), fun t ht => ⟨_, rfl, D2, xs2, 0, 0, rfl, rfl, (same_new ht) _ _ hx2, by unfold ixN; rw [if_pos (by decide), if_pos (by omega)]; rfl, ?_⟩⟩
  have n2t : D2 ≠ t := ne_of_none hx2 ht
  have s13 : Same H1 (upd (upd H2 t (.tup [.int h])) D2 (.lst (xs2.set 0 (.ref t)))) := fun b o e => by
    rw [upd_ne (ne_of_none e hD2)]; exact (same_new ht) _ _ (s2 _ _ e)
  have hx3 : (upd (upd H2 t (.tup [.int h])) D2 (.lst (xs2.set 0 (.ref t)))) D2 = some (.lst (xs2.set 0 (.ref t))) := upd_same
  generalize upd (upd H2 t (.tup [.int h])) D2 (.lst (xs2.set 0 (.ref t))) = H3 at s13 hx3 ⊢
  refine ⟨_, rfl, .inl ⟨rfl, _, SqL.of hx3⟩, (by show 0 ≤ sizeLine; decide), fun t2 ht2 => ⟨D2, _, _, rfl, rfl, (same_new ht2) _ _ hx3, (by rw [List.length_set, hl2, sizeLine_eq]; omega), ?_⟩⟩
  have s14 : Same H1 (upd (upd H3 t2 (.tup [])) D2 (.lst (xs2.set 0 (.ref t) ++ [.ref t2]))) := fun b o e => by
    rw [upd_ne (ne_of_none e hD2)]; exact (same_new ht2) _ _ (s13 _ _ e)
  generalize upd (upd H3 t2 (.tup [])) D2 (.lst (xs2.set 0 (.ref t) ++ [.ref t2])) = H4 at s14 ⊢
  refine ⟨_, rfl, x, dx, _, rfl, s14 _ _ (s1 _ _ hx), rfl, x, h, ls, rfl, (LA.same s1).same s14, by omega, fun H5 D5 s5 hD5 hf5 => ?_⟩
  refine ⟨_, rfl, _, _, _, _, rfl, hf5.at (by omega) bnd, ((hP1.same s14).same s5).at (by omega) bnd, dz, fun b hb5 => ⟨_, rfl, ?_⟩⟩
  rw [hb5.mpr rfl]
  refine iteF ?_
  have s05 : Same H H5 := s1.trans (s14.trans s5)
  have hP5 : PartsAt H5 P (spl h ls) := (hP1.same s14).same s5
  refine ⟨_, rfl, by decide, by decide, ?_⟩
  refine for_range (lo := 0) (n := 4) (fun i σ H' => Keep p H5 H' ∧ IsPool H' p ∧ ∃ z6 z7 z8 z9 z10 z11 z12 : Option V, σ = [some (.ref p), some (.ref x), some (.ref a), some (.int h), some (.ref P), some (.ref D2), z6, z7, z8, z9, z10, z11, z12]) ⟨Keep.refl, hp.same s05, none, none, none, none, none, none, none, rfl⟩ ?_ ?_
  · rintro i σ H6 hi ⟨k6, p6, z6, z7, z8, z9, z10, z11, z12, rfl⟩
    have h5a := s05 _ _ ha
    have pl5 : ∃ l, H5 p = some (.lst l) := (hp.same s05).some
    refine ⟨_, rfl, _, rfl, a, _, rfl, .inl (SqL.of (k6 _ nap _ h5a)), _, _, rfl, rfl, p, _, rfl, p6, by rw [List.length_map]; omega, by rw [List.length_map]; omega, fun one H7 o0 o1 k7 p7 => ?_⟩
    rw [List.length_map] at o1
    refine ⟨_, rfl, _, rfl, a, _, rfl, .inl (SqL.of ((k6.trans k7) _ nap _ h5a)), _, _, rfl, rfl, p, _, rfl, p7, by rw [List.length_map]; omega, by rw [List.length_map]; omega, fun oth H8 q0 q1 k8 p8 => ?_⟩
    rw [List.length_map] at q1
    have k58 := (k6.trans k7).trans k8
    have hP8 := hP5.keep k58 pl5 nPp
    have LA8 := (LA.same s05).keep k58 pl5
    have ha8 := k58 _ nap _ h5a
    refine ⟨_, rfl, _, rfl, P, h, ls, one, rfl, hP8, by omega, ⟨by omega, by omega⟩, fun H9 bh k j s9 hbh inA => ?_⟩
    refine ⟨_, rfl, _, rfl, P, h, ls, oth, rfl, hP8.same s9, by omega, ⟨by omega, by omega⟩, fun H10 bt k' j' s10 hbt inB => ?_⟩
    have s8' := s9.trans s10
    have hbh' := s10 _ _ hbh
    have hP10 := hP8.same s8'
    obtain ⟨pa, ea, ja, oa⟩ := id inA
    obtain ⟨pb, eb, jb, ob⟩ := id inB
    have hb1 : ∀ l ∈ ls, 1 ≤ l := fun l q => (hb l q).1
    refine ⟨_, rfl, ⟨fun σ' H' => Same H10 H' ∧ ∃ z, σ' = [some (.ref p), some (.ref x), some (.ref a), some (.int h), some (.ref P), some (.ref D2), some (.int (0 + (i : Int))), some (.int one), some (.int oth), some (.ref bh), some (.ref bt), some (.int (gapI ls one oth)), z], ?_, ?_⟩⟩
    · refine ⟨_, rfl, _, _, _, _, rfl, rfl, SqL.of hbh', rfl, _, rfl, _, _, _, _, rfl, rfl, SqL.of hbt, rfl, rfl, _, rfl, ?_⟩
      have em : decide (V.int (k : Int) = V.int (k' : Int)) = decide (k = k') := by rw [Bool.eq_iff_iff, decide_eq_true_eq, decide_eq_true_eq, V.int.injEq]; omega
      rw [em]
      refine ite2 (fun c => ?_) (fun c => ?_)
      · have c := of_decide_eq_true c
        subst c
        rw [ea] at eb; cases eb
        obtain ⟨t, xs, hPx, hxl, et, htp⟩ := hP10.get ea
        refine ⟨_, rfl, _, rfl, _, _, _, _, rfl, rfl, SqL.of hbh', rfl, P, xs, _, _, rfl, rfl, SqL.of hPx, atI_nat et, _, rfl, _, _, _, _, rfl, rfl, SqL.of hbh', rfl, _, rfl, _, _, _, _, rfl, rfl, SqL.of hbt, rfl, t, pa, j, j', rfl, .inr (SqT.of htp), ⟨by omega, by omega⟩, ⟨by omega, by omega⟩, by have := spl_plen (List.mem_of_getElem? ea); omega, fun g hg => ?_⟩
        rw [Int.toNat_natCast, Int.toNat_natCast] at hg
        have eg : gapI ls one oth = g := gapI_of hb1 o0 q0 (by rw [oa, ob]; exact gap_same ea ja jb hg)
        rw [eg]
        refine ⟨_, rfl, _, _, rfl, rfl, _, rfl, ?_⟩
        refine ite2 (fun c1 => ?_) (fun _ => ⟨Same.refl _, z12, rfl⟩)
        have c1 := of_decide_eq_true c1
        refine ⟨_, rfl, _, _, rfl, rfl, _, rfl, _, rfl, _, _, _, _, rfl, rfl, SqL.of hbh', rfl, P, xs, _, _, rfl, rfl, SqL.of hPx, atI_nat et, fun z dz hz hdz nz => ?_⟩
        have s6 : Same H10 (upd (upd H10 dz (.own z)) z (.ins ζ.Ladder dz [])) := (same_new hdz).new (by rw [upd_ne nz.symm]; exact hz)
        have pm : ∀ l ∈ pa, 1 ≤ l ∧ l ≤ h - 1 := fun l q => by
          obtain ⟨r1, r2⟩ := spl_no h ls pa (List.mem_of_getElem? ea) l q
          have := hb l r1; omega
        refine ⟨z, t, dz, h - 1, pa, rfl, upd_same, .inr (s6 _ _ htp), by omega, by have := spl_plen (List.mem_of_getElem? ea); omega, pm, fun H11 k11 LA' => ⟨rfl, ?_⟩⟩
        have s11 : Same H10 H11 := fun b o e => k11 b (ne_of_none e hz) o (s6 b o e)
        obtain ⟨dz', _, _, hz11, _⟩ := id LA'
        refine ⟨_, rfl, z, dz', _, rfl, hz11, rfl, _, rfl, _, _, _, _, rfl, rfl, SqL.of (s11 _ _ hbh'), rfl, _, rfl, _, _, _, _, rfl, rfl, SqL.of (s11 _ _ hbt), rfl, z, h - 1, pa, j, j', rfl, LA', by have := spl_plen (List.mem_of_getElem? ea); omega, ⟨by omega, by omega⟩, ⟨by omega, by omega⟩, fun H12 s12 => ?_⟩
        have eg2 : gapI pa j j' = g := gapI_of (fun l q => (pm l q).1) (by omega) (by omega) (by rw [Int.toNat_natCast, Int.toNat_natCast]; exact hg)
        rw [eg2]
        refine ⟨_, rfl, _, _, _, _, rfl, .int _, .int _, Nat.succ_pos _, fun b hb => ⟨_, rfl, ?_⟩⟩
        rw [hb.mpr rfl]
        exact iteF ⟨s11.trans s12, _, rfl⟩
      · have c : k ≠ k' := fun q => c (decide_eq_true q)
        have eg : gapI ls one oth = h := gapI_of hb1 o0 q0 (gap_other (by omega) (fun l q => (hb l q).2) inA inB c)
        rw [eg]
        exact ⟨Same.refl _, z12, rfl⟩
    · rintro σ' H11 ⟨s11, z, rfl⟩
      have s8'' := s8'.trans s11
      refine ⟨_, rfl, x, dx, _, rfl, s8'' _ _ (k58 _ (ne_of hx hp.some.choose_spec (by intro z; cases z)) _ (s05 _ _ hx)), rfl, _, rfl, _, rfl, x, h, ls, one, oth, rfl, LA8.same s8'', by omega, ⟨by omega, by omega⟩, ⟨by omega, by omega⟩, fun H12 s12 => ?_⟩
      refine ⟨_, rfl, _, _, _, _, rfl, .int _, .int _, Nat.succ_pos _, fun b hb => ⟨_, rfl, ?_⟩⟩
      rw [hb.mpr rfl]
      have sf : Same H8 H12 := s8''.trans s12
      exact iteF ⟨fun b n o e => sf _ _ (k58 b n o e), p8.same sf, _, _, _, _, _, _, _, rfl⟩
  · rintro σ H6 ⟨k6, p6, _⟩
    exact kk _ (fun b n o e => k6 b n o (s05 _ _ e)) p6
end
end LR

set_option Elab.async false
set_option maxRecDepth 100000
set_option linter.all false
set_option maxHeartbeats 4000000
namespace LR
open PySem PySem.Spec PyProof.Rows L2
section
variable {P : Program} {w : World} {K : PySem.W.Frag} {mg : Str → Option Value} {base : Heap} {ζ : Cs}
def spFlips (C : Addr) : Sp := fun vs H Q _ => ∃ (p x a : Addr) (h : Int) (ls : List Int), vs = [.ref p, .ref x, .ref a, .int h] ∧ IsPool H p ∧ LadderAt C H x h ls ∧ H a = some (.lst (ls.map V.int)) ∧ a ≠ p ∧ (h = 1 ∨ h = 2 ∨ h = 3) ∧ ls.length ≤ 24 ∧ (∀ l ∈ ls, 1 ≤ l ∧ l ≤ h) ∧ ∀ H', Keep p H H' → IsPool H' p → Q (.bl true) H'
theorem ok_flips (T : Txt P K mg ζ) : Cal P w K mg base 5 "_law_flips" (spFlips ζ.Ladder) := by
  have c_draw : Cal P w K mg base 1 "_law_draw" spDraw := ok_draw T
  have c_L_flipped : Met P w K mg base 4 ζ.Ladder "flipped" (spFlip ζ.Ladder) := ok_flip T
  have c_L_gap : Met P w K mg base 2 ζ.Ladder "gap" (spGapP ζ.Ladder) := ok_gapP T
  have c_L_high : Met P w K mg base 2 ζ.Ladder "high" (spHigh ζ.Ladder) := ok_high T
  have c_L_eq : Met P w K mg base 2 ζ.Ladder "__eq__" (spEq ζ.Ladder) := ok_eq T
  have c_gap : Cal P w K mg base 1 "_law_gap" (spGapS K) := ok_gapS T
  have c_same : Cal P w K mg base 4 "_law_same" (spSame 2) := ok_same T 2
  refine T.d_flips.cal sc_flips (fun vs H Q E h => ?_) (fun f cdv A outer s H vs Q E hr h => ⟨_, pss_cons (ps_set (i := 4) sc_flips.nd rfl (Or.inl rfl) (pe_mt0 c_L_flipped hr (by first | decide | omega) (pv 1)))
 (pss_cons (ps_if (PW.pt (pw_or (pt_not (pt_val (pe_callB call_isi (by rfl) T.n_isinstance b_isinstance (pa_cons (pv 4) (pa_cons (pe_glob (v := .ref ζ.Ladder) (by rfl) T.mg_Ladder rfl) (pa_nil)))))) (pw_or1 (pt_not (pt_val (pe_c c_same hr (by first | decide | omega) (by rfl) (pa_cons (pe_fld (pv 4) rfl) (pa_cons (pv 3) (pa_nil)))))))))
 (pss_one (ps_ret (pe_bl)))
 (pss_nil))
 (pss_cons (ps_if (PW.pt (pw_or (pt_not (pt_val (pe_c c_same hr (by first | decide | omega) (by rfl) (pa_cons (pe_fld (pv 4) rfl) (pa_cons (pe_callTy call_tuple_of (by rfl) T.n_tuple b_tuple (pa_cons (pe_revL (pv 2)) (pa_nil))) (pa_nil)))))) (pw_or1 (pt_not (pt_val (pe_c c_same hr (by first | decide | omega) (by rfl) (pa_cons (pe_fld (pv 4) rfl) (pa_cons (pe_callB call_len_seq (by rfl) T.n_len b_len (pa_cons (pv 2) (pa_nil))) (pa_nil)))))))))
 (pss_one (ps_ret (pe_bl)))
 (pss_nil))
 (pss_cons (ps_set (i := 5) sc_flips.nd rfl (Or.inl rfl) (pe_mt0 c_L_flipped hr (by first | decide | omega) (pv 4)))
 (pss_cons (ps_if (PW.pt (pw_or (pt_not (pt_cmpR (op_eqO c_L_eq hr (by first | decide | omega)) (pv 5) (pv 1) (nomark _))) (pw_or1 (pt_not (pt_val (pe_c c_same hr (by first | decide | omega) (by rfl) (pa_cons (pe_fld (pv 5) rfl) (pa_cons (pe_callTy call_tuple_of (by rfl) T.n_tuple b_tuple (pa_cons (pv 2) (pa_nil))) (pa_nil)))))))))
 (pss_one (ps_ret (pe_bl)))
 (pss_nil))
 (pss_cons (ps_set (i := 6) sc_flips.nd rfl (Or.inl rfl) (pe_callB call_len_seq (by rfl) T.n_len b_len (pa_cons (pv 2) (pa_nil))))
 (pss_cons (ps_for PassesOwn.never rfl (pi_range1 rfl T.n_range (pa_cons (pe_int) (pa_nil))) (pg_name (i := 7) sc_flips.nd rfl (Or.inl rfl))
 (pss_cons (ps_set (i := 8) sc_flips.nd rfl (Or.inl rfl) (pe_c c_draw hr (by first | decide | omega) (by rfl) (pa_cons (pv 0) (pa_cons (pe_op op_add (pv 6) (pe_int)) (pa_nil)))))
 (pss_cons (ps_set (i := 9) sc_flips.nd rfl (Or.inl rfl) (pe_c c_draw hr (by first | decide | omega) (by rfl) (pa_cons (pv 0) (pa_cons (pe_op op_add (pv 6) (pe_int)) (pa_nil)))))
 (pss_cons (ps_set (i := 10) sc_flips.nd rfl (Or.inr rfl) (pe_op op_add (pe_int) (pe_c c_draw hr (by first | decide | omega) (by rfl) (pa_cons (pv 0) (pa_cons (pe_op op_add (pv 3) (pe_int)) (pa_nil))))))
 (pss_cons (ps_set (i := 11) sc_flips.nd rfl (Or.inl rfl) (pe_c c_gap hr (by first | decide | omega) (by rfl) (pa_cons (pv 2) (pa_cons (pv 8) (pa_cons (pv 9) (pa_nil))))))
 (pss_cons (ps_if (PW.pt (pw_or (pt_not (pt_val (pe_c c_same hr (by first | decide | omega) (by rfl) (pa_cons (pe_mt c_L_gap hr (by first | decide | omega) (pv 1) (pa_cons (pv 8) (pa_cons (pv 9) (pa_nil)))) (pa_cons (pv 11) (pa_nil)))))) (pw_or1 (pt_not (pt_val (pe_c c_same hr (by first | decide | omega) (by rfl) (pa_cons (pe_mt c_L_gap hr (by first | decide | omega) (pv 4) (pa_cons (pe_op op_sub (pv 6) (pv 8)) (pa_cons (pe_op op_sub (pv 6) (pv 9)) (pa_nil)))) (pa_cons (pv 11) (pa_nil)))))))))
 (pss_one (ps_ret (pe_bl)))
 (pss_nil))
 (pss_cons (ps_set (i := 12) sc_flips.nd rfl (Or.inl rfl) (pe_callB call_len_seq (by rfl) T.n_len b_len (pa_cons (pe_lc (own := [("passed", 13)]) (g := gName 13)  rfl sc_flips.nd (pi_list (pe_slice sl_list (pv 2) (po_some (pv 8)) (po_none))) (blkOk_by (N := N_flips) (sc := defScope s_flips) (by decide +kernel)) (fun _ _ _ _ _ => pg_name (i := 13) sc_flips.nd rfl (Or.inl rfl)) (fun _ _ _ _ _ => pts_one (pt_cmpR op_ge (pv 13) (pv 10) (nomark _))) (fun _ _ _ _ _ => pv 13)) (pa_nil))))
 (pss_one (ps_if (pt_not (pt_val (pe_c c_same hr (by first | decide | omega) (by rfl) (pa_cons (pe_mt c_L_high hr (by first | decide | omega) (pv 4) (pa_cons (pv 10) (pa_cons (pe_op op_sub (pv 6) (pv 8)) (pa_nil)))) (pa_cons (pv 12) (pa_nil))))))
 (pss_one (ps_ret (pe_bl)))
 (pss_nil))))))))))
 (pss_one (ps_ret (pe_bl))))))))), ?_⟩)
  · obtain ⟨p, x, a, h, ls, rfl, _⟩ := h; rfl
  obtain ⟨p, x, a, h, ls, rfl, hp, LA, ha, nap, hh, hl, hb, kk⟩ := h
  obtain ⟨dx, tl, tc, hx, hx2, _⟩ := id LA
  have ll : (ls.map V.int).length = ls.length := List.length_map ..
  refine ⟨_, rfl, x, dx, _, rfl, hx, rfl, x, h, ls, rfl, LA, hh, hl, hb, fun H1 t s1 _ LT => ?_⟩
  obtain ⟨dt, tt, tc', ht1, ht2, _⟩ := id LT
  refine ⟨_, rfl, _, _, _, _, true, rfl, .own _, .base (.ins ht1 T.cl_Ladder T.ai_Ladder T.objc.gt T.objc.tk T.mo_Ladder), T.kit_Ladder_Ladder, ⟨_, rfl, iteF ?_⟩⟩
  refine ⟨_, rfl, t, ζ.Ladder, dt, _, _, rfl, ht1, T.cl_Ladder, T.na_Ladder_height, rfl, _, rfl, _, _, _, _, rfl, .int _, .int _, Nat.succ_pos _, fun b hb0 => ⟨_, rfl, ?_⟩⟩
  rw [hb0.mpr rfl]
  refine iteF ?_
  refine ⟨_, rfl, t, ζ.Ladder, dt, _, _, rfl, ht1, T.cl_Ladder, T.na_Ladder_levels, rfl, _, rfl, a, _, rfl, SqL.of (s1 _ _ ha), fun r hr1 => ?_⟩
  refine ⟨r, _, rfl, .inl ⟨SqL.of upd_same, fun u hu => ?_⟩⟩
  rw [← List.map_reverse] at hu ⊢
  have s2 : Same H1 (upd (upd H1 r (.lst (ls.reverse.map V.int))) u (.tup (ls.reverse.map V.int))) := (same_new hr1).new hu
  have hu2 : (upd (upd H1 r (.lst (ls.reverse.map V.int))) u (.tup (ls.reverse.map V.int))) u = some (.tup (ls.reverse.map V.int)) := upd_same
  generalize upd (upd H1 r (.lst (ls.reverse.map V.int))) u (.tup (ls.reverse.map V.int)) = H2 at s2 hu2 ⊢
  have l1 : (ls.reverse.map V.int).length ≤ 100000 := by rw [List.length_map, List.length_reverse]; omega
  refine ⟨_, _, _, _, rfl, .tup (s2 _ _ ht2) (ats_ints _ _) l1, .tup hu2 (ats_ints _ _) l1, (by rw [dep, deps_ints]; decide), fun b hb0 => ⟨_, rfl, ?_⟩⟩
  rw [hb0.mpr rfl]
  refine iteF ?_
  refine ⟨_, rfl, t, ζ.Ladder, dt, _, _, rfl, s2 _ _ ht1, T.cl_Ladder, T.na_Ladder_top, rfl, _, rfl, a, _, rfl, .inl (SqL.of (s2 _ _ (s1 _ _ ha))), _, _, _, _, rfl, .int _, .int _, Nat.succ_pos _, fun b hb0 => ⟨_, rfl, ?_⟩⟩
  rw [hb0.mpr (by rw [ll, List.length_reverse])]
  refine iteF ?_
  have s12 := s1.trans s2
  refine ⟨_, rfl, t, dt, _, rfl, s2 _ _ ht1, rfl, t, h, ls.reverse, rfl, LT.same s2, hh, by rw [List.length_reverse]; exact hl, fun l q => hb l (List.mem_reverse.mp q), fun H3 bk s3 _ LB => ?_⟩
  rw [List.reverse_reverse] at LB
  obtain ⟨db, bt, bc, hb1, hb2, _⟩ := id LB
  have s13 := s12.trans s3
  refine ⟨_, rfl, _, rfl, bk, db, _, x, dx, _, rfl, rfl, hb1, s13 _ _ hx, bk, x, h, h, ls, ls, rfl, LB, LA.same s13, ?_⟩
  rw [show decide (h = h ∧ ls = ls) = true by simp]
  refine ⟨_, rfl, iteF ?_⟩
  refine ⟨_, rfl, bk, ζ.Ladder, db, _, _, rfl, hb1, T.cl_Ladder, T.na_Ladder_levels, rfl, _, rfl, a, _, rfl, .inl ⟨SqL.of (s13 _ _ ha), fun u4 hu4 => ?_⟩⟩
  have s4 : Same H3 (upd H3 u4 (.tup (ls.map V.int))) := same_new hu4
  have l2 : (ls.map V.int).length ≤ 100000 := by rw [List.length_map]; omega
  refine ⟨_, _, _, _, rfl, .tup (s4 _ _ hb2) (ats_ints _ _) l2, .tup upd_same (ats_ints _ _) l2, (by rw [dep, deps_ints]; decide), fun b hb0 => ⟨_, rfl, ?_⟩⟩
  rw [hb0.mpr rfl]
  refine iteF ?_
  have s14 := s13.trans s4
  have LT4 := ((LT.same s2).same s3).same s4
  have ht4 := s4 _ _ (s3 _ _ (s2 _ _ ht1))
  generalize upd H3 u4 (.tup (ls.map V.int)) = H4 at s14 LT4 ht4 ⊢
  refine ⟨_, rfl, a, _, rfl, .inl (SqL.of (s14 _ _ ha)), ?_⟩
  rw [ll]
  refine ⟨_, rfl, by decide, by decide, ?_⟩
  refine for_range (lo := 0) (n := 4) (fun i σ H' => Keep p H4 H' ∧ IsPool H' p ∧ ∃ z7 z8 z9 z10 z11 z12 z13 : Option V, σ = [some (.ref p), some (.ref x), some (.ref a), some (.int h), some (.ref t), some (.ref bk), some (.int (ls.length : Nat)), z7, z8, z9, z10, z11, z12, z13]) ⟨Keep.refl, hp.same s14, none, none, none, none, none, none, none, rfl⟩ ?_ ?_
  · rintro i σ H6 hi ⟨k6, p6, z7, z8, z9, z10, z11, z12, z13, rfl⟩
    have pl4 := (hp.same s14).some
    refine ⟨_, rfl, _, rfl, _, _, rfl, rfl, p, _, rfl, p6, by omega, by omega, fun one H7 o0 o1 k7 p7 => ?_⟩
    refine ⟨_, rfl, _, rfl, _, _, rfl, rfl, p, _, rfl, p7, by omega, by omega, fun oth H8 q0 q1 k8 p8 => ?_⟩
    refine ⟨_, rfl, _, rfl, _, _, rfl, rfl, p, _, rfl, p8, by omega, by omega, fun lv H9 r0 r1 k9 p9 => ⟨_, _, rfl, rfl, ?_⟩⟩
    have k49 := ((k6.trans k7).trans k8).trans k9
    have LA9 := (LA.same s14).keep k49 pl4
    have LT9 := LT4.keep k49 pl4
    have ha9 := k49 _ nap _ (s14 _ _ ha)
    have hx9 := k49 _ (ne_of hx hp.some.choose_spec (by intro z; cases z)) _ (s14 _ _ hx)
    have ht9 := k49 _ (ne_of ht4 pl4.choose_spec (by intro z; cases z)) _ ht4
    have hb1' : ∀ l ∈ ls, 1 ≤ l := fun l q => (hb l q).1
    refine ⟨_, rfl, _, rfl, _, rfl, a, ls, one, oth, rfl, .inl (SqL.of ha9), ⟨by omega, by omega⟩, ⟨by omega, by omega⟩, by omega, fun g hg => ?_⟩
    have eg : gapI ls one oth = g := gapI_of hb1' o0 q0 hg
    subst eg
    refine ⟨_, rfl, x, dx, _, rfl, hx9, rfl, _, rfl, _, rfl, x, h, ls, one, oth, rfl, LA9, by omega, ⟨by omega, by omega⟩, ⟨by omega, by omega⟩, fun Ha sa => ?_⟩
    refine ⟨_, rfl, _, _, _, _, rfl, .int _, .int _, Nat.succ_pos _, fun b hb0 => ⟨_, rfl, ?_⟩⟩
    rw [hb0.mpr rfl]
    refine iteF ?_
    refine ⟨_, rfl, t, dt, _, rfl, sa _ _ ht9, rfl, _, rfl, _, rfl, _, _, rfl, rfl, _, rfl, _, rfl, _, _, rfl, rfl, t, h, ls.reverse, _, _, rfl, LT9.same sa, by rw [List.length_reverse]; omega, ⟨by omega, by rw [List.length_reverse]; omega⟩, ⟨by omega, by rw [List.length_reverse]; omega⟩, fun Hb sb => ?_⟩
    rw [gapI_rev hb1' ⟨by omega, by omega⟩ ⟨by omega, by omega⟩]
    refine ⟨_, rfl, _, _, _, _, rfl, .int _, .int _, Nat.succ_pos _, fun b hb0 => ⟨_, rfl, ?_⟩⟩
    rw [hb0.mpr rfl]
    refine iteF ?_
    have sab := sa.trans sb
    have h9b := sab _ _ ha9
    have n0 : one.toNat ≤ ls.length := by omega
    have ec : cutV (ls.map V.int) (some one) none = (ls.drop one.toNat).map V.int := by
      have eo : one = ((one.toNat : Nat) : Int) := (Int.toNat_of_nonneg o0).symm
      conv => lhs; rw [eo]
      unfold cutV
      rw [sIx_nat (by rw [List.length_map]; omega)]
      show ((ls.map V.int).drop one.toNat).take ((ls.map V.int).length - one.toNat) = _
      rw [List.take_of_length_le (by rw [List.length_drop]; exact Nat.le_refl _), List.map_drop]
    refine ⟨_, rfl, _, rfl, one, rfl, a, _, rfl, SqL.of h9b, fun r hr1 => ?_⟩
    rw [ec]
    have s5 : Same Hb (upd Hb r (.lst ((ls.drop one.toNat).map V.int))) := same_new hr1
    have hp1 : (upd Hb r (.lst ((ls.drop one.toNat).map V.int))) r = some (.lst ((ls.drop one.toNat).map V.int)) := upd_same
    generalize upd Hb r (.lst ((ls.drop one.toNat).map V.int)) = H10 at s5 hp1 ⊢
    refine ⟨r, rfl, ⟨_, SqL.of hp1⟩, fun D hD => ?_⟩
    refine lc_list (K := K) (a := r) (xs := (ls.drop one.toNat).map V.int) (fun i H' => Same H10 H' ∧ H' D = some (.lst ((((ls.drop one.toNat).take i).filter fun z => decide (1 + lv ≤ z)).map V.int))) ⟨same_new hD, upd_same⟩ (fun i H' _ h => SqL.of (h.1 _ _ hp1)) ?_ ?_
    · rintro i x H2 hx ⟨s2, h2⟩
      obtain ⟨z, ez, rfl⟩ := map_get hx
      have et : (ls.drop one.toNat).take (i + 1) = (ls.drop one.toNat).take i ++ [z] := by rw [List.take_succ, ez]; rfl
      refine ⟨rfl, _, rfl, _, rfl, _, _, rfl, rfl, _, rfl, ite_b (fun c => ?_) (fun c => ?_)⟩
      · refine ⟨_, rfl, _, h2, ?_, fun b o e => ?_, ?_⟩
        · have := List.length_filter_le (fun z => decide (1 + lv ≤ z)) ((ls.drop one.toNat).take i)
          rw [List.length_take, List.length_drop] at this
          rw [List.length_map, sizeLine_eq]
          omega
        · rw [upd_ne (ne_of_none e hD)]
          exact s2 b o e
        · rw [upd_same, et, List.filter_append, List.map_append, List.filter_cons, List.filter_nil, if_pos c]; rfl
      · refine ⟨s2, ?_⟩
        rw [h2, et, List.filter_append, List.filter_cons, List.filter_nil, if_neg (by rw [c]; decide), List.append_nil]
    · rintro H2 ⟨s2, h2⟩
      rw [List.length_map, List.take_length] at h2
      refine ⟨D, _, rfl, .inl (SqL.of h2), ?_⟩
      have sf := (sab.trans s5).trans s2
      refine ⟨_, rfl, t, dt, _, rfl, sf _ _ ht9, rfl, _, rfl, _, rfl, _, rfl, _, _, rfl, rfl, t, h, ls.reverse, _, _, rfl, LT9.same sf, ⟨by omega, by omega⟩, ⟨by omega, by rw [List.length_reverse]; omega⟩, ?_⟩
      have e1 : ((ls.length : Int) - one).toNat = ls.length - one.toNat := by omega
      rw [e1, cn_rev n0]
      refine ⟨_, rfl, _, _, _, _, rfl, .int _, .int _, Nat.succ_pos _, fun b hb0 => ⟨_, rfl, ?_⟩⟩
      rw [hb0.mpr (by rw [List.length_map]; rfl)]
      exact iteF ⟨fun b n o e => sf _ _ (k49 b n o e), p9.same sf, _, _, _, _, _, _, _, rfl⟩
  · rintro σ H6 ⟨k6, p6, _⟩
    exact kk _ (fun b n o e => k6 b n o (s14 _ _ e)) p6
end
end LR

set_option Elab.async false
set_option maxRecDepth 100000
set_option linter.all false
set_option maxHeartbeats 4000000
namespace LR
open PySem PySem.Spec PyProof.Rows L2
section
variable {P : Program} {w : World} {K : PySem.W.Frag} {mg : Str → Option Value} {base : Heap} {ζ : Cs}
/-- what a sum answers -/
def sumD (h k : Int) (ls ms : List Int) : List Dt := if h ≠ k then [.str "height", .bl true, .bl false] else if 24 < (ls ++ h :: ms).length then [.str "large", .bl true, .bl false] else [.str "value", .int h, .tup ((ls ++ h :: ms).map Dt.int), .int ((ls ++ h :: ms).length : Nat)]
def sumT (h k : Int) (ls ms : List Int) : Str := if h ≠ k then "height" else if 24 < (ls ++ h :: ms).length then "large" else "value"
theorem sum_dep {h k : Int} {ls ms : List Int} : dep (.lst (sumD h k ls ms)) < 3 := by
  unfold sumD
  split
  · simp [dep, deps]
  · split
    · simp [dep, deps]
    · generalize ls ++ h :: ms = l
      simp [dep, deps, deps_ints]
def spSum (C : Addr) : Sp := fun vs H Q _ => ∃ (x y : Addr) (h k : Int) (ls ms : List Int), vs = [.ref x, .ref y] ∧ LadderAt C H x h ls ∧ LadderAt C H y k ms ∧ (h = 1 ∨ h = 2 ∨ h = 3) ∧ (k = 1 ∨ k = 2 ∨ k = 3) ∧ ls.length ≤ 24 ∧ ms.length ≤ 24 ∧ (∀ l ∈ ls, 1 ≤ l ∧ l ≤ h) ∧ (∀ l ∈ ms, 1 ≤ l ∧ l ≤ k) ∧
  ∀ b H', Same H H' → At H' (.ref b) (.lst (sumD h k ls ms)) → Q (.ref b) H'
theorem ok_sum (T : Txt P K mg ζ) : Cal P w K mg base 7 "_law_sum" (spSum ζ.Ladder) := by
  have cx_L_add : MetX P w K mg base 6 ζ.Ladder "__add__" (spAddX ζ.Ladder ζ.HeightMismatch ζ.TooLarge) := ok_addX T
  refine T.d_sum.cal sc_sum (fun vs H Q E h => ?_) (fun f cdv A outer s H vs Q E hr h => ⟨_, pss_cons (ps_set (i := 2) sc_sum.nd rfl (Or.inl rfl) (pe_non))
 (pss_cons (ps_set (i := 3) sc_sum.nd rfl (Or.inl rfl) (pe_lst (pa_cons (pe_str) (pa_nil))))
 (pss_cut (ps_try_any rfl rfl sc_sum.nd takes0 (fun W pn xe tk _ => pss_one (ps_set (i := 2) sc_sum.nd rfl (Or.inl rfl) (pe_opT cx_L_add T.sf_Ladder hr (by first | decide | omega) tk (pv 0) (pv 1)))) (ClOk.held (i := 4) rfl rfl ⟨rfl, by decide, .inl T.mg_HeightMismatch⟩ (fun a oe cls d pn hz hf => pss_cons (ps_set (i := 5) sc_sum.nd rfl (Or.inl rfl) (pe_and (pe_callB (call_isX T.objc hz hf) (by rfl) T.n_isinstance b_isinstance (pa_cons (pv 4) (pa_cons (pe_glob (v := .ref ζ.LadderreachError) (by rfl) T.mg_LadderreachError rfl) (pa_nil)))) (pe_one (pe_callB (call_isX T.objc hz hf) (by rfl) T.n_isinstance b_isinstance (pa_cons (pv 4) (pa_cons (pe_bltn (v := .ty "ValueError") (by rfl) T.n_ValueError b_ValueError rfl) (pa_nil)))))))
 (pss_one (ps_set (i := 3) sc_sum.nd rfl (Or.inl rfl) (pe_lst (pa_cons (pe_str) (pa_cons (pv 5) (pa_cons (pe_callB (call_isX T.objc hz hf) (by rfl) T.n_isinstance b_isinstance (pa_cons (pv 4) (pa_cons (pe_tup (pa_cons (pe_glob (v := .ref ζ.TooLarge) (by rfl) T.mg_TooLarge rfl) (pa_cons (pe_glob (v := .ref ζ.BadHeight) (by rfl) T.mg_BadHeight rfl) (pa_cons (pe_glob (v := .ref ζ.BadLevel) (by rfl) T.mg_BadLevel rfl) (pa_cons (pe_glob (v := .ref ζ.ShapeMismatch) (by rfl) T.mg_ShapeMismatch rfl) (pa_cons (pe_glob (v := .ref ζ.GameError) (by rfl) T.mg_GameError rfl) (pa_nil))))))) (pa_nil)))) (pa_nil)))))))) (ClOk.held (i := 4) rfl rfl ⟨rfl, by decide, .inl T.mg_TooLarge⟩ (fun a oe cls d pn hz hf => pss_cons (ps_set (i := 5) sc_sum.nd rfl (Or.inl rfl) (pe_and (pe_callB (call_isX T.objc hz hf) (by rfl) T.n_isinstance b_isinstance (pa_cons (pv 4) (pa_cons (pe_glob (v := .ref ζ.LadderreachError) (by rfl) T.mg_LadderreachError rfl) (pa_nil)))) (pe_one (pe_callB (call_isX T.objc hz hf) (by rfl) T.n_isinstance b_isinstance (pa_cons (pv 4) (pa_cons (pe_bltn (v := .ty "ValueError") (by rfl) T.n_ValueError b_ValueError rfl) (pa_nil)))))))
 (pss_one (ps_set (i := 3) sc_sum.nd rfl (Or.inl rfl) (pe_lst (pa_cons (pe_str) (pa_cons (pv 5) (pa_cons (pe_callB (call_isX T.objc hz hf) (by rfl) T.n_isinstance b_isinstance (pa_cons (pv 4) (pa_cons (pe_tup (pa_cons (pe_glob (v := .ref ζ.HeightMismatch) (by rfl) T.mg_HeightMismatch rfl) (pa_cons (pe_glob (v := .ref ζ.BadHeight) (by rfl) T.mg_BadHeight rfl) (pa_cons (pe_glob (v := .ref ζ.BadLevel) (by rfl) T.mg_BadLevel rfl) (pa_cons (pe_glob (v := .ref ζ.ShapeMismatch) (by rfl) T.mg_ShapeMismatch rfl) (pa_cons (pe_glob (v := .ref ζ.GameError) (by rfl) T.mg_GameError rfl) (pa_nil))))))) (pa_nil)))) (pa_nil)))))))) (ClOk.bare ⟨rfl, by decide, .inl T.mg_LadderreachError⟩ (fun a oe cls d pn hz hf => pss_one (ps_set (i := 3) sc_sum.nd rfl (Or.inl rfl) (pe_lst (pa_cons (pe_str) (pa_nil))))) (ClOk.nil)))))
 (pss_cons (ps_if (pt_cmpR op_eq (pe_ix ix_list (pv 3) (pe_int) (fun _ _ => rfl)) (pe_str) (nomark _))
 (pss_cons (ps_if (pt_not (pt_val (pe_callB call_isi (by rfl) T.n_isinstance b_isinstance (pa_cons (pv 2) (pa_cons (pe_glob (v := .ref ζ.Ladder) (by rfl) T.mg_Ladder rfl) (pa_nil))))))
 (pss_one (ps_ret (pe_lst (pa_cons (pe_str) (pa_nil)))))
 (pss_nil))
 (pss_one (ps_set (i := 3) sc_sum.nd rfl (Or.inl rfl) (pe_lst (pa_cons (pe_str) (pa_cons (pe_fld (pv 2) rfl) (pa_cons (pe_fld (pv 2) rfl) (pa_cons (pe_fld (pv 2) rfl) (pa_nil)))))))))
 (pss_nil))
 (pss_one (ps_ret (pv 3)))))), ?_⟩)
  · obtain ⟨x, y, h, k, ls, ms, rfl, _⟩ := h; rfl
  obtain ⟨x, y, h, k, ls, ms, rfl, LA, LB, hh, hk, hl, hm, bl, bm, kk⟩ := h
  obtain ⟨dx, tl, tc, hx, _⟩ := id LA
  obtain ⟨dy, sl, sc, hy, _⟩ := id LB
  refine ⟨(by show 1 ≤ sizeLine; decide), fun b0 hb0 => ?_⟩
  have s1 : Same H (upd H b0 (.lst [.str "value"])) := same_new hb0
  have hb1 : (upd H b0 (.lst [.str "value"])) b0 = some (.lst [.str "value"]) := upd_same
  generalize upd H b0 (.lst [.str "value"]) = H1 at s1 hb1 ⊢
  refine ⟨fun σ' H' => ∃ b : Addr, (h ≠ k ∧ Same H H' ∧ H' b = some (.lst [.str "height", .bl true, .bl false]) ∧ ∃ z2 z4 z5 : Option V, σ' = [some (.ref x), some (.ref y), z2, some (.ref b), z4, z5]) ∨
    (h = k ∧ 24 < (ls ++ h :: ms).length ∧ Same H H' ∧ H' b = some (.lst [.str "large", .bl true, .bl false]) ∧ ∃ z2 z4 z5 : Option V, σ' = [some (.ref x), some (.ref y), z2, some (.ref b), z4, z5]) ∨
    (h = k ∧ (ls ++ h :: ms).length ≤ 24 ∧ Same H H' ∧ H' b = some (.lst [.str "value"]) ∧ ∃ z, LadderAt ζ.Ladder H' z h (ls ++ h :: ms) ∧ ∃ z4 z5 : Option V, σ' = [some (.ref x), some (.ref y), some (.ref z), some (.ref b), z4, z5]), ?_, ?_⟩
  · refine ⟨_, rfl, _, rfl, x, dx, _, y, dy, _, rfl, rfl, s1 _ _ hx, s1 _ _ hy, x, y, h, k, ls, ms, rfl, LA.same s1, LB.same s1, hh, hk, hl, hm, bl, bm, fun ne => ?_, fun e0 gt H2 s2 => ?_, fun e le H2 z s2 LZ => ?_⟩
    · refine (show wCl _ _ _ _ _ _ _ _ from ⟨true, T.exm_HeightMismatch_HeightMismatch, ⟨fun _ e he => ?_, (fun z => nomatch z)⟩⟩)
      refine ⟨_, rfl, ζ.HeightMismatch, rfl, T.r_HeightMismatch.E, trivial, .inl ⟨_, _, true, rfl, .own _, T.kit_HeightMismatch_LadderreachError, _, rfl, iteT ?_⟩⟩
      refine ⟨_, rfl, ζ.HeightMismatch, rfl, T.r_HeightMismatch.E, trivial, .inl ⟨_, _, true, rfl, .ty _, T.kit_HeightMismatch_ValueError, ?_⟩⟩
      refine ⟨_, rfl, _, rfl, by show 5 ≤ sizeLine; decide, fun t ht => ?_⟩
      refine ⟨ζ.HeightMismatch, rfl, T.r_HeightMismatch.E, trivial, .inr ⟨t, _, _, false, rfl, upd_same, .cons (.own _) (.cons (.own _) (.cons (.own _) (.cons (.own _) (.cons (.own _) (.nil))))), kitAny_cons T.kit_HeightMismatch_TooLarge (fun _ => kitAny_cons T.kit_HeightMismatch_BadHeight (fun _ => kitAny_cons T.kit_HeightMismatch_BadLevel (fun _ => kitAny_cons T.kit_HeightMismatch_ShapeMismatch (fun _ => kitAny_cons T.kit_HeightMismatch_GameError (fun _ => kitAny_nil) (fun z => nomatch z)) (fun z => nomatch z)) (fun z => nomatch z)) (fun z => nomatch z)) (fun z => nomatch z), by show 3 ≤ sizeLine; decide, fun b hb => ?_⟩⟩
      exact ⟨b, .inl ⟨ne, (s1.trans (same_new ht)).trans (same_new hb), upd_same, _, none, _, rfl⟩⟩
    · refine (show wCl _ _ _ _ _ _ _ _ from ⟨false, T.exm_TooLarge_HeightMismatch, ⟨(fun z => nomatch z), fun _ => ⟨true, T.exm_TooLarge_TooLarge, ⟨fun _ e he => ?_, (fun z => nomatch z)⟩⟩⟩⟩)
      refine ⟨_, rfl, ζ.TooLarge, rfl, T.r_TooLarge.E, trivial, .inl ⟨_, _, true, rfl, .own _, T.kit_TooLarge_LadderreachError, _, rfl, iteT ?_⟩⟩
      refine ⟨_, rfl, ζ.TooLarge, rfl, T.r_TooLarge.E, trivial, .inl ⟨_, _, true, rfl, .ty _, T.kit_TooLarge_ValueError, ?_⟩⟩
      refine ⟨_, rfl, _, rfl, by show 5 ≤ sizeLine; decide, fun t ht => ?_⟩
      refine ⟨ζ.TooLarge, rfl, T.r_TooLarge.E, trivial, .inr ⟨t, _, _, false, rfl, upd_same, .cons (.own _) (.cons (.own _) (.cons (.own _) (.cons (.own _) (.cons (.own _) (.nil))))), kitAny_cons T.kit_TooLarge_HeightMismatch (fun _ => kitAny_cons T.kit_TooLarge_BadHeight (fun _ => kitAny_cons T.kit_TooLarge_BadLevel (fun _ => kitAny_cons T.kit_TooLarge_ShapeMismatch (fun _ => kitAny_cons T.kit_TooLarge_GameError (fun _ => kitAny_nil) (fun z => nomatch z)) (fun z => nomatch z)) (fun z => nomatch z)) (fun z => nomatch z)) (fun z => nomatch z), by show 3 ≤ sizeLine; decide, fun b hb => ?_⟩⟩
      exact ⟨b, .inr (.inl ⟨e0, gt, ((s1.trans s2).trans (same_new ht)).trans (same_new hb), upd_same, _, none, _, rfl⟩)⟩
    · exact ⟨b0, .inr (.inr ⟨e, le, s1.trans s2, s2 _ _ hb1, z, LZ, none, none, rfl⟩)⟩
  · rintro σ' H2 ⟨b, ⟨ne, s2, hb, z2, z4, z5, rfl⟩ | ⟨e, gt, s2, hb, z2, z4, z5, rfl⟩ | ⟨e, le, s2, hb, z, LZ, z4, z5, rfl⟩⟩
    · refine ⟨_, rfl, _, _, _, _, rfl, rfl, SqL.of hb, rfl, rfl, _, rfl, ?_⟩
      refine iteF ⟨_, rfl, kk b H2 s2 ?_⟩
      unfold sumD; rw [if_pos ne]
      exact .lst hb (.cons (.str _) (.cons (.bl _) (.cons (.bl _) .nil))) (by show 3 ≤ 100000; decide)
    · refine ⟨_, rfl, _, _, _, _, rfl, rfl, SqL.of hb, rfl, rfl, _, rfl, ?_⟩
      refine iteF ⟨_, rfl, kk b H2 s2 ?_⟩
      unfold sumD; rw [if_neg (fun q => q e), if_pos gt]
      exact .lst hb (.cons (.str _) (.cons (.bl _) (.cons (.bl _) .nil))) (by show 3 ≤ 100000; decide)
    · refine ⟨_, rfl, _, _, _, _, rfl, rfl, SqL.of hb, rfl, rfl, _, rfl, ?_⟩
      obtain ⟨dz, zt, zc, hz1, hz2, _⟩ := id LZ
      refine iteT ⟨_, rfl, _, _, _, _, true, rfl, .own _, .base (.ins hz1 T.cl_Ladder T.ai_Ladder T.objc.gt T.objc.tk T.mo_Ladder), T.kit_Ladder_Ladder, ⟨_, rfl, iteF ?_⟩⟩
      refine ⟨_, rfl, z, ζ.Ladder, dz, _, _, rfl, hz1, T.cl_Ladder, T.na_Ladder_height, rfl, _, rfl, z, ζ.Ladder, dz, _, _, rfl, hz1, T.cl_Ladder, T.na_Ladder_levels, rfl, _, rfl, z, ζ.Ladder, dz, _, _, rfl, hz1, T.cl_Ladder, T.na_Ladder_top, rfl, (by show 4 ≤ sizeLine; decide), fun c hc => ?_⟩
      refine ⟨_, rfl, kk c _ (s2.trans (same_new hc)) ?_⟩
      unfold sumD; rw [if_neg (fun q => q e), if_neg (by omega)]
      exact .lst upd_same (.cons (.str _) (.cons (.int _) (.cons (.tup ((same_new hc) _ _ hz2) (ats_ints _ _) (by rw [List.length_map]; omega)) (.cons (.int _) .nil)))) (by show 4 ≤ 100000; decide)
def spSumDue : Sp := fun vs H Q _ => ∃ (a b : Addr) (h k : Int) (ls ms : List Int), vs = [.int h, .ref a, .int k, .ref b] ∧ H a = some (.lst (ls.map V.int)) ∧ H b = some (.lst (ms.map V.int)) ∧ ls.length ≤ 1000 ∧ ms.length ≤ 1000 ∧
  ∀ c H' rest, Same H H' → H c = none → H' c = some (.lst (.str (sumT h k ls ms) :: rest)) → At H' (.ref c) (.lst (sumD h k ls ms)) → Q (.ref c) H'
theorem ok_sumdue (T : Txt P K mg ζ) : Cal P w K mg base 1 "_law_sum_due" spSumDue := by
  refine T.d_sum_due.cal sc_sum_due (fun vs H Q E h => ?_) (fun f cdv A outer s H vs Q E hr h => ⟨_, pss_cons (ps_if (pt_cmpR op_ne (pv 0) (pv 2) (nomark _))
 (pss_one (ps_ret (pe_lst (pa_cons (pe_str) (pa_cons (pe_bl) (pa_cons (pe_bl) (pa_nil)))))))
 (pss_nil))
 (pss_cons (ps_set (i := 4) sc_sum_due.nd rfl (Or.inl rfl) (pe_op op_cat (pe_op op_cat (pv 1) (pe_lst (pa_cons (pv 0) (pa_nil)))) (pv 3)))
 (pss_cons (ps_if (pt_cmpR op_gt (pe_callB call_len_seq (by rfl) T.n_len b_len (pa_cons (pv 4) (pa_nil))) (pe_int) (nomark _))
 (pss_one (ps_ret (pe_lst (pa_cons (pe_str) (pa_cons (pe_bl) (pa_cons (pe_bl) (pa_nil)))))))
 (pss_nil))
 (pss_one (ps_ret (pe_lst (pa_cons (pe_str) (pa_cons (pv 0) (pa_cons (pe_callTy call_tuple_of (by rfl) T.n_tuple b_tuple (pa_cons (pv 4) (pa_nil))) (pa_cons (pe_callB call_len_seq (by rfl) T.n_len b_len (pa_cons (pv 4) (pa_nil))) (pa_nil)))))))))), ?_⟩)
  · obtain ⟨a, b, h, k, ls, ms, rfl, _⟩ := h; rfl
  obtain ⟨a, b, h, k, ls, ms, rfl, ha, hb, hl, hm, kk⟩ := h
  refine ⟨_, rfl, _, rfl, rfl, _, rfl, ?_⟩
  have em : (!decide (V.int h = V.int k)) = decide (h ≠ k) := by simp
  rw [em]
  refine ite2 (fun c => ?_) (fun c => ?_)
  · have c := of_decide_eq_true c
    refine ⟨(by show 3 ≤ sizeLine; decide), fun q hq => kk q _ [.bl true, .bl false] (same_new hq) hq ?_ ?_⟩
    · rw [upd_same]; unfold sumT; rw [if_pos c]
    · unfold sumD; rw [if_pos c]
      exact .lst upd_same (.cons (.str _) (.cons (.bl _) (.cons (.bl _) .nil))) (by show 3 ≤ 100000; decide)
  · have c : ¬ h ≠ k := fun q => c (decide_eq_true q)
    refine ⟨_, rfl, _, rfl, (by show 1 ≤ sizeLine; decide), fun q hq => ?_⟩
    have s1 : Same H (upd H q (.lst [.int h])) := same_new hq
    refine ⟨a, q, _, _, rfl, rfl, s1 _ _ ha, upd_same, (by rw [List.length_map, sizeLine_eq]; show _ + 1 ≤ _; omega), fun r hr1 => ?_⟩
    have s2 := s1.new (o := .lst (ls.map V.int ++ [.int h])) hr1
    have hr2 : (upd (upd H q (.lst [.int h])) r (.lst (ls.map V.int ++ [.int h]))) r = some (.lst (ls.map V.int ++ [.int h])) := upd_same
    generalize upd (upd H q (.lst [.int h])) r (.lst (ls.map V.int ++ [.int h])) = H2 at s2 hr2 ⊢
    refine ⟨_, rfl, r, b, _, _, rfl, rfl, hr2, s2 _ _ hb, (by rw [List.length_append, List.length_map, List.length_map, sizeLine_eq]; show _ + 1 + _ ≤ _; omega), fun u hu => ?_⟩
    have er : ls.map V.int ++ [V.int h] ++ ms.map V.int = (ls ++ h :: ms).map V.int := by simp
    rw [er]
    have s3 := s2.new (o := .lst ((ls ++ h :: ms).map V.int)) hu
    have hu2 : (upd H2 u (.lst ((ls ++ h :: ms).map V.int))) u = some (.lst ((ls ++ h :: ms).map V.int)) := upd_same
    generalize upd H2 u (.lst ((ls ++ h :: ms).map V.int)) = H3 at s3 hu2 ⊢
    have lr : (ls ++ h :: ms).length ≤ 2001 := by simp; omega
    refine ⟨_, rfl, u, _, rfl, .inl (SqL.of hu2), _, _, rfl, rfl, _, rfl, ?_⟩
    rw [List.length_map]
    refine ite2 (fun c2 => ?_) (fun c2 => ?_)
    · have c2 := of_decide_eq_true c2
      have c2 : 24 < (ls ++ h :: ms).length := by omega
      refine ⟨(by show 3 ≤ sizeLine; decide), fun q hq => kk q _ [.bl true, .bl false] (s3.trans (same_new hq)) (s3.free hq) ?_ ?_⟩
      · rw [upd_same]; unfold sumT; rw [if_neg c, if_pos c2]
      · unfold sumD; rw [if_neg c, if_pos c2]
        exact .lst upd_same (.cons (.str _) (.cons (.bl _) (.cons (.bl _) .nil))) (by show 3 ≤ 100000; decide)
    · have c2 : ¬ 24 < (ls ++ h :: ms).length := fun q => c2 (decide_eq_true (by omega))
      refine ⟨_, rfl, _, rfl, u, _, rfl, .inl ⟨SqL.of hu2, fun t ht => ?_⟩⟩
      have s4 := s3.new (o := .tup ((ls ++ h :: ms).map V.int)) ht
      have hu4 := (same_new (o := .tup ((ls ++ h :: ms).map V.int)) ht) _ _ hu2
      have ht4 : (upd H3 t (.tup ((ls ++ h :: ms).map V.int))) t = some (.tup ((ls ++ h :: ms).map V.int)) := upd_same
      generalize upd H3 t (.tup ((ls ++ h :: ms).map V.int)) = H4 at s4 hu4 ht4 ⊢
      refine ⟨_, rfl, u, _, rfl, .inl (SqL.of hu4), (by show 4 ≤ sizeLine; decide), fun q hq => kk q _ [.int h, .ref t, .int ((ls ++ h :: ms).map V.int).length] (s4.trans (same_new hq)) (s4.free hq) ?_ ?_⟩
      · rw [upd_same]; unfold sumT; rw [if_neg c, if_neg c2]
      · unfold sumD; rw [if_neg c, if_neg c2]
        exact .lst upd_same (.cons (.str _) (.cons (.int _) (.cons (.tup ((same_new hq) _ _ ht4) (ats_ints _ _) (by rw [List.length_map]; omega)) (.cons (by rw [List.length_map]; exact .int _) .nil)))) (by show 4 ≤ 100000; decide)
end
end LR

set_option Elab.async false
set_option maxRecDepth 100000
set_option linter.all false
set_option maxHeartbeats 4000000
namespace LR
open PySem PySem.Spec PyProof.Rows L2
section
variable {P : Program} {w : World} {K : PySem.W.Frag} {mg : Str → Option Value} {base : Heap} {ζ : Cs}
theorem cat_lst {H : Hp} {a b : Addr} {xs ys : List V} {Q : VK} (ha : H a = some (.lst xs)) (hb : H b = some (.lst ys)) (hz : xs.length + ys.length ≤ 10000) (k : ∀ p H', Same H H' → H p = none → H' p = some (.lst (xs ++ ys)) → Q (.ref p) H') : rCat (.ref a) (.ref b) H Q :=
  ⟨a, b, xs, ys, rfl, rfl, ha, hb, (by rw [sizeLine_eq]; omega), fun p hp => k p _ (same_new hp) hp upd_same⟩
theorem PartsAt.cat {H a b ps qs} (h1 : PartsAt H a ps) (h2 : PartsAt H b qs) : ∃ xs ys, H a = some (.lst xs) ∧ H b = some (.lst ys) ∧ xs.length = ps.length ∧ ys.length = qs.length ∧ ∀ g H', Same H H' → H' g = some (.lst (xs ++ ys)) → PartsAt H' g (ps ++ qs) := by
  obtain ⟨ts, a1, a2, a3⟩ := h1
  obtain ⟨us, b1, b2, b3⟩ := h2
  refine ⟨_, _, a1, b1, by rw [List.length_map, a2], by rw [List.length_map, b2], fun g H' s hg => ⟨ts ++ us, by rw [hg, List.map_append], by rw [List.length_append, List.length_append, a2, b2], fun k t p e1 e2 => ?_⟩⟩
  by_cases c : k < ts.length
  · rw [List.getElem?_append_left c] at e1
    rw [List.getElem?_append_left (by omega)] at e2
    exact s _ _ (a3 k t p e1 e2)
  · rw [List.getElem?_append_right (by omega)] at e1
    rw [List.getElem?_append_right (by omega), ← a2] at e2
    exact s _ _ (b3 _ t p e1 e2)
theorem bnd_cat {h : Int} {ls ms : List Int} (hh : h = 1 ∨ h = 2 ∨ h = 3) (bl : ∀ l ∈ ls, 1 ≤ l ∧ l ≤ h) (bm : ∀ l ∈ ms, 1 ≤ l ∧ l ≤ h) : ∀ l ∈ ls ++ h :: ms, 1 ≤ l ∧ l ≤ h := by
  intro l hl
  rcases List.mem_append.mp hl with q | q
  · exact bl l q
  · rcases List.mem_cons.mp q with q | q
    · subst q; omega
    · exact bm l q
def spJoined (C : Addr) : Sp := fun vs H Q _ => ∃ (p x y a b c : Addr) (h : Int) (ls ms rs : List Int), vs = [.ref p, .ref x, .ref y, .ref a, .ref b, .ref c, .int h] ∧ IsPool H p ∧ LadderAt C H x h ls ∧ LadderAt C H y h ms ∧ H a = some (.lst (ls.map V.int)) ∧ H b = some (.lst (ms.map V.int)) ∧ H c = some (.lst (rs.map V.int)) ∧ a ≠ p ∧ b ≠ p ∧ c ≠ p ∧ (h = 1 ∨ h = 2 ∨ h = 3) ∧ (ls ++ h :: ms).length ≤ 24 ∧ rs.length ≤ 24 ∧ (∀ l ∈ ls, 1 ≤ l ∧ l ≤ h) ∧ (∀ l ∈ ms, 1 ≤ l ∧ l ≤ h) ∧ (∀ l ∈ rs, 1 ≤ l ∧ l ≤ h) ∧ ∀ H', Keep p H H' → IsPool H' p → Q (.bl true) H'
theorem ok_joined (T : Txt P K mg ζ) : Cal P w K mg base 6 "_law_joined" (spJoined ζ.Ladder) := by
  have c_draw : Cal P w K mg base 1 "_law_draw" spDraw := ok_draw T
  have c_parts : Cal P w K mg base 1 "_law_parts" (spParts K) := ok_parts T
  have c_L_pieces : Met P w K mg base 1 ζ.Ladder "pieces" (spPieces ζ.Ladder) := ok_pieces T
  have c_L_flipped : Met P w K mg base 4 ζ.Ladder "flipped" (spFlip ζ.Ladder) := ok_flip T
  have c_L_add : Met P w K mg base 4 ζ.Ladder "__add__" (spAdd ζ.Ladder) := ok_add T
  have c_L_gap : Met P w K mg base 2 ζ.Ladder "gap" (spGapP ζ.Ladder) := ok_gapP T
  have c_L_eq : Met P w K mg base 2 ζ.Ladder "__eq__" (spEq ζ.Ladder) := ok_eq T
  have c_same : Cal P w K mg base 5 "_law_same" (spSame 3) := ok_same T 3
  have c_Ladder : Mak P w K mg base 2 "Ladder" ζ.Ladder (spInitS ζ.Ladder) := ok_initS T
  refine T.d_joined.cal sc_joined (fun vs H Q E h => ?_) (fun f cdv A outer s H vs Q E hr h => ⟨_, pss_cons (ps_set (i := 7) sc_joined.nd rfl (Or.inl rfl) (pe_op0 c_L_add T.sf_Ladder hr (by first | decide | omega) (pv 1) (pv 2)))
 (pss_cons (ps_if (pt_not (pt_val (pe_c c_same hr (by first | decide | omega) (by rfl) (pa_cons (pe_mt0 c_L_pieces hr (by first | decide | omega) (pv 7)) (pa_cons (pe_op op_cat (pe_c c_parts hr (by first | decide | omega) (by rfl) (pa_cons (pv 3) (pa_cons (pv 6) (pa_nil)))) (pe_c c_parts hr (by first | decide | omega) (by rfl) (pa_cons (pv 4) (pa_cons (pv 6) (pa_nil))))) (pa_nil))))))
 (pss_one (ps_ret (pe_bl)))
 (pss_nil))
 (pss_cons (ps_if (pt_not (pt_cmpR (op_eqO c_L_eq hr (by first | decide | omega)) (pe_mt0 c_L_flipped hr (by first | decide | omega) (pv 7)) (pe_op0 c_L_add T.sf_Ladder hr (by first | decide | omega) (pe_mt0 c_L_flipped hr (by first | decide | omega) (pv 2)) (pe_mt0 c_L_flipped hr (by first | decide | omega) (pv 1))) (nomark _)))
 (pss_one (ps_ret (pe_bl)))
 (pss_nil))
 (pss_cons (ps_for PassesOwn.never rfl (pi_range1 rfl T.n_range (pa_cons (pe_int) (pa_nil))) (pg_name (i := 8) sc_joined.nd rfl (Or.inl rfl))
 (pss_cons (ps_set (i := 9) sc_joined.nd rfl (Or.inl rfl) (pe_c c_draw hr (by first | decide | omega) (by rfl) (pa_cons (pv 0) (pa_cons (pe_op op_add (pe_callB call_len_seq (by rfl) T.n_len b_len (pa_cons (pv 3) (pa_nil))) (pe_int)) (pa_nil)))))
 (pss_cons (ps_set (i := 10) sc_joined.nd rfl (Or.inl rfl) (pe_op op_add (pe_op op_add (pe_callB call_len_seq (by rfl) T.n_len b_len (pa_cons (pv 3) (pa_nil))) (pe_int)) (pe_c c_draw hr (by first | decide | omega) (by rfl) (pa_cons (pv 0) (pa_cons (pe_op op_add (pe_callB call_len_seq (by rfl) T.n_len b_len (pa_cons (pv 4) (pa_nil))) (pe_int)) (pa_nil))))))
 (pss_one (ps_if (PW.pt (pw_or (pt_not (pt_val (pe_c c_same hr (by first | decide | omega) (by rfl) (pa_cons (pe_mt c_L_gap hr (by first | decide | omega) (pv 7) (pa_cons (pv 9) (pa_cons (pv 10) (pa_nil)))) (pa_cons (pv 6) (pa_nil)))))) (pw_or1 (pt_not (pt_val (pe_c c_same hr (by first | decide | omega) (by rfl) (pa_cons (pe_mt c_L_gap hr (by first | decide | omega) (pv 7) (pa_cons (pv 10) (pa_cons (pv 9) (pa_nil)))) (pa_cons (pv 6) (pa_nil)))))))))
 (pss_one (ps_ret (pe_bl)))
 (pss_nil))))))
 (pss_cons (ps_set (i := 11) sc_joined.nd rfl (Or.inl rfl) (pe_op op_cat (pe_op op_cat (pe_op op_cat (pe_op op_cat (pv 3) (pe_lst (pa_cons (pv 6) (pa_nil)))) (pv 4)) (pe_lst (pa_cons (pv 6) (pa_nil)))) (pv 5)))
 (pss_cons (ps_if (pt_cmpR op_le (pe_callB call_len_seq (by rfl) T.n_len b_len (pa_cons (pv 11) (pa_nil))) (pe_int) (nomark _))
 (pss_cons (ps_set (i := 12) sc_joined.nd rfl (Or.inl rfl) (pe_mk c_Ladder hr (by first | decide | omega) (by rfl) (pa_cons (pv 6) (pa_cons (pe_callTy call_list_of (by rfl) T.n_list b_list (pa_cons (pv 5) (pa_nil))) (pa_nil)))))
 (pss_cons (ps_set (i := 13) sc_joined.nd rfl (Or.inl rfl) (pe_op0 c_L_add T.sf_Ladder hr (by first | decide | omega) (pe_op0 c_L_add T.sf_Ladder hr (by first | decide | omega) (pv 1) (pv 2)) (pv 12)))
 (pss_cons (ps_set (i := 14) sc_joined.nd rfl (Or.inl rfl) (pe_op0 c_L_add T.sf_Ladder hr (by first | decide | omega) (pv 1) (pe_op0 c_L_add T.sf_Ladder hr (by first | decide | omega) (pv 2) (pv 12))))
 (pss_one (ps_if (PW.pt (pw_or (pt_not (pt_val (pe_c c_same hr (by first | decide | omega) (by rfl) (pa_cons (pe_fld (pv 13) rfl) (pa_cons (pe_callTy call_tuple_of (by rfl) T.n_tuple b_tuple (pa_cons (pv 11) (pa_nil))) (pa_nil)))))) (pw_or (pt_not (pt_val (pe_c c_same hr (by first | decide | omega) (by rfl) (pa_cons (pe_fld (pv 14) rfl) (pa_cons (pe_callTy call_tuple_of (by rfl) T.n_tuple b_tuple (pa_cons (pv 11) (pa_nil))) (pa_nil)))))) (pw_or1 (pt_not (pt_cmpR (op_eqO c_L_eq hr (by first | decide | omega)) (pv 13) (pv 14) (nomark _)))))))
 (pss_one (ps_ret (pe_bl)))
 (pss_nil))))))
 (pss_nil))
 (pss_one (ps_ret (pe_bl)))))))), ?_⟩)
  · obtain ⟨p, x, y, a, b, c, h, ls, ms, rs, rfl, _⟩ := h; rfl
  obtain ⟨p, x, y, a, b, c_, h, ls, ms, rs, rfl, hp, LA, LB, ha, hb, hc, nap, nbp, ncp, hh, hle, hlr, bl, bm, br, kk⟩ := h
  obtain ⟨dx, _, _, hx, _⟩ := id LA
  obtain ⟨dy, _, _, hy, _⟩ := id LB
  have hl3 : ls.length + 1 + ms.length ≤ 24 := by simp at hle; omega
  have bz := bnd_cat hh bl bm
  refine ⟨_, rfl, _, rfl, x, dx, _, y, dy, _, rfl, rfl, hx, hy, x, y, h, ls, ms, rfl, LA, LB, hh, bl, bm, hle, fun H1 z s1 _ LZ => ?_⟩
  obtain ⟨dz, _, _, hz, _⟩ := id LZ
  refine ⟨_, rfl, z, dz, _, rfl, hz, rfl, z, h, _, rfl, LZ, by omega, fun H2 D2 s2 _ f2 => ?_⟩
  refine ⟨_, rfl, _, rfl, a, ls, h, rfl, s2 _ _ (s1 _ _ ha), by omega, fun H3 P1 s3 _ f3 => ?_⟩
  refine ⟨_, rfl, _, rfl, b, ms, h, rfl, s3 _ _ (s2 _ _ (s1 _ _ hb)), by omega, fun H4 P2 s4 _ f4 => ?_⟩
  obtain ⟨xs, ys, hxs, hys, lxs, lys, fg⟩ := (f3.same s4).cat f4
  have sl1 := spl_len h ls
  have sl2 := spl_len h ms
  refine cat_lst hxs hys (by omega) fun g H5 s5 _ hg => ?_
  have fg5 := fg g H5 s5 hg
  rw [← spl_cat] at fg5
  have sl0 := spl_len h (ls ++ h :: ms)
  have bnd : ∀ q ∈ spl h (ls ++ h :: ms), q.length ≤ 100000 := fun q hq => by have := spl_plen hq; omega
  have dzz : dep (.lst ((spl h (ls ++ h :: ms)).map tupD)) < 3 := by have := deps_parts (spl h (ls ++ h :: ms)); rw [dep]; omega
  refine ⟨_, _, _, _, rfl, (((f2.same s3).same s4).same s5).at (by omega) bnd, fg5.at (by omega) bnd, dzz, fun b2 hb2 => ⟨_, rfl, ?_⟩⟩
  rw [hb2.mpr rfl]
  refine iteF ?_
  have s15 : Same H1 H5 := s2.trans (s3.trans (s4.trans s5))
  have s05 : Same H H5 := s1.trans s15
  have LZ5 := LZ.same s15
  have bls : ∀ l ∈ ls.reverse, 1 ≤ l ∧ l ≤ h := fun l q => bl l (List.mem_reverse.mp q)
  have bms : ∀ l ∈ ms.reverse, 1 ≤ l ∧ l ≤ h := fun l q => bm l (List.mem_reverse.mp q)
  refine ⟨_, rfl, z, dz, _, rfl, s15 _ _ hz, rfl, z, h, _, rfl, LZ5, hh, hle, bz, fun H6 w1 s6 _ LW => ?_⟩
  refine ⟨_, rfl, y, dy, _, rfl, s6 _ _ (s05 _ _ hy), rfl, y, h, ms, rfl, (LB.same s05).same s6, hh, by omega, bm, fun H7 u1 s7 _ LU => ?_⟩
  refine ⟨_, rfl, x, dx, _, rfl, s7 _ _ (s6 _ _ (s05 _ _ hx)), rfl, x, h, ls, rfl, ((LA.same s05).same s6).same s7, hh, by omega, bl, fun H8 v1 s8 _ LV => ?_⟩
  obtain ⟨du, _, _, hu1, _⟩ := id (LU.same s8)
  obtain ⟨dv, _, _, hv1, _⟩ := id LV
  refine ⟨u1, du, _, v1, dv, _, rfl, rfl, hu1, hv1, u1, v1, h, ms.reverse, ls.reverse, rfl, LU.same s8, LV, hh, bms, bls, by simp; omega, fun H9 q1 s9 _ LQ => ?_⟩
  have LW9 := ((LW.same s7).same s8).same s9
  obtain ⟨dw, _, _, hw1, _⟩ := id LW9
  obtain ⟨dq, _, _, hq1, _⟩ := id LQ
  refine ⟨w1, dw, _, q1, dq, _, rfl, rfl, hw1, hq1, w1, q1, h, h, _, _, rfl, LW9, LQ, ?_⟩
  have eRev : (ls ++ h :: ms).reverse = ms.reverse ++ h :: ls.reverse := by simp
  rw [show decide (h = h ∧ (ls ++ h :: ms).reverse = ms.reverse ++ h :: ls.reverse) = true by rw [eRev]; simp]
  refine ⟨_, rfl, iteF ?_⟩
  have s09 : Same H H9 := s05.trans (s6.trans (s7.trans (s8.trans s9)))
  have LZ9 := (((LZ5.same s6).same s7).same s8).same s9
  obtain ⟨dz9, _, _, hz9, _⟩ := id LZ9
  have hp9 := hp.same s09
  refine ⟨_, rfl, by decide, by decide, ?_⟩
  refine for_range (lo := 0) (n := 2) (fun i σ H' => Keep p H9 H' ∧ IsPool H' p ∧ ∃ z8 z9 z10 z11 z12 z13 z14 : Option V, σ = [some (.ref p), some (.ref x), some (.ref y), some (.ref a), some (.ref b), some (.ref c_), some (.int h), some (.ref z), z8, z9, z10, z11, z12, z13, z14]) ⟨Keep.refl, hp9, none, none, none, none, none, none, none, rfl⟩ ?_ ?_
  · rintro i σ H10 hi ⟨k10, p10, z8, z9, z10, z11, z12, z13, z14, rfl⟩
    have pl9 := hp9.some
    have h9a := s09 _ _ ha
    have h9b := s09 _ _ hb
    refine ⟨_, rfl, _, rfl, a, _, rfl, .inl (SqL.of (k10 _ nap _ h9a)), _, _, rfl, rfl, p, _, rfl, p10, by rw [List.length_map]; omega, by rw [List.length_map]; omega, fun one H11 o0 o1 k11 p11 => ?_⟩
    rw [List.length_map] at o1
    have kk11 := k10.trans k11
    refine ⟨_, rfl, a, _, rfl, .inl (SqL.of (kk11 _ nap _ h9a)), _, _, rfl, rfl, _, rfl, _, rfl, b, _, rfl, .inl (SqL.of (kk11 _ nbp _ h9b)), _, _, rfl, rfl, p, _, rfl, p11, by rw [List.length_map]; omega, by rw [List.length_map]; omega, fun wv H12 w0 w1 k12 p12 => ⟨_, _, rfl, rfl, ?_⟩⟩
    rw [List.length_map] at w1
    rw [List.length_map]
    have kk12 := kk11.trans k12
    have LZ12 := LZ9.keep kk12 pl9
    have hz12 := kk12 _ (ne_of hz9 pl9.choose_spec (by intro z; cases z)) _ hz9
    have hlen : (ls ++ h :: ms).length = ls.length + 1 + ms.length := by simp; omega
    have em : (ls ++ h :: ms)[ls.length]? = some h := by rw [List.getElem?_append_right (Nat.le_refl _), Nat.sub_self]; rfl
    have hz1 : ∀ l ∈ ls ++ h :: ms, 1 ≤ l := fun l q => (bz l q).1
    have hzh : ∀ l ∈ ls ++ h :: ms, l ≤ h := fun l q => (bz l q).2
    have g1 : gapI (ls ++ h :: ms) one ((ls.length : Int) + 1 + wv) = h := gapI_of hz1 o0 (by omega) (gap_level (by omega) hzh (m := ls.length) (by omega) (by omega) em)
    have g2 : gapI (ls ++ h :: ms) ((ls.length : Int) + 1 + wv) one = h := gapI_of hz1 (by omega) o0 (gap_level (by omega) hzh (m := ls.length) (by omega) (by omega) em)
    refine ⟨_, rfl, z, dz9, _, rfl, hz12, rfl, _, rfl, _, rfl, z, h, _, one, _, rfl, LZ12, by omega, ⟨by omega, by omega⟩, ⟨by omega, by omega⟩, fun Ha sa => ?_⟩
    rw [g1]
    refine ⟨_, rfl, _, _, _, _, rfl, .int _, .int _, Nat.succ_pos _, fun b hb0 => ⟨_, rfl, ?_⟩⟩
    rw [hb0.mpr rfl]
    refine iteF ?_
    refine ⟨_, rfl, z, dz9, _, rfl, sa _ _ hz12, rfl, _, rfl, _, rfl, z, h, _, _, one, rfl, LZ12.same sa, by omega, ⟨by omega, by omega⟩, ⟨by omega, by omega⟩, fun Hb sb => ?_⟩
    rw [g2]
    refine ⟨_, rfl, _, _, _, _, rfl, .int _, .int _, Nat.succ_pos _, fun b hb0 => ⟨_, rfl, ?_⟩⟩
    rw [hb0.mpr rfl]
    have sab := sa.trans sb
    exact iteF ⟨fun b n o e => sab _ _ (kk12 b n o e), p12.same sab, _, _, _, _, _, _, _, rfl⟩
  · rintro σ H10 ⟨k10, p10, z8, z9, z10, z11, z12, z13, z14, rfl⟩
    have pl9 := hp9.some
    have LA10 := (LA.same s09).keep k10 pl9
    have LB10 := (LB.same s09).keep k10 pl9
    have hx10 := k10 _ (ne_of (s09 _ _ hx) pl9.choose_spec (by intro z; cases z)) _ (s09 _ _ hx)
    have hy10 := k10 _ (ne_of (s09 _ _ hy) pl9.choose_spec (by intro z; cases z)) _ (s09 _ _ hy)
    have ha10 := k10 _ nap _ (s09 _ _ ha)
    have hb10 := k10 _ nbp _ (s09 _ _ hb)
    have hc10 := k10 _ ncp _ (s09 _ _ hc)
    refine ⟨_, rfl, _, rfl, (by show 1 ≤ sizeLine; decide), fun q1 hq1 => ?_⟩
    refine cat_lst ((same_new hq1) _ _ ha10) upd_same (by rw [List.length_map]; show ls.length + 1 ≤ _; omega) fun r1 H11 t1 _ hr1 => ?_
    have s11 : Same H10 H11 := (same_new hq1).trans t1
    refine ⟨_, rfl, ?_⟩
    refine cat_lst hr1 (s11 _ _ hb10) (by rw [List.length_append, List.length_map, List.length_map]; show ls.length + 1 + ms.length ≤ _; omega) fun r2 H12 t2 _ hr2 => ?_
    have s12 := s11.trans t2
    refine ⟨_, rfl, (by show 1 ≤ sizeLine; decide), fun q2 hq2 => ?_⟩
    refine cat_lst ((same_new hq2) _ _ hr2) upd_same (by rw [List.length_append, List.length_append, List.length_map, List.length_map]; show ls.length + 1 + ms.length + 1 ≤ _; omega) fun r3 H13 t3 _ hr3 => ?_
    have s13 : Same H10 H13 := (s12.trans (same_new hq2)).trans t3
    refine ⟨_, rfl, ?_⟩
    refine cat_lst hr3 (s13 _ _ hc10) (by rw [List.length_append, List.length_append, List.length_append, List.length_map, List.length_map, List.length_map]; show ls.length + 1 + ms.length + 1 + rs.length ≤ _; omega) fun r4 H14 t4 _ hr4 => ?_
    have er : ls.map V.int ++ [V.int h] ++ ms.map V.int ++ [V.int h] ++ rs.map V.int = ((ls ++ h :: ms) ++ h :: rs).map V.int := by simp
    rw [er] at hr4
    have s14 := s13.trans t4
    have fin : ∀ G, Same H14 G → Q (.bl true) G := fun G sg => kk G (fun b n o e => sg _ _ (s14 _ _ (k10 b n o (s09 _ _ e)))) ((p10.same s14).same sg)
    refine ⟨_, rfl, r4, _, rfl, .inl (SqL.of hr4), _, _, rfl, rfl, _, rfl, ?_⟩
    rw [List.length_map]
    refine ite2 (fun c => ?_) (fun _ => ?_)
    · have c := of_decide_eq_true c
      have c : ((ls ++ h :: ms) ++ h :: rs).length ≤ 24 := by omega
      have eA : (ls ++ h :: ms) ++ h :: rs = ls ++ h :: (ms ++ h :: rs) := by simp
      have c3 : (ms ++ h :: rs).length ≤ 24 := by rw [eA] at c; simp at c ⊢; omega
      refine ⟨_, rfl, _, rfl, c_, _, rfl, .inl (SqL.of (s14 _ _ hc10)), fun e1 he1 => ?_⟩
      have s15 : Same H14 (upd H14 e1 (.lst (rs.map V.int))) := same_new he1
      have he2 : (upd H14 e1 (.lst (rs.map V.int))) e1 = some (.lst (rs.map V.int)) := upd_same
      generalize upd H14 e1 (.lst (rs.map V.int)) = H15 at s15 he2 ⊢
      intro z3 dz3 hz3 hdz3 nz3
      have s16 : Same H15 (upd (upd H15 dz3 (.own z3)) z3 (.ins ζ.Ladder dz3 [])) := (same_new hdz3).new (by rw [upd_ne nz3.symm]; exact hz3)
      refine ⟨z3, e1, dz3, h, rs, rfl, upd_same, .inl (s16 _ _ he2), hh, hlr, br, fun H16 k16 L3 => ⟨rfl, ?_⟩⟩
      have s17 : Same H15 H16 := fun b o e => k16 b (ne_of_none e hz3) o (s16 b o e)
      have t16 := s15.trans s17
      have u16 := s14.trans t16
      obtain ⟨d3, _, _, h3, _⟩ := id L3
      refine ⟨_, rfl, _, rfl, x, dx, _, y, dy, _, rfl, rfl, u16 _ _ hx10, u16 _ _ hy10, x, y, h, ls, ms, rfl, LA10.same u16, LB10.same u16, hh, bl, bm, hle, fun Ha w1 sa _ LW1 => ?_⟩
      obtain ⟨dw1, _, _, hw1, _⟩ := id LW1
      refine ⟨_, rfl, w1, dw1, _, z3, d3, _, rfl, rfl, hw1, sa _ _ h3, w1, z3, h, ls ++ h :: ms, rs, rfl, LW1, L3.same sa, hh, bz, br, c, fun Hb lf sb _ LF => ?_⟩
      have tb := sa.trans sb
      have ub := u16.trans tb
      refine ⟨_, rfl, _, rfl, _, rfl, y, dy, _, z3, d3, _, rfl, rfl, ub _ _ hy10, tb _ _ h3, y, z3, h, ms, rs, rfl, LB10.same ub, L3.same tb, hh, bm, br, c3, fun Hc w2 sc _ LW2 => ?_⟩
      obtain ⟨dw2, _, _, hw2, _⟩ := id LW2
      have uc := ub.trans sc
      refine ⟨x, dx, _, w2, dw2, _, rfl, rfl, uc _ _ hx10, hw2, x, w2, h, ls, ms ++ h :: rs, rfl, LA10.same uc, LW2, hh, bl, bnd_cat hh bm br, by rw [← eA]; exact c, fun Hd rt sd _ LR => ?_⟩
      rw [← eA] at LR
      have LFd := (LF.same sc).same sd
      obtain ⟨dl, lt, _, hl1, hl2, _⟩ := id LFd
      obtain ⟨dr, rt2, _, hr1', hr2', _⟩ := id LR
      have ud := uc.trans sd
      have hr4d := (t16.trans (tb.trans (sc.trans sd))) _ _ hr4
      have l3 : (((ls ++ h :: ms) ++ h :: rs).map V.int).length ≤ 100000 := by rw [List.length_map]; omega
      refine ⟨_, rfl, lf, ζ.Ladder, dl, _, _, rfl, hl1, T.cl_Ladder, T.na_Ladder_levels, rfl, _, rfl, r4, _, rfl, .inl ⟨SqL.of hr4d, fun t ht => ?_⟩⟩
      have s18 : Same Hd (upd Hd t (.tup (((ls ++ h :: ms) ++ h :: rs).map V.int))) := same_new ht
      refine ⟨_, _, _, _, rfl, .tup (s18 _ _ hl2) (ats_ints _ _) l3, .tup upd_same (ats_ints _ _) l3, (by rw [dep, deps_ints]; decide), fun b hb0 => ⟨_, rfl, ?_⟩⟩
      rw [hb0.mpr rfl]
      refine iteF ?_
      generalize upd Hd t (.tup (((ls ++ h :: ms) ++ h :: rs).map V.int)) = He at s18 ⊢
      refine ⟨_, rfl, rt, ζ.Ladder, dr, _, _, rfl, s18 _ _ hr1', T.cl_Ladder, T.na_Ladder_levels, rfl, _, rfl, r4, _, rfl, .inl ⟨SqL.of (s18 _ _ hr4d), fun t ht => ?_⟩⟩
      have s19 : Same He (upd He t (.tup (((ls ++ h :: ms) ++ h :: rs).map V.int))) := same_new ht
      refine ⟨_, _, _, _, rfl, .tup (s19 _ _ (s18 _ _ hr2')) (ats_ints _ _) l3, .tup upd_same (ats_ints _ _) l3, (by rw [dep, deps_ints]; decide), fun b hb0 => ⟨_, rfl, ?_⟩⟩
      rw [hb0.mpr rfl]
      refine iteF ?_
      have s20 := s18.trans s19
      refine ⟨_, rfl, _, rfl, lf, dl, _, rt, dr, _, rfl, rfl, s20 _ _ hl1, s20 _ _ hr1', lf, rt, h, h, _, _, rfl, LFd.same s20, LR.same s20, ?_⟩
      rw [show decide (h = h ∧ (ls ++ h :: ms) ++ h :: rs = (ls ++ h :: ms) ++ h :: rs) = true by simp]
      exact ⟨_, rfl, iteF (fin _ ((t16.trans (tb.trans (sc.trans sd))).trans s20))⟩
    · exact fin _ (Same.refl _)
end
end LR

set_option Elab.async false
set_option maxRecDepth 100000
set_option linter.all false
set_option maxHeartbeats 4000000
namespace LR
open PySem PySem.Spec PyProof.Rows L2
section
variable {P : Program} {w : World} {K : PySem.W.Frag} {mg : Str → Option Value} {base : Heap} {ζ : Cs}
def spLevels : Sp := fun vs H Q _ => ∃ (p : Addr) (h lim : Int), vs = [.ref p, .int h, .int lim] ∧ IsPool H p ∧ (1 ≤ h ∧ h ≤ 1000) ∧ (0 ≤ lim ∧ lim ≤ 1000) ∧
  ∀ (H' : Hp) (D : Addr) (ls : List Int), Keep p H H' → IsPool H' p → H D = none → H' D = some (.lst (ls.map V.int)) → (ls.length : Int) ≤ lim → (∀ l ∈ ls, 1 ≤ l ∧ l ≤ h) → Q (.ref D) H'
theorem ok_levels (T : Txt P K mg ζ) : Cal P w K mg base 2 "_law_levels" spLevels := by
  have c_draw : Cal P w K mg base 1 "_law_draw" spDraw := ok_draw T
  refine T.d_levels.cal sc_levels (fun vs H Q E h => ?_) (fun f cdv A outer s H vs Q E hr h => ⟨_, pss_cons (ps_set (i := 3) sc_levels.nd rfl (Or.inl rfl) (pe_c c_draw hr (by first | decide | omega) (by rfl) (pa_cons (pv 0) (pa_cons (pe_op op_add (pv 2) (pe_int)) (pa_nil)))))
 (pss_one (ps_ret (pe_lc (own := [("index", 4)]) (g := gName 4) (tt := tYes)  rfl sc_levels.nd (pi_range1 rfl T.n_range (pa_cons (pv 3) (pa_nil))) (blkOk_by (N := N_levels) (sc := defScope s_levels) (by decide +kernel)) (fun _ _ _ _ _ => pg_name (i := 4) sc_levels.nd rfl (Or.inl rfl)) (fun _ _ _ _ _ => pts_nil) (fun _ _ _ _ _ => pe_op op_add (pe_int) (pe_c c_draw hr (by first | decide | omega) (by rfl) (pa_cons (pv 0) (pa_cons (pv 1) (pa_nil)))))))), ?_⟩)
  · obtain ⟨p, h, lim, rfl, _⟩ := h; rfl
  obtain ⟨p, h, lim, rfl, hp, ⟨h0, h1⟩, ⟨l0, l1⟩, kk⟩ := h
  refine ⟨_, rfl, _, rfl, _, _, rfl, rfl, p, _, rfl, hp, by omega, by omega, fun n H1 n0 n1 k1 p1 => ?_⟩
  refine ⟨_, rfl, _, rfl, by omega, by omega, fun D hD => ?_⟩
  have nD := p1.free hD
  have hD0 := k1.free nD hD
  refine lc_range (lo := 0) (n := n.toNat) (fun i H' => Keep p H H' ∧ IsPool H' p ∧ ∃ ls : List Int, H' D = some (.lst (ls.map V.int)) ∧ ls.length = i ∧ ∀ l ∈ ls, 1 ≤ l ∧ l ≤ h) ?_ ?_ ?_
  · exact ⟨k1.new hD, p1.same (same_new hD), [], upd_same, rfl, fun l z => by cases z⟩
  · rintro i H2 hi ⟨k2, p2, ls, h2, hl, hb⟩
    refine ⟨rfl, lc_yes (iteT ?_)⟩
    refine ⟨_, rfl, _, rfl, p, h, rfl, p2, by omega, by omega, fun v H3 v0 v1 k3 p3 => ?_⟩
    have h3 := k3 _ nD _ h2
    refine ⟨_, _, rfl, rfl, _, h3, (by rw [List.length_map, hl, sizeLine_eq]; omega), ?_, ?_, ls ++ [1 + v], ?_, by simp [hl], ?_⟩
    · intro b nb o e
      rw [upd_ne (ne_of_none e hD0)]
      exact k3 b nb o (k2 b nb o e)
    · obtain ⟨x, y, z, t, p3⟩ := p3
      exact ⟨x, y, z, t, by rw [upd_ne nD.symm, p3]⟩
    · rw [upd_same, List.map_append]; rfl
    · intro l hl
      rcases List.mem_append.mp hl with q | q
      · exact hb l q
      · have : l = 1 + v := by simpa using q
        omega
  · rintro H2 ⟨k2, p2, ls, h2, hl, hb⟩
    exact kk H2 D ls k2 p2 hD0 h2 (by omega) hb
end
end LR

set_option Elab.async false
set_option maxRecDepth 100000
set_option linter.all false
set_option maxHeartbeats 4000000
namespace LR
open PySem PySem.Spec PyProof.Rows L2
section
variable {P : Program} {w : World} {K : PySem.W.Frag} {mg : Str → Option Value} {base : Heap} {ζ : Cs}
abbrev lawLevel : Nat := 8
theorem ok_law (T : Txt P K mg ζ) {f : Addr} {fd : FuncData} (F : Fun K "law" "law" s_law f fd) : FnOk P w K mg base CX0 8 f fd ["script"] (spLaw K) := by
  have c_pool : Cal P w K mg base 1 "_law_pool" (spPool K) := ok_pool T
  have c_draw : Cal P w K mg base 1 "_law_draw" spDraw := ok_draw T
  have c_levels : Cal P w K mg base 2 "_law_levels" spLevels := ok_levels T
  have c_Ladder : Mak P w K mg base 2 "Ladder" ζ.Ladder (spInitS ζ.Ladder) := ok_initS T
  have c_pieces_good : Cal P w K mg base 6 "_law_pieces_good" (spPGood ζ.Ladder) := ok_pgood T
  have c_flips : Cal P w K mg base 5 "_law_flips" (spFlips ζ.Ladder) := ok_flips T
  have c_sum : Cal P w K mg base 7 "_law_sum" (spSum ζ.Ladder) := ok_sum T
  have c_sum_due : Cal P w K mg base 1 "_law_sum_due" spSumDue := ok_sumdue T
  have c_joined : Cal P w K mg base 6 "_law_joined" (spJoined ζ.Ladder) := ok_joined T
  have c_parts : Cal P w K mg base 1 "_law_parts" (spParts K) := ok_parts T
  have c_L_pieces : Met P w K mg base 1 ζ.Ladder "pieces" (spPieces ζ.Ladder) := ok_pieces T
  have c_same : Cal P w K mg base 5 "_law_same" (spSame 3) := ok_same T 3
  refine F.ok sc_law (fun vs H Q E h => ?_) (fun cdv A outer s H vs Q E hr h => ⟨_, pss_cons (ps_set (i := 1) sc_law.nd rfl (Or.inr rfl) (pe_c c_pool hr (by first | decide | omega) (by rfl) (pa_cons (pv 0) (pa_cons (pe_int) (pa_nil)))))
 (pss_cons (ps_set (i := 2) sc_law.nd rfl (Or.inr rfl) (pe_op op_add (pe_int) (pe_c c_draw hr (by first | decide | omega) (by rfl) (pa_cons (pv 1) (pa_cons (pe_int) (pa_nil))))))
 (pss_cons (ps_set (i := 3) sc_law.nd rfl (Or.inr rfl) (pv 2))
 (pss_cons (ps_set (i := 4) sc_law.nd rfl (Or.inl rfl) (pe_c c_draw hr (by first | decide | omega) (by rfl) (pa_cons (pv 1) (pa_cons (pe_int) (pa_nil)))))
 (pss_cut (ps_if (PW.pt (pw_or (pt_cmpR op_eq (pv 4) (pe_int) (nomark _)) (pw_or1 (pt_cmpR op_eq (pv 4) (pe_int) (nomark _)))))
 (pss_one (ps_set (i := 3) sc_law.nd rfl (Or.inr rfl) (pe_op op_add (pe_int) (pe_op op_mod (pe_callTy call_int1 (by rfl) T.n_int b_int (pa_cons (pe_op op_add (pv 2) (pe_c c_draw hr (by first | decide | omega) (by rfl) (pa_cons (pv 1) (pa_cons (pe_int) (pa_nil))))) (pa_nil))) (pe_int)))))
 (pss_nil))
 (pss_cons (ps_set (i := 5) sc_law.nd rfl (Or.inl rfl) (pe_c c_levels hr (by first | decide | omega) (by rfl) (pa_cons (pv 1) (pa_cons (pv 2) (pa_cons (pe_int) (pa_nil))))))
 (pss_cons (ps_set (i := 6) sc_law.nd rfl (Or.inl rfl) (pe_c c_levels hr (by first | decide | omega) (by rfl) (pa_cons (pv 1) (pa_cons (pv 3) (pa_cons (pe_int) (pa_nil))))))
 (pss_cut (ps_if (pt_cmpR op_gt (pv 4) (pe_int) (nomark _))
 (pss_cons (ps_setLc (i := 5) (own := [("index", 7)]) (g := gName 7) (tt := tYes)  rfl sc_law.nd rfl rfl (sw_true rfl rfl rfl (by decide +kernel)) (pi_range1 rfl T.n_range (pa_cons (pe_c c_draw hr (by first | decide | omega) (by rfl) (pa_cons (pv 1) (pa_cons (pe_int) (pa_nil)))) (pa_nil))) (blkOk_by (N := N_law) (sc := defScope s_law) (by decide +kernel)) (fun _ _ _ _ _ => pg_name (i := 7) sc_law.nd rfl (Or.inl rfl)) (fun _ _ _ _ _ => pts_nil) (fun _ _ _ _ _ => pe_op op_add (pe_int) (pe_c c_draw hr (by first | decide | omega) (by rfl) (pa_cons (pv 1) (pa_cons (pv 2) (pa_nil))))))
 (pss_cons (ps_set (i := 8) sc_law.nd rfl (Or.inl rfl) (pe_op op_add (pe_op op_sub (pe_int) (pe_callB call_len_seq (by rfl) T.n_len b_len (pa_cons (pv 5) (pa_nil)))) (pe_c c_draw hr (by first | decide | omega) (by rfl) (pa_cons (pv 1) (pa_cons (pe_int) (pa_nil))))))
 (pss_cut (ps_if (pt_cmpR op_eq (pv 4) (pe_int) (nomark _))
 (pss_one (ps_set (i := 8) sc_law.nd rfl (Or.inl rfl) (pe_c c_draw hr (by first | decide | omega) (by rfl) (pa_cons (pv 1) (pa_cons (pe_op op_add (pv 8) (pe_int)) (pa_nil))))))
 (pss_nil))
 (pss_one (ps_setLc (i := 6) (own := [("index", 7)]) (g := gName 7) (tt := tYes)  rfl sc_law.nd rfl rfl (sw_true rfl rfl rfl (by decide +kernel)) (pi_range1 rfl T.n_range (pa_cons (pv 8) (pa_nil))) (blkOk_by (N := N_law) (sc := defScope s_law) (by decide +kernel)) (fun _ _ _ _ _ => pg_name (i := 7) sc_law.nd rfl (Or.inl rfl)) (fun _ _ _ _ _ => pts_nil) (fun _ _ _ _ _ => pe_op op_add (pe_int) (pe_c c_draw hr (by first | decide | omega) (by rfl) (pa_cons (pv 1) (pa_cons (pv 3) (pa_nil))))))))))
 (pss_nil))
 (pss_cons (ps_set (i := 9) sc_law.nd rfl (Or.inl rfl) (pe_c c_levels hr (by first | decide | omega) (by rfl) (pa_cons (pv 1) (pa_cons (pv 2) (pa_cons (pe_int) (pa_nil))))))
 (pss_cons (ps_set (i := 10) sc_law.nd rfl (Or.inl rfl) (pe_mk c_Ladder hr (by first | decide | omega) (by rfl) (pa_cons (pv 2) (pa_cons (pe_callTy call_list_of (by rfl) T.n_list b_list (pa_cons (pv 5) (pa_nil))) (pa_nil)))))
 (pss_cons (ps_set (i := 11) sc_law.nd rfl (Or.inl rfl) (pe_mk c_Ladder hr (by first | decide | omega) (by rfl) (pa_cons (pv 3) (pa_cons (pe_callTy call_list_of (by rfl) T.n_list b_list (pa_cons (pv 6) (pa_nil))) (pa_nil)))))
 (pss_cons (ps_set (i := 1) sc_law.nd rfl (Or.inr rfl) (pe_c c_pool hr (by first | decide | omega) (by rfl) (pa_cons (pv 0) (pa_cons (pe_int) (pa_nil)))))
 (pss_cons (ps_if (PW.pt (pw_or (pt_not (pt_val (pe_c c_pieces_good hr (by first | decide | omega) (by rfl) (pa_cons (pv 1) (pa_cons (pv 10) (pa_cons (pv 5) (pa_cons (pv 2) (pa_nil)))))))) (pw_or1 (pt_not (pt_val (pe_c c_pieces_good hr (by first | decide | omega) (by rfl) (pa_cons (pv 1) (pa_cons (pv 11) (pa_cons (pv 6) (pa_cons (pv 3) (pa_nil)))))))))))
 (pss_one (ps_ret (pe_bl)))
 (pss_nil))
 (pss_cons (ps_if (PW.pt (pw_or (pt_not (pt_val (pe_c c_flips hr (by first | decide | omega) (by rfl) (pa_cons (pv 1) (pa_cons (pv 10) (pa_cons (pv 5) (pa_cons (pv 2) (pa_nil)))))))) (pw_or1 (pt_not (pt_val (pe_c c_flips hr (by first | decide | omega) (by rfl) (pa_cons (pv 1) (pa_cons (pv 11) (pa_cons (pv 6) (pa_cons (pv 3) (pa_nil)))))))))))
 (pss_one (ps_ret (pe_bl)))
 (pss_nil))
 (pss_cons (ps_set (i := 12) sc_law.nd rfl (Or.inl rfl) (pe_c c_sum_due hr (by first | decide | omega) (by rfl) (pa_cons (pv 2) (pa_cons (pv 5) (pa_cons (pv 3) (pa_cons (pv 6) (pa_nil)))))))
 (pss_cons (ps_if (pt_not (pt_val (pe_c c_same hr (by first | decide | omega) (by rfl) (pa_cons (pe_c c_sum hr (by first | decide | omega) (by rfl) (pa_cons (pv 10) (pa_cons (pv 11) (pa_nil)))) (pa_cons (pv 12) (pa_nil))))))
 (pss_one (ps_ret (pe_bl)))
 (pss_nil))
 (pss_cut (ps_if (PW.pt (pw_and (pt_cmpR op_eq (pe_ix ix_list (pv 12) (pe_int) (fun _ _ => rfl)) (pe_str) (nomark _)) (pw_and1 (pt_not (pt_val (pe_c c_joined hr (by first | decide | omega) (by rfl) (pa_cons (pv 1) (pa_cons (pv 10) (pa_cons (pv 11) (pa_cons (pv 5) (pa_cons (pv 6) (pa_cons (pv 9) (pa_cons (pv 2) (pa_nil))))))))))))))
 (pss_one (ps_ret (pe_bl)))
 (pss_nil))
 (pss_cons (ps_if (PW.pt (pw_or (pt_not (pt_val (pe_c c_same hr (by first | decide | omega) (by rfl) (pa_cons (pe_fld (pv 10) rfl) (pa_cons (pe_callTy call_tuple_of (by rfl) T.n_tuple b_tuple (pa_cons (pv 5) (pa_nil))) (pa_nil)))))) (pw_or1 (pt_not (pt_val (pe_c c_same hr (by first | decide | omega) (by rfl) (pa_cons (pe_fld (pv 11) rfl) (pa_cons (pe_callTy call_tuple_of (by rfl) T.n_tuple b_tuple (pa_cons (pv 6) (pa_nil))) (pa_nil)))))))))
 (pss_one (ps_ret (pe_bl)))
 (pss_nil))
 (pss_one (ps_ret (pe_and (pe_c c_same hr (by first | decide | omega) (by rfl) (pa_cons (pe_mt0 c_L_pieces hr (by first | decide | omega) (pv 10)) (pa_cons (pe_c c_parts hr (by first | decide | omega) (by rfl) (pa_cons (pv 5) (pa_cons (pv 2) (pa_nil)))) (pa_nil)))) (pe_one (pe_c c_same hr (by first | decide | omega) (by rfl) (pa_cons (pe_fld (pv 10) rfl) (pa_cons (pv 2) (pa_nil))))))))))))))))))))))))), ?_⟩)
  · obtain ⟨a, ns, rfl, _⟩ := h; rfl
  obtain ⟨a, ns, rfl, hS, kk⟩ := h
  refine ⟨_, rfl, a, ns, 0, rfl, hS, fun p x1 x2 x3 x4 hp => ?_⟩
  have p1 : IsPool (upd H p (.lst [.int x1, .int x2, .int x3, .int x4])) p := .upd
  have k1 : Keep p H (upd H p (.lst [.int x1, .int x2, .int x3, .int x4])) := Keep.refl.upd
  generalize upd H p (.lst [.int x1, .int x2, .int x3, .int x4]) = H1 at p1 k1 ⊢
  refine ⟨_, rfl, p, 3, rfl, p1, by decide, by decide, fun h0 H2 h00 h01 k2 p2 => ⟨_, _, rfl, rfl, ?_⟩⟩
  refine ⟨_, rfl, _, rfl, p, 8, rfl, p2, by decide, by decide, fun wy H3 w0 w1 k3 p3 => ?_⟩
  refine ⟨fun σ' H' => Keep p H H' ∧ IsPool H' p ∧ ∃ sz : Int, (sz = 1 ∨ sz = 2 ∨ sz = 3) ∧ σ' = [some (.ref a), some (.ref p), some (.int (1 + h0)), some (.int sz), some (.int wy), none, none, none, none, none, none, none, none], ?_, ?_⟩
  · have em : ∀ n : Int, decide (V.int wy = V.int n) = decide (wy = n) := fun n => by simp
    have go : ∀ H' : Hp, H' = H3 → (∀ Z : L2.St → Hp → Prop, True) := fun _ _ _ => trivial
    have k13 := (k1.trans k2).trans k3
    refine ⟨_, rfl, rfl, _, rfl, ?_⟩
    rw [em]
    refine ite_b (fun c => ?_) (fun c => ?_)
    · refine ⟨_, rfl, _, rfl, p, 2, rfl, p3, by decide, by decide, fun d H4 d0 d1 k4 p4 => ⟨_, _, rfl, rfl, .inl ⟨_, rfl, _, _, rfl, rfl, (by show (0:Int) < _; decide), _, _, rfl, rfl, ?_⟩⟩⟩
      exact ⟨k13.trans k4, p4, _, by omega, rfl⟩
    · refine ⟨_, rfl, rfl, _, rfl, ?_⟩
      rw [em]
      refine ite_b (fun c => ?_) (fun c => ?_)
      · refine ⟨_, rfl, _, rfl, p, 2, rfl, p3, by decide, by decide, fun d H4 d0 d1 k4 p4 => ⟨_, _, rfl, rfl, .inl ⟨_, rfl, _, _, rfl, rfl, (by show (0:Int) < _; decide), _, _, rfl, rfl, ?_⟩⟩⟩
        exact ⟨k13.trans k4, p4, _, by omega, rfl⟩
      · exact ⟨k13, p3, 1 + h0, by omega, rfl⟩
  rintro σ' H4 ⟨k4, p4, sz, hsz, rfl⟩
  refine ⟨_, rfl, _, rfl, p, _, 6, rfl, p4, ⟨by omega, by omega⟩, ⟨by decide, by decide⟩, fun H5 D0 ls0 k5 p5 hD0 h5 hl5 hb5 => ?_⟩
  refine ⟨_, rfl, _, rfl, p, _, 6, rfl, p5, ⟨by omega, by omega⟩, ⟨by decide, by decide⟩, fun H6 E0 ms0 k6 p6 hE0 h6 hl6 hb6 => ?_⟩
  have nD0 : D0 ≠ p := p4.free hD0
  have nE0 : E0 ≠ p := p5.free hE0
  have k46 := (k4.trans k5).trans k6
  refine ⟨fun σ' H' => Keep p H H' ∧ IsPool H' p ∧ ∃ (D E : Addr) (ls ms : List Int), D ≠ p ∧ E ≠ p ∧ H' D = some (.lst (ls.map V.int)) ∧ H' E = some (.lst (ms.map V.int)) ∧ ls.length ≤ 24 ∧ ms.length ≤ 24 ∧ (∀ l ∈ ls, 1 ≤ l ∧ l ≤ 1 + h0) ∧ (∀ l ∈ ms, 1 ≤ l ∧ l ≤ sz) ∧
    ∃ z7 z8 : Option V, σ' = [some (.ref a), some (.ref p), some (.int (1 + h0)), some (.int sz), some (.int wy), some (.ref D), some (.ref E), z7, z8, none, none, none, none], ?_, ?_⟩
  · refine ⟨_, rfl, _, _, rfl, rfl, _, rfl, ?_⟩
    refine ite2 (fun c => ?_) (fun c => ⟨k46, p6, D0, E0, ls0, ms0, nD0, nE0, k6 _ nD0 _ h5, h6, by omega, by omega, hb5, hb6, none, none, rfl⟩)
    refine ⟨_, rfl, p, 24, rfl, p6, by decide, by decide, fun n H7 n0 n1 k7 p7 => ?_⟩
    refine ⟨_, rfl, by omega, by omega, fun D hD => ?_⟩
    have nD : D ≠ p := p7.free hD
    have comp : ∀ (hh : Int) (G0 : Hp) (DD : Addr), 1 ≤ hh → G0 DD = none → DD ≠ p → ∀ (i : Nat) (G1 : Hp) (W0 : Nat → Hp → Prop), True := fun _ _ _ _ _ _ _ _ _ => trivial
    refine lc_range (lo := 0) (n := n.toNat) (fun i H' => Keep p H7 H' ∧ IsPool H' p ∧ ∃ ls : List Int, H' D = some (.lst (ls.map V.int)) ∧ ls.length = i ∧ ∀ l ∈ ls, 1 ≤ l ∧ l ≤ 1 + h0) ?_ ?_ ?_
    · exact ⟨Keep.refl.new hD, p7.same (same_new hD), [], upd_same, rfl, fun l z => by cases z⟩
    · rintro i H8 hi ⟨k8, p8, ls, h8, hl, hb⟩
      refine ⟨rfl, lc_yes (iteT ?_)⟩
      refine ⟨_, rfl, _, rfl, p, _, rfl, p8, by omega, by omega, fun v H9 v0 v1 k9 p9 => ?_⟩
      have h9 := k9 _ nD _ h8
      refine ⟨_, _, rfl, rfl, _, h9, (by rw [List.length_map, hl, sizeLine_eq]; omega), fun b nb o e => ?_, ?_, ls ++ [1 + v], ?_, by simp [hl], ?_⟩
      · rw [upd_ne (ne_of_none e hD)]
        exact k9 b nb o (k8 b nb o e)
      · obtain ⟨x, y, z, t, p9⟩ := p9
        exact ⟨x, y, z, t, by rw [upd_ne nD.symm, p9]⟩
      · rw [upd_same, List.map_append]; rfl
      · intro l hl
        rcases List.mem_append.mp hl with q | q
        · exact hb l q
        · have : l = 1 + v := by simpa using q
          omega
    rintro H8 ⟨k8, p8, ls, h8, hl, hb⟩
    refine ⟨_, rfl, D, _, rfl, .inl (SqL.of h8), _, _, rfl, rfl, _, rfl, p, 2, rfl, p8, by decide, by decide, fun d H9 d0 d1 k9 p9 => ⟨_, _, rfl, rfl, ?_⟩⟩
    rw [List.length_map]
    have h9 := k9 _ nD _ h8
    refine ⟨fun σ' H' => Keep p H9 H' ∧ IsPool H' p ∧ ∃ ct : Int, (0 ≤ ct ∧ ct ≤ 24) ∧ σ' = [some (.ref a), some (.ref p), some (.int (1 + h0)), some (.int sz), some (.int wy), some (.ref D), some (.ref E0), none, some (.int ct), none, none, none, none], ?_, ?_⟩
    · refine ⟨_, rfl, rfl, _, rfl, ite_b (fun c6 => ?_) (fun c6 => ⟨Keep.refl, p9, _, ⟨by omega, by omega⟩, rfl⟩)⟩
      refine ⟨_, rfl, _, rfl, _, _, rfl, rfl, p, _, rfl, p9, by omega, by omega, fun d2 H10 e0 e1 k10 p10 => ?_⟩
      exact ⟨k10, p10, _, ⟨by omega, by omega⟩, rfl⟩
    rintro σ' H10 ⟨k10, p10, ct, ⟨c0, c1⟩, rfl⟩
    have h10 := k10 _ nD _ h9
    refine ⟨_, rfl, _, rfl, by omega, by omega, fun E2 hE2 => ?_⟩
    have nE2 : E2 ≠ p := p10.free hE2
    refine lc_range (lo := 0) (n := ct.toNat) (fun i H' => Keep p H10 H' ∧ IsPool H' p ∧ ∃ ms : List Int, H' E2 = some (.lst (ms.map V.int)) ∧ ms.length = i ∧ ∀ l ∈ ms, 1 ≤ l ∧ l ≤ sz) ?_ ?_ ?_
    · exact ⟨Keep.refl.new hE2, p10.same (same_new hE2), [], upd_same, rfl, fun l z => by cases z⟩
    · rintro i H11 hi ⟨k11, p11, ms, h11, hm, hbm⟩
      refine ⟨rfl, lc_yes (iteT ?_)⟩
      refine ⟨_, rfl, _, rfl, p, _, rfl, p11, by omega, by omega, fun v H12 v0 v1 k12 p12 => ?_⟩
      have h12 := k12 _ nE2 _ h11
      refine ⟨_, _, rfl, rfl, _, h12, (by rw [List.length_map, hm, sizeLine_eq]; omega), fun b nb o e => ?_, ?_, ms ++ [1 + v], ?_, by simp [hm], ?_⟩
      · rw [upd_ne (ne_of_none e hE2)]
        exact k12 b nb o (k11 b nb o e)
      · obtain ⟨x, y, z, t, p12⟩ := p12
        exact ⟨x, y, z, t, by rw [upd_ne nE2.symm, p12]⟩
      · rw [upd_same, List.map_append]; rfl
      · intro l hl
        rcases List.mem_append.mp hl with q | q
        · exact hbm l q
        · have : l = 1 + v := by simpa using q
          omega
    · rintro H11 ⟨k11, p11, ms, h11, hm, hbm⟩
      exact ⟨((((k46.trans k7).trans k8).trans k9).trans k10).trans k11, p11, D, E2, ls, ms, nD, nE2, k11 _ nD _ h10, h11, by omega, by omega, hb, hbm, none, _, rfl⟩
  rintro σ' H7 ⟨k7, p7, D, E1, ls, ms, nD, nE, hD, hE, hl, hm, hb, hbm, z7, z8, rfl⟩
  refine ⟨_, rfl, _, rfl, p, _, 6, rfl, p7, ⟨by omega, by omega⟩, ⟨by decide, by decide⟩, fun H8 R rs k8 p8 hR h8 hlr hbr => ?_⟩
  have nR : R ≠ p := p7.free hR
  have k78 := k7.trans k8
  have hD8 := k8 _ nD _ hD
  have hE8 := k8 _ nE _ hE
  refine ⟨_, rfl, _, rfl, D, _, rfl, .inl (SqL.of hD8), fun e1 he1 => ?_⟩
  have s9 : Same H8 (upd H8 e1 (.lst (ls.map V.int))) := same_new he1
  have he2 : (upd H8 e1 (.lst (ls.map V.int))) e1 = some (.lst (ls.map V.int)) := upd_same
  generalize upd H8 e1 (.lst (ls.map V.int)) = H9 at s9 he2 ⊢
  intro x dx nx ndx nex
  have s10 : Same H9 (upd (upd H9 dx (.own x)) x (.ins ζ.Ladder dx [])) := (same_new ndx).new (by rw [upd_ne nex.symm]; exact nx)
  refine ⟨x, e1, dx, 1 + h0, ls, rfl, upd_same, .inl (s10 _ _ he2), by omega, hl, hb, fun H10 k10 LA => ⟨rfl, ?_⟩⟩
  have s11 : Same H9 H10 := fun b o e => k10 b (ne_of_none e nx) o (s10 b o e)
  have s8 := s9.trans s11
  refine ⟨_, rfl, _, rfl, E1, _, rfl, .inl (SqL.of (s8 _ _ hE8)), fun f1 hf1 => ?_⟩
  have s12 : Same H10 (upd H10 f1 (.lst (ms.map V.int))) := same_new hf1
  have hf2 : (upd H10 f1 (.lst (ms.map V.int))) f1 = some (.lst (ms.map V.int)) := upd_same
  generalize upd H10 f1 (.lst (ms.map V.int)) = H11 at s12 hf2 ⊢
  intro y dy ny ndy ney
  have s13 : Same H11 (upd (upd H11 dy (.own y)) y (.ins ζ.Ladder dy [])) := (same_new ndy).new (by rw [upd_ne ney.symm]; exact ny)
  refine ⟨y, f1, dy, sz, ms, rfl, upd_same, .inl (s13 _ _ hf2), hsz, hm, hbm, fun H12 k12 LB => ⟨rfl, ?_⟩⟩
  have s14 : Same H11 H12 := fun b o e => k12 b (ne_of_none e ny) o (s13 b o e)
  have t12 := s12.trans s14
  have u12 := s8.trans t12
  have kH := k78.same u12
  refine ⟨_, rfl, a, ns, 1, rfl, seq_after hS hp kH, fun q y1 y2 y3 y4 hq => ?_⟩
  have s15 : Same H12 (upd H12 q (.lst [.int y1, .int y2, .int y3, .int y4])) := same_new hq
  have q1 : IsPool (upd H12 q (.lst [.int y1, .int y2, .int y3, .int y4])) q := .upd
  have nDq : D ≠ q := ne_of_none (u12 _ _ hD8) hq
  have nEq : E1 ≠ q := ne_of_none (u12 _ _ hE8) hq
  have nRq : R ≠ q := ne_of_none (u12 _ _ h8) hq
  have hDq := s15 _ _ (u12 _ _ hD8)
  have hEq := s15 _ _ (u12 _ _ hE8)
  have hRq := s15 _ _ (u12 _ _ h8)
  have LAq := (LA.same t12).same s15
  have LBq := LB.same s15
  generalize upd H12 q (.lst [.int y1, .int y2, .int y3, .int y4]) = G at s15 q1 hDq hEq hRq LAq LBq ⊢
  refine ⟨_, rfl, _, rfl, _, rfl, _, rfl, q, x, D, 1 + h0, ls, rfl, q1, LAq, hDq, nDq, by omega, hl, hb, fun G1 g1 r1 => ⟨_, rfl, iteF ?_⟩⟩
  refine ⟨_, rfl, _, rfl, _, rfl, _, rfl, q, y, E1, sz, ms, rfl, r1, LBq.keep g1 q1.some, g1 _ nEq _ hEq, nEq, hsz, hm, hbm, fun G2 g2 r2 => ⟨_, rfl, iteF ?_⟩⟩
  have k02 := g1.trans g2
  refine ⟨_, rfl, _, rfl, _, rfl, _, rfl, q, x, D, 1 + h0, ls, rfl, r2, LAq.keep k02 q1.some, k02 _ nDq _ hDq, nDq, by omega, hl, hb, fun G3 g3 r3 => ⟨_, rfl, iteF ?_⟩⟩
  have k03 := k02.trans g3
  refine ⟨_, rfl, _, rfl, _, rfl, _, rfl, q, y, E1, sz, ms, rfl, r3, LBq.keep k03 q1.some, k03 _ nEq _ hEq, nEq, hsz, hm, hbm, fun G4 g4 r4 => ⟨_, rfl, iteF ?_⟩⟩
  have k04 := k03.trans g4
  have hD4 := k04 _ nDq _ hDq
  have hE4 := k04 _ nEq _ hEq
  have hR4 := k04 _ nRq _ hRq
  have LA4 := LAq.keep k04 q1.some
  have LB4 := LBq.keep k04 q1.some
  refine ⟨_, rfl, _, rfl, _, rfl, _, rfl, D, E1, 1 + h0, sz, ls, ms, rfl, hD4, hE4, by omega, by omega, fun due G5 rst g5 _ hdue adue => ?_⟩
  refine ⟨_, rfl, _, rfl, x, y, 1 + h0, sz, ls, ms, rfl, LA4.same g5, LB4.same g5, by omega, hsz, hl, hm, hb, hbm, fun sm G6 g6 asm => ?_⟩
  refine ⟨_, rfl, _, _, _, _, rfl, asm, adue.same g6, sum_dep, fun b hb0 => ⟨_, rfl, ?_⟩⟩
  rw [hb0.mpr rfl]
  refine iteF ?_
  have t6 := g5.trans g6
  have hdue6 := g6 _ _ hdue
  have r6 := r4.same t6
  have LA6 := LA4.same t6
  have LB6 := LB4.same t6
  have hD6 := t6 _ _ hD4
  have hE6 := t6 _ _ hE4
  have hR6 := t6 _ _ hR4
  obtain ⟨xa, xl, xc, hxa, hxl, _⟩ := id LA6
  obtain ⟨ya, yl, yc, hya, hyl, _⟩ := id LB6
  refine ⟨fun σ' H' => Keep q G6 H' ∧ IsPool H' q ∧ σ' = [some (.ref a), some (.ref q), some (.int (1 + h0)), some (.int sz), some (.int wy), some (.ref D), some (.ref E1), z7, z8, some (.ref R), some (.ref x), some (.ref y), some (.ref due)], ?_, ?_⟩
  · refine ⟨_, rfl, due, _, _, .str (sumT (1 + h0) sz ls ms), rfl, rfl, SqL.of hdue6, atI_nat (j := 0) rfl, rfl, _, rfl, ?_⟩
    refine ite2 (fun c => ?_) (fun c => ⟨Keep.refl, r6, rfl⟩)
    have c := of_decide_eq_true c
    injection c with c
    have e1 : 1 + h0 = sz := by
      apply Classical.byContradiction; intro ne
      unfold sumT at c; rw [if_pos ne] at c; revert c; decide +kernel
    have e2 : ¬ 24 < (ls ++ (1 + h0) :: ms).length := by
      intro gt
      unfold sumT at c; rw [if_neg (fun z => z e1), if_pos gt] at c; revert c; decide +kernel
    refine ⟨_, rfl, _, rfl, _, rfl, _, rfl, _, rfl, _, rfl, _, rfl, q, x, y, D, E1, R, 1 + h0, ls, ms, rs, rfl, r6, LA6, (by rw [e1]; exact LB6), hD6, hE6, hR6, nDq, nEq, nRq, by omega, by omega, by omega, hb, (by rw [e1]; exact hbm), hbr, fun G7 g7 r7 => ⟨_, rfl, ?_⟩⟩
    exact iteF ⟨g7, r7, rfl⟩
  rintro σ' G7 ⟨g7, r7, rfl⟩
  have pq6 := r6.some
  have LA7 := LA6.keep g7 pq6
  have LB7 := LB6.keep g7 pq6
  have hD7 := g7 _ nDq _ hD6
  have hE7 := g7 _ nEq _ hE6
  obtain ⟨xa, xl, xc, hxa, hxl, _⟩ := id LA7
  obtain ⟨ya, yl, yc, hya, hyl, _⟩ := id LB7
  have l1 : (ls.map V.int).length ≤ 100000 := by rw [List.length_map]; omega
  have l2 : (ms.map V.int).length ≤ 100000 := by rw [List.length_map]; omega
  refine ⟨_, rfl, x, ζ.Ladder, xa, _, _, rfl, hxa, T.cl_Ladder, T.na_Ladder_levels, rfl, _, rfl, D, _, rfl, .inl ⟨SqL.of hD7, fun t ht => ?_⟩⟩
  have s20 : Same G7 (upd G7 t (.tup (ls.map V.int))) := same_new ht
  refine ⟨_, _, _, _, rfl, .tup (s20 _ _ hxl) (ats_ints _ _) l1, .tup upd_same (ats_ints _ _) l1, (by rw [dep, deps_ints]; decide), fun b hb0 => ⟨_, rfl, ?_⟩⟩
  rw [hb0.mpr rfl]
  refine iteF ?_
  generalize upd G7 t (.tup (ls.map V.int)) = G8 at s20 ⊢
  refine ⟨_, rfl, y, ζ.Ladder, ya, _, _, rfl, s20 _ _ hya, T.cl_Ladder, T.na_Ladder_levels, rfl, _, rfl, E1, _, rfl, .inl ⟨SqL.of (s20 _ _ hE7), fun t ht => ?_⟩⟩
  have s21 : Same G8 (upd G8 t (.tup (ms.map V.int))) := same_new ht
  refine ⟨_, _, _, _, rfl, .tup (s21 _ _ (s20 _ _ hyl)) (ats_ints _ _) l2, .tup upd_same (ats_ints _ _) l2, (by rw [dep, deps_ints]; decide), fun b hb0 => ⟨_, rfl, ?_⟩⟩
  rw [hb0.mpr rfl]
  refine iteF ?_
  generalize upd G8 t (.tup (ms.map V.int)) = G9 at s21 ⊢
  have s79 := s20.trans s21
  have LA9 := LA7.same s79
  have sl := spl_len (1 + h0) ls
  have bnd : ∀ r ∈ spl (1 + h0) ls, r.length ≤ 100000 := fun r hr => by have := spl_plen hr; omega
  refine ⟨_, rfl, x, xa, _, rfl, s79 _ _ hxa, rfl, x, 1 + h0, ls, rfl, LA9, by omega, fun Ga D2 sa _ fa => ?_⟩
  refine ⟨_, rfl, _, rfl, D, ls, 1 + h0, rfl, sa _ _ (s79 _ _ hD7), by omega, fun Gb P2 sb _ fb => ?_⟩
  refine ⟨_, _, _, _, rfl, (fa.same sb).at (by omega) bnd, fb.at (by omega) bnd, (by have := deps_parts (spl (1 + h0) ls); rw [dep]; omega), fun b hb0 => ⟨true, by rw [hb0.mpr rfl], ?_⟩⟩
  refine iteT ⟨_, rfl, x, ζ.Ladder, xa, _, _, rfl, sb _ _ (sa _ _ (s79 _ _ hxa)), T.cl_Ladder, T.na_Ladder_height, rfl, _, rfl, _, _, _, _, rfl, .int _, .int _, Nat.succ_pos _, fun b hb0 => ?_⟩
  rw [hb0.mpr rfl]
  exact kk _
end
end LR

set_option Elab.async false
set_option maxRecDepth 100000
set_option linter.all false
set_option maxHeartbeats 4000000
namespace LR
open PySem PySem.Spec PyProof.Rows L2
theorem all_mk {P : Program} {K : PySem.W.Frag} {h : Heap} {mg : Str → Option Value} (X : K.In h) (G : h.Ns mainGlobals mg)
    {od_check_height an_check_height : Option Addr} {sl_check_height : Array (Option Value)} {oc_check_height kV_check_height dc_check_height pm_check_height ct_check_height : Value} {f_check_height : Addr} {cd_check_height : Value} {od_check_same_height an_check_same_height : Option Addr} {sl_check_same_height : Array (Option Value)} {oc_check_same_height kV_check_same_height dc_check_same_height pm_check_same_height ct_check_same_height : Value} {f_check_same_height : Addr} {cd_check_same_height : Value} {od_check_row an_check_row : Option Addr} {sl_check_row : Array (Option Value)} {oc_check_row kV_check_row dc_check_row pm_check_row ct_check_row : Value} {f_check_row : Addr} {cd_check_row : Value} {od_check_step an_check_step : Option Addr} {sl_check_step : Array (Option Value)} {oc_check_step kV_check_step dc_check_step pm_check_step ct_check_step : Value} {f_check_step : Addr} {cd_check_step : Value} {od__counts_from an__counts_from : Option Addr} {sl__counts_from : Array (Option Value)} {oc__counts_from kV__counts_from dc__counts_from pm__counts_from ct__counts_from : Value} {f__counts_from : Addr} {cd__counts_from : Value} {od_pool an_pool : Option Addr} {sl_pool : Array (Option Value)} {oc_pool kV_pool dc_pool pm_pool ct_pool : Value} {f_pool : Addr} {cd_pool : Value} {od_draw an_draw : Option Addr} {sl_draw : Array (Option Value)} {oc_draw kV_draw dc_draw pm_draw ct_draw : Value} {f_draw : Addr} {cd_draw : Value} {od_levels an_levels : Option Addr} {sl_levels : Array (Option Value)} {oc_levels kV_levels dc_levels pm_levels ct_levels : Value} {f_levels : Addr} {cd_levels : Value} {od_number an_number : Option Addr} {sl_number : Array (Option Value)} {oc_number kV_number dc_number pm_number ct_number : Value} {f_number : Addr} {cd_number : Value} {od_same an_same : Option Addr} {sl_same : Array (Option Value)} {oc_same kV_same dc_same pm_same ct_same : Value} {f_same : Addr} {cd_same : Value} {od_gap an_gap : Option Addr} {sl_gap : Array (Option Value)} {oc_gap kV_gap dc_gap pm_gap ct_gap : Value} {f_gap : Addr} {cd_gap : Value} {od_parts an_parts : Option Addr} {sl_parts : Array (Option Value)} {oc_parts kV_parts dc_parts pm_parts ct_parts : Value} {f_parts : Addr} {cd_parts : Value} {od_part_of an_part_of : Option Addr} {sl_part_of : Array (Option Value)} {oc_part_of kV_part_of dc_part_of pm_part_of ct_part_of : Value} {f_part_of : Addr} {cd_part_of : Value} {od_pieces_good an_pieces_good : Option Addr} {sl_pieces_good : Array (Option Value)} {oc_pieces_good kV_pieces_good dc_pieces_good pm_pieces_good ct_pieces_good : Value} {f_pieces_good : Addr} {cd_pieces_good : Value} {od_flips an_flips : Option Addr} {sl_flips : Array (Option Value)} {oc_flips kV_flips dc_flips pm_flips ct_flips : Value} {f_flips : Addr} {cd_flips : Value} {od_sum an_sum : Option Addr} {sl_sum : Array (Option Value)} {oc_sum kV_sum dc_sum pm_sum ct_sum : Value} {f_sum : Addr} {cd_sum : Value} {od_sum_due an_sum_due : Option Addr} {sl_sum_due : Array (Option Value)} {oc_sum_due kV_sum_due dc_sum_due pm_sum_due ct_sum_due : Value} {f_sum_due : Addr} {cd_sum_due : Value} {od_joined an_joined : Option Addr} {sl_joined : Array (Option Value)} {oc_joined kV_joined dc_joined pm_joined ct_joined : Value} {f_joined : Addr} {cd_joined : Value} {od_law an_law : Option Addr} {sl_law : Array (Option Value)} {oc_law kV_law dc_law pm_law ct_law : Value} {f_law : Addr} {cd_law : Value} {C_Ladder : Addr} {od_L_init an_L_init : Option Addr} {sl_L_init : Array (Option Value)} {oc_L_init kV_L_init dc_L_init pm_L_init ct_L_init : Value} {f_L_init : Addr} {cd_L_init : Value} {od_L_gap an_L_gap : Option Addr} {sl_L_gap : Array (Option Value)} {oc_L_gap kV_L_gap dc_L_gap pm_L_gap ct_L_gap : Value} {f_L_gap : Addr} {cd_L_gap : Value} {od_L_high an_L_high : Option Addr} {sl_L_high : Array (Option Value)} {oc_L_high kV_L_high dc_L_high pm_L_high ct_L_high : Value} {f_L_high : Addr} {cd_L_high : Value} {od_L_add an_L_add : Option Addr} {sl_L_add : Array (Option Value)} {oc_L_add kV_L_add dc_L_add pm_L_add ct_L_add : Value} {f_L_add : Addr} {cd_L_add : Value} {od_L_eq an_L_eq : Option Addr} {sl_L_eq : Array (Option Value)} {oc_L_eq kV_L_eq dc_L_eq pm_L_eq ct_L_eq : Value} {f_L_eq : Addr} {cd_L_eq : Value} {od_L_pieces an_L_pieces : Option Addr} {sl_L_pieces : Array (Option Value)} {oc_L_pieces kV_L_pieces dc_L_pieces pm_L_pieces ct_L_pieces : Value} {f_L_pieces : Addr} {cd_L_pieces : Value} {od_L_flipped an_L_flipped : Option Addr} {sl_L_flipped : Array (Option Value)} {oc_L_flipped kV_L_flipped dc_L_flipped pm_L_flipped ct_L_flipped : Value} {f_L_flipped : Addr} {cd_L_flipped : Value} {u_Ladder_MOST_LEVELS : Value} {C_BadLevel : Addr} {nm_BadLevel qn_BadLevel : Str} {ns_BadLevel : Addr} {bs_BadLevel bm_BadLevel sb_BadLevel : List Value} {sn_BadLevel : List Str} {ab_BadLevel : Bool} {co_BadLevel : Option Bool} {dd_BadLevel : Option Addr} {k0_BadLevel k1_BadLevel k2_BadLevel k3_BadLevel k5_BadLevel : Option Value} {od_BadLevel_init an_BadLevel_init : Option Addr} {sl_BadLevel_init : Array (Option Value)} {oc_BadLevel_init kV_BadLevel_init dc_BadLevel_init pm_BadLevel_init ct_BadLevel_init : Value} {f_BadLevel_init : Addr} {cda_BadLevel_init cc_BadLevel_init : Addr} {ccl_BadLevel_init : Value} {cdd_BadLevel_init : Option Addr} {cvs_BadLevel_init : Array Value} {ccs_BadLevel_init : Array (Option Value)} {cfi_BadLevel_init : Str} {ctf_BadLevel_init : Tok} {ecl_BadLevel_init : Value} {eld_BadLevel_init : Option Addr} {esl_BadLevel_init : Array (Option Value)} {C_NoSuchStep : Addr} {nm_NoSuchStep qn_NoSuchStep : Str} {ns_NoSuchStep : Addr} {bs_NoSuchStep bm_NoSuchStep sb_NoSuchStep : List Value} {sn_NoSuchStep : List Str} {ab_NoSuchStep : Bool} {co_NoSuchStep : Option Bool} {dd_NoSuchStep : Option Addr} {k0_NoSuchStep k1_NoSuchStep k2_NoSuchStep k3_NoSuchStep k5_NoSuchStep : Option Value} {od_NoSuchStep_init an_NoSuchStep_init : Option Addr} {sl_NoSuchStep_init : Array (Option Value)} {oc_NoSuchStep_init kV_NoSuchStep_init dc_NoSuchStep_init pm_NoSuchStep_init ct_NoSuchStep_init : Value} {f_NoSuchStep_init : Addr} {cda_NoSuchStep_init cc_NoSuchStep_init : Addr} {ccl_NoSuchStep_init : Value} {cdd_NoSuchStep_init : Option Addr} {cvs_NoSuchStep_init : Array Value} {ccs_NoSuchStep_init : Array (Option Value)} {cfi_NoSuchStep_init : Str} {ctf_NoSuchStep_init : Tok} {ecl_NoSuchStep_init : Value} {eld_NoSuchStep_init : Option Addr} {esl_NoSuchStep_init : Array (Option Value)} {C_NoSuchLevel : Addr} {nm_NoSuchLevel qn_NoSuchLevel : Str} {ns_NoSuchLevel : Addr} {bs_NoSuchLevel bm_NoSuchLevel sb_NoSuchLevel : List Value} {sn_NoSuchLevel : List Str} {ab_NoSuchLevel : Bool} {co_NoSuchLevel : Option Bool} {dd_NoSuchLevel : Option Addr} {k0_NoSuchLevel k1_NoSuchLevel k2_NoSuchLevel k3_NoSuchLevel k5_NoSuchLevel : Option Value} {od_NoSuchLevel_init an_NoSuchLevel_init : Option Addr} {sl_NoSuchLevel_init : Array (Option Value)} {oc_NoSuchLevel_init kV_NoSuchLevel_init dc_NoSuchLevel_init pm_NoSuchLevel_init ct_NoSuchLevel_init : Value} {f_NoSuchLevel_init : Addr} {cda_NoSuchLevel_init cc_NoSuchLevel_init : Addr} {ccl_NoSuchLevel_init : Value} {cdd_NoSuchLevel_init : Option Addr} {cvs_NoSuchLevel_init : Array Value} {ccs_NoSuchLevel_init : Array (Option Value)} {cfi_NoSuchLevel_init : Str} {ctf_NoSuchLevel_init : Tok} {ecl_NoSuchLevel_init : Value} {eld_NoSuchLevel_init : Option Addr} {esl_NoSuchLevel_init : Array (Option Value)} {C_TooLarge : Addr} {C_HeightMismatch : Addr} {C_LadderreachError : Addr} {C_BadHeight : Addr} {C_ShapeMismatch : Addr} {C_GameError : Addr}
    (z_super : PySem.W.nsIn K mainGlobals "super" = some none)
    (z_any : PySem.W.nsIn K cStatics "thirdparty.any" = some none)
    (z_top : (P.main.scope.names.lookup ("super" : Str)).isSome = false)
    (z_len : PySem.W.nsIn K mainGlobals "len" = some none)
    (z_abs : PySem.W.nsIn K mainGlobals "abs" = some none)
    (z_max : PySem.W.nsIn K mainGlobals "max" = some none)
    (z_min : PySem.W.nsIn K mainGlobals "min" = some none)
    (z_isinstance : PySem.W.nsIn K mainGlobals "isinstance" = some none)
    (z_int : PySem.W.nsIn K mainGlobals "int" = some none)
    (z_bool : PySem.W.nsIn K mainGlobals "bool" = some none)
    (z_str : PySem.W.nsIn K mainGlobals "str" = some none)
    (z_list : PySem.W.nsIn K mainGlobals "list" = some none)
    (z_tuple : PySem.W.nsIn K mainGlobals "tuple" = some none)
    (z_range : PySem.W.nsIn K mainGlobals "range" = some none)
    (z_enumerate : PySem.W.nsIn K mainGlobals "enumerate" = some none)
    (z_ValueError : PySem.W.nsIn K mainGlobals "ValueError" = some none)
    (o_gt : PySem.W.specialIn K (.builtin "object.__class__") "__get__" = some (some (.builtin "getset_descriptor.__get__")))
    (o_tk : PySem.W.takesIn K (.builtin "object.__class__") = some true)
    (a_check_height : PySem.W.nsIn K mainGlobals "check_height" = some (some (.ref f_check_height)))
    (l_check_height : K.lookup f_check_height = some ⟨oc_check_height, od_check_height, .func (PySem.W.fnOf "check_height" "check_height" (defArgs s_check_height) (defBody s_check_height) (defScope s_check_height) .none kV_check_height dc_check_height pm_check_height an_check_height cd_check_height ct_check_height), sl_check_height⟩)
    (c_check_height : PySem.W.codeIn K cd_check_height "check_height" = true)
    (k_check_height : PySem.W.keepIn K (.ref f_check_height) = true)
    (a_check_same_height : PySem.W.nsIn K mainGlobals "check_same_height" = some (some (.ref f_check_same_height)))
    (l_check_same_height : K.lookup f_check_same_height = some ⟨oc_check_same_height, od_check_same_height, .func (PySem.W.fnOf "check_same_height" "check_same_height" (defArgs s_check_same_height) (defBody s_check_same_height) (defScope s_check_same_height) .none kV_check_same_height dc_check_same_height pm_check_same_height an_check_same_height cd_check_same_height ct_check_same_height), sl_check_same_height⟩)
    (c_check_same_height : PySem.W.codeIn K cd_check_same_height "check_same_height" = true)
    (k_check_same_height : PySem.W.keepIn K (.ref f_check_same_height) = true)
    (a_check_row : PySem.W.nsIn K mainGlobals "check_row" = some (some (.ref f_check_row)))
    (l_check_row : K.lookup f_check_row = some ⟨oc_check_row, od_check_row, .func (PySem.W.fnOf "check_row" "check_row" (defArgs s_check_row) (defBody s_check_row) (defScope s_check_row) .none kV_check_row dc_check_row pm_check_row an_check_row cd_check_row ct_check_row), sl_check_row⟩)
    (c_check_row : PySem.W.codeIn K cd_check_row "check_row" = true)
    (k_check_row : PySem.W.keepIn K (.ref f_check_row) = true)
    (a_check_step : PySem.W.nsIn K mainGlobals "check_step" = some (some (.ref f_check_step)))
    (l_check_step : K.lookup f_check_step = some ⟨oc_check_step, od_check_step, .func (PySem.W.fnOf "check_step" "check_step" (defArgs s_check_step) (defBody s_check_step) (defScope s_check_step) .none kV_check_step dc_check_step pm_check_step an_check_step cd_check_step ct_check_step), sl_check_step⟩)
    (c_check_step : PySem.W.codeIn K cd_check_step "check_step" = true)
    (k_check_step : PySem.W.keepIn K (.ref f_check_step) = true)
    (a__counts_from : PySem.W.nsIn K mainGlobals "_counts_from" = some (some (.ref f__counts_from)))
    (l__counts_from : K.lookup f__counts_from = some ⟨oc__counts_from, od__counts_from, .func (PySem.W.fnOf "_counts_from" "_counts_from" (defArgs s__counts_from) (defBody s__counts_from) (defScope s__counts_from) .none kV__counts_from dc__counts_from pm__counts_from an__counts_from cd__counts_from ct__counts_from), sl__counts_from⟩)
    (c__counts_from : PySem.W.codeIn K cd__counts_from "_counts_from" = true)
    (k__counts_from : PySem.W.keepIn K (.ref f__counts_from) = true)
    (a_pool : PySem.W.nsIn K mainGlobals "_law_pool" = some (some (.ref f_pool)))
    (l_pool : K.lookup f_pool = some ⟨oc_pool, od_pool, .func (PySem.W.fnOf "_law_pool" "_law_pool" (defArgs s_pool) (defBody s_pool) (defScope s_pool) .none kV_pool dc_pool pm_pool an_pool cd_pool ct_pool), sl_pool⟩)
    (c_pool : PySem.W.codeIn K cd_pool "_law_pool" = true)
    (k_pool : PySem.W.keepIn K (.ref f_pool) = true)
    (a_draw : PySem.W.nsIn K mainGlobals "_law_draw" = some (some (.ref f_draw)))
    (l_draw : K.lookup f_draw = some ⟨oc_draw, od_draw, .func (PySem.W.fnOf "_law_draw" "_law_draw" (defArgs s_draw) (defBody s_draw) (defScope s_draw) .none kV_draw dc_draw pm_draw an_draw cd_draw ct_draw), sl_draw⟩)
    (c_draw : PySem.W.codeIn K cd_draw "_law_draw" = true)
    (k_draw : PySem.W.keepIn K (.ref f_draw) = true)
    (a_levels : PySem.W.nsIn K mainGlobals "_law_levels" = some (some (.ref f_levels)))
    (l_levels : K.lookup f_levels = some ⟨oc_levels, od_levels, .func (PySem.W.fnOf "_law_levels" "_law_levels" (defArgs s_levels) (defBody s_levels) (defScope s_levels) .none kV_levels dc_levels pm_levels an_levels cd_levels ct_levels), sl_levels⟩)
    (c_levels : PySem.W.codeIn K cd_levels "_law_levels" = true)
    (k_levels : PySem.W.keepIn K (.ref f_levels) = true)
    (a_number : PySem.W.nsIn K mainGlobals "_law_number" = some (some (.ref f_number)))
    (l_number : K.lookup f_number = some ⟨oc_number, od_number, .func (PySem.W.fnOf "_law_number" "_law_number" (defArgs s_number) (defBody s_number) (defScope s_number) .none kV_number dc_number pm_number an_number cd_number ct_number), sl_number⟩)
    (c_number : PySem.W.codeIn K cd_number "_law_number" = true)
    (k_number : PySem.W.keepIn K (.ref f_number) = true)
    (a_same : PySem.W.nsIn K mainGlobals "_law_same" = some (some (.ref f_same)))
    (l_same : K.lookup f_same = some ⟨oc_same, od_same, .func (PySem.W.fnOf "_law_same" "_law_same" (defArgs s_same) (defBody s_same) (defScope s_same) .none kV_same dc_same pm_same an_same cd_same ct_same), sl_same⟩)
    (c_same : PySem.W.codeIn K cd_same "_law_same" = true)
    (k_same : PySem.W.keepIn K (.ref f_same) = true)
    (a_gap : PySem.W.nsIn K mainGlobals "_law_gap" = some (some (.ref f_gap)))
    (l_gap : K.lookup f_gap = some ⟨oc_gap, od_gap, .func (PySem.W.fnOf "_law_gap" "_law_gap" (defArgs s_gap) (defBody s_gap) (defScope s_gap) .none kV_gap dc_gap pm_gap an_gap cd_gap ct_gap), sl_gap⟩)
    (c_gap : PySem.W.codeIn K cd_gap "_law_gap" = true)
    (k_gap : PySem.W.keepIn K (.ref f_gap) = true)
    (a_parts : PySem.W.nsIn K mainGlobals "_law_parts" = some (some (.ref f_parts)))
    (l_parts : K.lookup f_parts = some ⟨oc_parts, od_parts, .func (PySem.W.fnOf "_law_parts" "_law_parts" (defArgs s_parts) (defBody s_parts) (defScope s_parts) .none kV_parts dc_parts pm_parts an_parts cd_parts ct_parts), sl_parts⟩)
    (c_parts : PySem.W.codeIn K cd_parts "_law_parts" = true)
    (k_parts : PySem.W.keepIn K (.ref f_parts) = true)
    (a_part_of : PySem.W.nsIn K mainGlobals "_law_part_of" = some (some (.ref f_part_of)))
    (l_part_of : K.lookup f_part_of = some ⟨oc_part_of, od_part_of, .func (PySem.W.fnOf "_law_part_of" "_law_part_of" (defArgs s_part_of) (defBody s_part_of) (defScope s_part_of) .none kV_part_of dc_part_of pm_part_of an_part_of cd_part_of ct_part_of), sl_part_of⟩)
    (c_part_of : PySem.W.codeIn K cd_part_of "_law_part_of" = true)
    (k_part_of : PySem.W.keepIn K (.ref f_part_of) = true)
    (a_pieces_good : PySem.W.nsIn K mainGlobals "_law_pieces_good" = some (some (.ref f_pieces_good)))
    (l_pieces_good : K.lookup f_pieces_good = some ⟨oc_pieces_good, od_pieces_good, .func (PySem.W.fnOf "_law_pieces_good" "_law_pieces_good" (defArgs s_pieces_good) (defBody s_pieces_good) (defScope s_pieces_good) .none kV_pieces_good dc_pieces_good pm_pieces_good an_pieces_good cd_pieces_good ct_pieces_good), sl_pieces_good⟩)
    (c_pieces_good : PySem.W.codeIn K cd_pieces_good "_law_pieces_good" = true)
    (k_pieces_good : PySem.W.keepIn K (.ref f_pieces_good) = true)
    (a_flips : PySem.W.nsIn K mainGlobals "_law_flips" = some (some (.ref f_flips)))
    (l_flips : K.lookup f_flips = some ⟨oc_flips, od_flips, .func (PySem.W.fnOf "_law_flips" "_law_flips" (defArgs s_flips) (defBody s_flips) (defScope s_flips) .none kV_flips dc_flips pm_flips an_flips cd_flips ct_flips), sl_flips⟩)
    (c_flips : PySem.W.codeIn K cd_flips "_law_flips" = true)
    (k_flips : PySem.W.keepIn K (.ref f_flips) = true)
    (a_sum : PySem.W.nsIn K mainGlobals "_law_sum" = some (some (.ref f_sum)))
    (l_sum : K.lookup f_sum = some ⟨oc_sum, od_sum, .func (PySem.W.fnOf "_law_sum" "_law_sum" (defArgs s_sum) (defBody s_sum) (defScope s_sum) .none kV_sum dc_sum pm_sum an_sum cd_sum ct_sum), sl_sum⟩)
    (c_sum : PySem.W.codeIn K cd_sum "_law_sum" = true)
    (k_sum : PySem.W.keepIn K (.ref f_sum) = true)
    (a_sum_due : PySem.W.nsIn K mainGlobals "_law_sum_due" = some (some (.ref f_sum_due)))
    (l_sum_due : K.lookup f_sum_due = some ⟨oc_sum_due, od_sum_due, .func (PySem.W.fnOf "_law_sum_due" "_law_sum_due" (defArgs s_sum_due) (defBody s_sum_due) (defScope s_sum_due) .none kV_sum_due dc_sum_due pm_sum_due an_sum_due cd_sum_due ct_sum_due), sl_sum_due⟩)
    (c_sum_due : PySem.W.codeIn K cd_sum_due "_law_sum_due" = true)
    (k_sum_due : PySem.W.keepIn K (.ref f_sum_due) = true)
    (a_joined : PySem.W.nsIn K mainGlobals "_law_joined" = some (some (.ref f_joined)))
    (l_joined : K.lookup f_joined = some ⟨oc_joined, od_joined, .func (PySem.W.fnOf "_law_joined" "_law_joined" (defArgs s_joined) (defBody s_joined) (defScope s_joined) .none kV_joined dc_joined pm_joined an_joined cd_joined ct_joined), sl_joined⟩)
    (c_joined : PySem.W.codeIn K cd_joined "_law_joined" = true)
    (k_joined : PySem.W.keepIn K (.ref f_joined) = true)
    (a_law : PySem.W.nsIn K mainGlobals "law" = some (some (.ref f_law)))
    (l_law : K.lookup f_law = some ⟨oc_law, od_law, .func (PySem.W.fnOf "law" "law" (defArgs s_law) (defBody s_law) (defScope s_law) .none kV_law dc_law pm_law an_law cd_law ct_law), sl_law⟩)
    (c_law : PySem.W.codeIn K cd_law "law" = true)
    (k_law : PySem.W.keepIn K (.ref f_law) = true)
    (aC_Ladder : PySem.W.nsIn K mainGlobals "Ladder" = some (some (.ref C_Ladder)))
    (pg_Ladder : PySem.W.plainGet K C_Ladder Str.empty = true)
    (hd_Ladder : PySem.W.hasDictIn K C_Ladder = true)
    (po_Ladder : PySem.W.plainOver K C_Ladder = true)
    (sa_Ladder : PySem.W.findIn K (.ref C_Ladder) "__setattr__" = some (some (.builtin "object.__setattr__")))
    (na_Ladder_height : PySem.W.findIn K (.ref C_Ladder) "height" = some none)
    (na_Ladder_levels : PySem.W.findIn K (.ref C_Ladder) "levels" = some none)
    (na_Ladder_top : PySem.W.findIn K (.ref C_Ladder) "top" = some none)
    (na_Ladder__counts : PySem.W.findIn K (.ref C_Ladder) "_counts" = some none)
    (mk_Ladder : PySem.W.makesIn K C_Ladder = true)
    (kc_Ladder : PySem.W.keepIn K (.ref C_Ladder) = true)
    (a_L_init : PySem.W.findIn K (.ref C_Ladder) "__init__" = some (some (.ref f_L_init)))
    (i_L_init : PySem.W.isFn K (.ref f_L_init) = true)
    (l_L_init : K.lookup f_L_init = some ⟨oc_L_init, od_L_init, .func (PySem.W.fnOf "__init__" "Ladder.__init__" (defArgs s_L_init) (defBody s_L_init) (defScope s_L_init) .none kV_L_init dc_L_init pm_L_init an_L_init cd_L_init ct_L_init), sl_L_init⟩)
    (c_L_init : PySem.W.codeIn K cd_L_init "Ladder.__init__" = true)
    (k_L_init : PySem.W.keepIn K (.ref f_L_init) = true)
    (a_L_gap : PySem.W.findIn K (.ref C_Ladder) "gap" = some (some (.ref f_L_gap)))
    (i_L_gap : PySem.W.isFn K (.ref f_L_gap) = true)
    (l_L_gap : K.lookup f_L_gap = some ⟨oc_L_gap, od_L_gap, .func (PySem.W.fnOf "gap" "Ladder.gap" (defArgs s_L_gap) (defBody s_L_gap) (defScope s_L_gap) .none kV_L_gap dc_L_gap pm_L_gap an_L_gap cd_L_gap ct_L_gap), sl_L_gap⟩)
    (c_L_gap : PySem.W.codeIn K cd_L_gap "Ladder.gap" = true)
    (k_L_gap : PySem.W.keepIn K (.ref f_L_gap) = true)
    (a_L_high : PySem.W.findIn K (.ref C_Ladder) "high" = some (some (.ref f_L_high)))
    (i_L_high : PySem.W.isFn K (.ref f_L_high) = true)
    (l_L_high : K.lookup f_L_high = some ⟨oc_L_high, od_L_high, .func (PySem.W.fnOf "high" "Ladder.high" (defArgs s_L_high) (defBody s_L_high) (defScope s_L_high) .none kV_L_high dc_L_high pm_L_high an_L_high cd_L_high ct_L_high), sl_L_high⟩)
    (c_L_high : PySem.W.codeIn K cd_L_high "Ladder.high" = true)
    (k_L_high : PySem.W.keepIn K (.ref f_L_high) = true)
    (a_L_add : PySem.W.findIn K (.ref C_Ladder) "__add__" = some (some (.ref f_L_add)))
    (i_L_add : PySem.W.isFn K (.ref f_L_add) = true)
    (l_L_add : K.lookup f_L_add = some ⟨oc_L_add, od_L_add, .func (PySem.W.fnOf "__add__" "Ladder.__add__" (defArgs s_L_add) (defBody s_L_add) (defScope s_L_add) .none kV_L_add dc_L_add pm_L_add an_L_add cd_L_add ct_L_add), sl_L_add⟩)
    (c_L_add : PySem.W.codeIn K cd_L_add "Ladder.__add__" = true)
    (k_L_add : PySem.W.keepIn K (.ref f_L_add) = true)
    (a_L_eq : PySem.W.findIn K (.ref C_Ladder) "__eq__" = some (some (.ref f_L_eq)))
    (i_L_eq : PySem.W.isFn K (.ref f_L_eq) = true)
    (l_L_eq : K.lookup f_L_eq = some ⟨oc_L_eq, od_L_eq, .func (PySem.W.fnOf "__eq__" "Ladder.__eq__" (defArgs s_L_eq) (defBody s_L_eq) (defScope s_L_eq) .none kV_L_eq dc_L_eq pm_L_eq an_L_eq cd_L_eq ct_L_eq), sl_L_eq⟩)
    (c_L_eq : PySem.W.codeIn K cd_L_eq "Ladder.__eq__" = true)
    (k_L_eq : PySem.W.keepIn K (.ref f_L_eq) = true)
    (a_L_pieces : PySem.W.findIn K (.ref C_Ladder) "pieces" = some (some (.ref f_L_pieces)))
    (i_L_pieces : PySem.W.isFn K (.ref f_L_pieces) = true)
    (l_L_pieces : K.lookup f_L_pieces = some ⟨oc_L_pieces, od_L_pieces, .func (PySem.W.fnOf "pieces" "Ladder.pieces" (defArgs s_L_pieces) (defBody s_L_pieces) (defScope s_L_pieces) .none kV_L_pieces dc_L_pieces pm_L_pieces an_L_pieces cd_L_pieces ct_L_pieces), sl_L_pieces⟩)
    (c_L_pieces : PySem.W.codeIn K cd_L_pieces "Ladder.pieces" = true)
    (k_L_pieces : PySem.W.keepIn K (.ref f_L_pieces) = true)
    (a_L_flipped : PySem.W.findIn K (.ref C_Ladder) "flipped" = some (some (.ref f_L_flipped)))
    (i_L_flipped : PySem.W.isFn K (.ref f_L_flipped) = true)
    (l_L_flipped : K.lookup f_L_flipped = some ⟨oc_L_flipped, od_L_flipped, .func (PySem.W.fnOf "flipped" "Ladder.flipped" (defArgs s_L_flipped) (defBody s_L_flipped) (defScope s_L_flipped) .none kV_L_flipped dc_L_flipped pm_L_flipped an_L_flipped cd_L_flipped ct_L_flipped), sl_L_flipped⟩)
    (c_L_flipped : PySem.W.codeIn K cd_L_flipped "Ladder.flipped" = true)
    (k_L_flipped : PySem.W.keepIn K (.ref f_L_flipped) = true)
    (sf_Ladder : PySem.W.selfFirst K C_Ladder = true)
    (cr_Ladder_MOST_LEVELS : PySem.W.readsIn K C_Ladder (.type "type") = true)
    (cg_Ladder_MOST_LEVELS : PySem.W.specialIn K (.ref C_Ladder) "__getattribute__" = some (some (.builtin "type.__getattribute__")))
    (cf_Ladder_MOST_LEVELS : PySem.W.findCls K (.ref C_Ladder) (.type "type") "MOST_LEVELS" = some (.val u_Ladder_MOST_LEVELS))
    (cx_Ladder_MOST_LEVELS : RelV (.int 24) u_Ladder_MOST_LEVELS)
    (ai_Ladder : PySem.W.findIn K (.ref C_Ladder) "__class__" = some (some (.builtin "object.__class__")))
    (mo_Ladder : PySem.W.mroIn K C_Ladder (.type "object") = some true)
    (kit_Ladder_Ladder : PySem.W.kitOne K (.ref C_Ladder) (.ref C_Ladder) = some true)
    (aN_BadLevel : PySem.W.nsIn K mainGlobals "BadLevel" = some (some (.ref C_BadLevel)))
    (x_BadLevel : K.lookup C_BadLevel = some (excClassObj nm_BadLevel qn_BadLevel C_BadLevel ns_BadLevel bs_BadLevel bm_BadLevel true sn_BadLevel sb_BadLevel ab_BadLevel co_BadLevel dd_BadLevel k0_BadLevel k1_BadLevel k2_BadLevel k3_BadLevel k5_BadLevel "ValueError.__new__"))
    (r_BadLevel : PySem.HandSPX.refsVE bm_BadLevel = true)
    (sa_BadLevel : PySem.W.findIn K (.ref C_BadLevel) "__setattr__" = some (some (.builtin "object.__setattr__")))
    (xb_BadLevel : PySem.W.subIn K (.ref C_BadLevel) (.type "BaseException") = some true)
    (tc_BadLevel : PySem.W.typeIn K (.ref C_BadLevel) = some (.type "type"))
    (kc_BadLevel : PySem.W.keepIn K (.ref C_BadLevel) = true)
    (ga_BadLevel : PySem.W.findIn K (.ref C_BadLevel) "__getattribute__" = some (some (.builtin "BaseException.__getattribute__")))
    (gg_BadLevel : PySem.W.findIn K (.ref C_BadLevel) "__getattr__" = some none)
    (ac_BadLevel : PySem.W.findIn K (.ref C_BadLevel) "__class__" = some (some (.builtin "object.__class__")))
    (mo_BadLevel : PySem.W.mroIn K C_BadLevel (.type "object") = some true)
    (hd_BadLevel : PySem.W.hasDictIn K C_BadLevel = true)
    (ic_BadLevel : PySem.W.isClsIn K C_BadLevel = true)
    (no_BadLevel : PySem.W.findIn K (.ref C_BadLevel) "index" = some none)
    (sv_BadLevel : PySem.W.subIn K (.ref C_BadLevel) (.type "ValueError") = some true)
    (mr_BadLevel : PySem.W.mroIn K C_BadLevel (.ref C_BadLevel) = some true)
    (sm_BadLevel : PySem.W.ks_superIn K C_BadLevel C_BadLevel "__init__" = some (some (.builtin "ValueError.__init__")))
    (a_BadLevel_init : PySem.W.findIn K (.ref C_BadLevel) "__init__" = some (some (.ref f_BadLevel_init)))
    (t_BadLevel_init : PySem.W.typeIn K (.ref f_BadLevel_init) = some (.type "function"))
    (l_BadLevel_init : K.lookup f_BadLevel_init = some ⟨oc_BadLevel_init, od_BadLevel_init, .func (PySem.W.ksFn "__init__" "BadLevel.__init__" (defArgs s_BadLevel_init) (defBody s_BadLevel_init) (defScope s_BadLevel_init) .none kV_BadLevel_init dc_BadLevel_init pm_BadLevel_init an_BadLevel_init (.ref cda_BadLevel_init) ct_BadLevel_init cc_BadLevel_init), sl_BadLevel_init⟩)
    (c_BadLevel_init : PySem.W.codeIn K (.ref cda_BadLevel_init) "BadLevel.__init__" = true)
    (h_BadLevel_init : K.lookup cda_BadLevel_init = some ⟨ccl_BadLevel_init, cdd_BadLevel_init, .fields cvs_BadLevel_init, ccs_BadLevel_init⟩)
    (v_BadLevel_init : cvs_BadLevel_init[2]? = some (.str cfi_BadLevel_init ctf_BadLevel_init))
    (p_BadLevel_init : ((P.main.file : Str) == cfi_BadLevel_init) = true)
    (e_BadLevel_init : K.lookup cc_BadLevel_init = some ⟨ecl_BadLevel_init, eld_BadLevel_init, .cell (some (.ref C_BadLevel)), esl_BadLevel_init⟩)
    (aN_NoSuchStep : PySem.W.nsIn K mainGlobals "NoSuchStep" = some (some (.ref C_NoSuchStep)))
    (x_NoSuchStep : K.lookup C_NoSuchStep = some (excClassObj nm_NoSuchStep qn_NoSuchStep C_NoSuchStep ns_NoSuchStep bs_NoSuchStep bm_NoSuchStep true sn_NoSuchStep sb_NoSuchStep ab_NoSuchStep co_NoSuchStep dd_NoSuchStep k0_NoSuchStep k1_NoSuchStep k2_NoSuchStep k3_NoSuchStep k5_NoSuchStep "ValueError.__new__"))
    (r_NoSuchStep : PySem.HandSPX.refsVE bm_NoSuchStep = true)
    (sa_NoSuchStep : PySem.W.findIn K (.ref C_NoSuchStep) "__setattr__" = some (some (.builtin "object.__setattr__")))
    (xb_NoSuchStep : PySem.W.subIn K (.ref C_NoSuchStep) (.type "BaseException") = some true)
    (tc_NoSuchStep : PySem.W.typeIn K (.ref C_NoSuchStep) = some (.type "type"))
    (kc_NoSuchStep : PySem.W.keepIn K (.ref C_NoSuchStep) = true)
    (ga_NoSuchStep : PySem.W.findIn K (.ref C_NoSuchStep) "__getattribute__" = some (some (.builtin "BaseException.__getattribute__")))
    (gg_NoSuchStep : PySem.W.findIn K (.ref C_NoSuchStep) "__getattr__" = some none)
    (ac_NoSuchStep : PySem.W.findIn K (.ref C_NoSuchStep) "__class__" = some (some (.builtin "object.__class__")))
    (mo_NoSuchStep : PySem.W.mroIn K C_NoSuchStep (.type "object") = some true)
    (hd_NoSuchStep : PySem.W.hasDictIn K C_NoSuchStep = true)
    (ic_NoSuchStep : PySem.W.isClsIn K C_NoSuchStep = true)
    (no_NoSuchStep : PySem.W.findIn K (.ref C_NoSuchStep) "step" = some none)
    (sv_NoSuchStep : PySem.W.subIn K (.ref C_NoSuchStep) (.type "ValueError") = some true)
    (mr_NoSuchStep : PySem.W.mroIn K C_NoSuchStep (.ref C_NoSuchStep) = some true)
    (sm_NoSuchStep : PySem.W.ks_superIn K C_NoSuchStep C_NoSuchStep "__init__" = some (some (.builtin "ValueError.__init__")))
    (a_NoSuchStep_init : PySem.W.findIn K (.ref C_NoSuchStep) "__init__" = some (some (.ref f_NoSuchStep_init)))
    (t_NoSuchStep_init : PySem.W.typeIn K (.ref f_NoSuchStep_init) = some (.type "function"))
    (l_NoSuchStep_init : K.lookup f_NoSuchStep_init = some ⟨oc_NoSuchStep_init, od_NoSuchStep_init, .func (PySem.W.ksFn "__init__" "NoSuchStep.__init__" (defArgs s_NoSuchStep_init) (defBody s_NoSuchStep_init) (defScope s_NoSuchStep_init) .none kV_NoSuchStep_init dc_NoSuchStep_init pm_NoSuchStep_init an_NoSuchStep_init (.ref cda_NoSuchStep_init) ct_NoSuchStep_init cc_NoSuchStep_init), sl_NoSuchStep_init⟩)
    (c_NoSuchStep_init : PySem.W.codeIn K (.ref cda_NoSuchStep_init) "NoSuchStep.__init__" = true)
    (h_NoSuchStep_init : K.lookup cda_NoSuchStep_init = some ⟨ccl_NoSuchStep_init, cdd_NoSuchStep_init, .fields cvs_NoSuchStep_init, ccs_NoSuchStep_init⟩)
    (v_NoSuchStep_init : cvs_NoSuchStep_init[2]? = some (.str cfi_NoSuchStep_init ctf_NoSuchStep_init))
    (p_NoSuchStep_init : ((P.main.file : Str) == cfi_NoSuchStep_init) = true)
    (e_NoSuchStep_init : K.lookup cc_NoSuchStep_init = some ⟨ecl_NoSuchStep_init, eld_NoSuchStep_init, .cell (some (.ref C_NoSuchStep)), esl_NoSuchStep_init⟩)
    (aN_NoSuchLevel : PySem.W.nsIn K mainGlobals "NoSuchLevel" = some (some (.ref C_NoSuchLevel)))
    (x_NoSuchLevel : K.lookup C_NoSuchLevel = some (excClassObj nm_NoSuchLevel qn_NoSuchLevel C_NoSuchLevel ns_NoSuchLevel bs_NoSuchLevel bm_NoSuchLevel true sn_NoSuchLevel sb_NoSuchLevel ab_NoSuchLevel co_NoSuchLevel dd_NoSuchLevel k0_NoSuchLevel k1_NoSuchLevel k2_NoSuchLevel k3_NoSuchLevel k5_NoSuchLevel "ValueError.__new__"))
    (r_NoSuchLevel : PySem.HandSPX.refsVE bm_NoSuchLevel = true)
    (sa_NoSuchLevel : PySem.W.findIn K (.ref C_NoSuchLevel) "__setattr__" = some (some (.builtin "object.__setattr__")))
    (xb_NoSuchLevel : PySem.W.subIn K (.ref C_NoSuchLevel) (.type "BaseException") = some true)
    (tc_NoSuchLevel : PySem.W.typeIn K (.ref C_NoSuchLevel) = some (.type "type"))
    (kc_NoSuchLevel : PySem.W.keepIn K (.ref C_NoSuchLevel) = true)
    (ga_NoSuchLevel : PySem.W.findIn K (.ref C_NoSuchLevel) "__getattribute__" = some (some (.builtin "BaseException.__getattribute__")))
    (gg_NoSuchLevel : PySem.W.findIn K (.ref C_NoSuchLevel) "__getattr__" = some none)
    (ac_NoSuchLevel : PySem.W.findIn K (.ref C_NoSuchLevel) "__class__" = some (some (.builtin "object.__class__")))
    (mo_NoSuchLevel : PySem.W.mroIn K C_NoSuchLevel (.type "object") = some true)
    (hd_NoSuchLevel : PySem.W.hasDictIn K C_NoSuchLevel = true)
    (ic_NoSuchLevel : PySem.W.isClsIn K C_NoSuchLevel = true)
    (no_NoSuchLevel : PySem.W.findIn K (.ref C_NoSuchLevel) "level" = some none)
    (sv_NoSuchLevel : PySem.W.subIn K (.ref C_NoSuchLevel) (.type "ValueError") = some true)
    (mr_NoSuchLevel : PySem.W.mroIn K C_NoSuchLevel (.ref C_NoSuchLevel) = some true)
    (sm_NoSuchLevel : PySem.W.ks_superIn K C_NoSuchLevel C_NoSuchLevel "__init__" = some (some (.builtin "ValueError.__init__")))
    (a_NoSuchLevel_init : PySem.W.findIn K (.ref C_NoSuchLevel) "__init__" = some (some (.ref f_NoSuchLevel_init)))
    (t_NoSuchLevel_init : PySem.W.typeIn K (.ref f_NoSuchLevel_init) = some (.type "function"))
    (l_NoSuchLevel_init : K.lookup f_NoSuchLevel_init = some ⟨oc_NoSuchLevel_init, od_NoSuchLevel_init, .func (PySem.W.ksFn "__init__" "NoSuchLevel.__init__" (defArgs s_NoSuchLevel_init) (defBody s_NoSuchLevel_init) (defScope s_NoSuchLevel_init) .none kV_NoSuchLevel_init dc_NoSuchLevel_init pm_NoSuchLevel_init an_NoSuchLevel_init (.ref cda_NoSuchLevel_init) ct_NoSuchLevel_init cc_NoSuchLevel_init), sl_NoSuchLevel_init⟩)
    (c_NoSuchLevel_init : PySem.W.codeIn K (.ref cda_NoSuchLevel_init) "NoSuchLevel.__init__" = true)
    (h_NoSuchLevel_init : K.lookup cda_NoSuchLevel_init = some ⟨ccl_NoSuchLevel_init, cdd_NoSuchLevel_init, .fields cvs_NoSuchLevel_init, ccs_NoSuchLevel_init⟩)
    (v_NoSuchLevel_init : cvs_NoSuchLevel_init[2]? = some (.str cfi_NoSuchLevel_init ctf_NoSuchLevel_init))
    (p_NoSuchLevel_init : ((P.main.file : Str) == cfi_NoSuchLevel_init) = true)
    (e_NoSuchLevel_init : K.lookup cc_NoSuchLevel_init = some ⟨ecl_NoSuchLevel_init, eld_NoSuchLevel_init, .cell (some (.ref C_NoSuchLevel)), esl_NoSuchLevel_init⟩)
    (aN_TooLarge : PySem.W.nsIn K mainGlobals "TooLarge" = some (some (.ref C_TooLarge)))
    (xP_TooLarge : PySem.W.excIn K C_TooLarge [.type "ValueError", .type "Exception", .type "BaseException", .type "object"] "ValueError.__new__" = true)
    (kc_TooLarge : PySem.W.keepIn K (.ref C_TooLarge) = true)
    (xb_TooLarge : PySem.W.subIn K (.ref C_TooLarge) (.type "BaseException") = some true)
    (tc_TooLarge : PySem.W.typeIn K (.ref C_TooLarge) = some (.type "type"))
    (ic_TooLarge : PySem.W.isClsIn K C_TooLarge = true)
    (ga_TooLarge : PySem.W.findIn K (.ref C_TooLarge) "__getattribute__" = some (some (.builtin "BaseException.__getattribute__")))
    (gg_TooLarge : PySem.W.findIn K (.ref C_TooLarge) "__getattr__" = some none)
    (ac_TooLarge : PySem.W.findIn K (.ref C_TooLarge) "__class__" = some (some (.builtin "object.__class__")))
    (mo_TooLarge : PySem.W.mroIn K C_TooLarge (.type "object") = some true)
    (hd_TooLarge : PySem.W.hasDictIn K C_TooLarge = true)
    (aN_HeightMismatch : PySem.W.nsIn K mainGlobals "HeightMismatch" = some (some (.ref C_HeightMismatch)))
    (xP_HeightMismatch : PySem.W.excIn K C_HeightMismatch [.type "ValueError", .type "Exception", .type "BaseException", .type "object"] "ValueError.__new__" = true)
    (kc_HeightMismatch : PySem.W.keepIn K (.ref C_HeightMismatch) = true)
    (xb_HeightMismatch : PySem.W.subIn K (.ref C_HeightMismatch) (.type "BaseException") = some true)
    (tc_HeightMismatch : PySem.W.typeIn K (.ref C_HeightMismatch) = some (.type "type"))
    (ic_HeightMismatch : PySem.W.isClsIn K C_HeightMismatch = true)
    (ga_HeightMismatch : PySem.W.findIn K (.ref C_HeightMismatch) "__getattribute__" = some (some (.builtin "BaseException.__getattribute__")))
    (gg_HeightMismatch : PySem.W.findIn K (.ref C_HeightMismatch) "__getattr__" = some none)
    (ac_HeightMismatch : PySem.W.findIn K (.ref C_HeightMismatch) "__class__" = some (some (.builtin "object.__class__")))
    (mo_HeightMismatch : PySem.W.mroIn K C_HeightMismatch (.type "object") = some true)
    (hd_HeightMismatch : PySem.W.hasDictIn K C_HeightMismatch = true)
    (aN_LadderreachError : PySem.W.nsIn K mainGlobals "LadderreachError" = some (some (.ref C_LadderreachError)))
    (aN_BadHeight : PySem.W.nsIn K mainGlobals "BadHeight" = some (some (.ref C_BadHeight)))
    (aN_ShapeMismatch : PySem.W.nsIn K mainGlobals "ShapeMismatch" = some (some (.ref C_ShapeMismatch)))
    (aN_GameError : PySem.W.nsIn K mainGlobals "GameError" = some (some (.ref C_GameError)))
    (kit_HeightMismatch_LadderreachError : PySem.W.kitOne K (.ref C_HeightMismatch) (.ref C_LadderreachError) = some true)
    (kit_HeightMismatch_ValueError : PySem.W.kitOne K (.ref C_HeightMismatch) (.type "ValueError") = some true)
    (kit_HeightMismatch_TooLarge : PySem.W.kitOne K (.ref C_HeightMismatch) (.ref C_TooLarge) = some false)
    (kit_HeightMismatch_BadHeight : PySem.W.kitOne K (.ref C_HeightMismatch) (.ref C_BadHeight) = some false)
    (kit_HeightMismatch_BadLevel : PySem.W.kitOne K (.ref C_HeightMismatch) (.ref C_BadLevel) = some false)
    (kit_HeightMismatch_ShapeMismatch : PySem.W.kitOne K (.ref C_HeightMismatch) (.ref C_ShapeMismatch) = some false)
    (kit_HeightMismatch_GameError : PySem.W.kitOne K (.ref C_HeightMismatch) (.ref C_GameError) = some false)
    (kit_TooLarge_LadderreachError : PySem.W.kitOne K (.ref C_TooLarge) (.ref C_LadderreachError) = some true)
    (kit_TooLarge_ValueError : PySem.W.kitOne K (.ref C_TooLarge) (.type "ValueError") = some true)
    (kit_TooLarge_HeightMismatch : PySem.W.kitOne K (.ref C_TooLarge) (.ref C_HeightMismatch) = some false)
    (kit_TooLarge_BadHeight : PySem.W.kitOne K (.ref C_TooLarge) (.ref C_BadHeight) = some false)
    (kit_TooLarge_BadLevel : PySem.W.kitOne K (.ref C_TooLarge) (.ref C_BadLevel) = some false)
    (kit_TooLarge_ShapeMismatch : PySem.W.kitOne K (.ref C_TooLarge) (.ref C_ShapeMismatch) = some false)
    (kit_TooLarge_GameError : PySem.W.kitOne K (.ref C_TooLarge) (.ref C_GameError) = some false)
    (exm_HeightMismatch_HeightMismatch : PySem.W.exmOne K (.ref C_HeightMismatch) (.ref C_HeightMismatch) = some true)
    (exm_TooLarge_HeightMismatch : PySem.W.exmOne K (.ref C_TooLarge) (.ref C_HeightMismatch) = some false)
    (exm_TooLarge_TooLarge : PySem.W.exmOne K (.ref C_TooLarge) (.ref C_TooLarge) = some true) :
    Txt P K mg ⟨C_Ladder, C_BadLevel, C_NoSuchStep, C_NoSuchLevel, C_TooLarge, C_HeightMismatch, C_LadderreachError, C_BadHeight, C_ShapeMismatch, C_GameError⟩ := {
    n_len := PySem.W.mg_none_of X G z_len,
    n_abs := PySem.W.mg_none_of X G z_abs,
    n_max := PySem.W.mg_none_of X G z_max,
    n_min := PySem.W.mg_none_of X G z_min,
    n_isinstance := PySem.W.mg_none_of X G z_isinstance,
    n_int := PySem.W.mg_none_of X G z_int,
    n_bool := PySem.W.mg_none_of X G z_bool,
    n_str := PySem.W.mg_none_of X G z_str,
    n_list := PySem.W.mg_none_of X G z_list,
    n_tuple := PySem.W.mg_none_of X G z_tuple,
    n_range := PySem.W.mg_none_of X G z_range,
    n_enumerate := PySem.W.mg_none_of X G z_enumerate,
    n_ValueError := PySem.W.mg_none_of X G z_ValueError,
    objc := ⟨o_gt, o_tk⟩,
    d_check_height := ⟨_, _, fun_mk (st := s_check_height) l_check_height c_check_height k_check_height, PySem.W.mg_of X G a_check_height, (fun_mk (st := s_check_height) l_check_height c_check_height k_check_height).binds (ps := ["height"]) (fun _ _ _ _ _ _ us hl => match us, hl with | [_], _ => rfl)⟩,
    d_check_same_height := ⟨_, _, fun_mk (st := s_check_same_height) l_check_same_height c_check_same_height k_check_same_height, PySem.W.mg_of X G a_check_same_height, (fun_mk (st := s_check_same_height) l_check_same_height c_check_same_height k_check_same_height).binds (ps := ["one", "other"]) (fun _ _ _ _ _ _ us hl => match us, hl with | [_, _], _ => rfl)⟩,
    d_check_row := ⟨_, _, fun_mk (st := s_check_row) l_check_row c_check_row k_check_row, PySem.W.mg_of X G a_check_row, (fun_mk (st := s_check_row) l_check_row c_check_row k_check_row).binds (ps := ["height", "row", "most"]) (fun _ _ _ _ _ _ us hl => match us, hl with | [_, _, _], _ => rfl)⟩,
    d_check_step := ⟨_, _, fun_mk (st := s_check_step) l_check_step c_check_step k_check_step, PySem.W.mg_of X G a_check_step, (fun_mk (st := s_check_step) l_check_step c_check_step k_check_step).binds (ps := ["top", "step"]) (fun _ _ _ _ _ _ us hl => match us, hl with | [_, _], _ => rfl)⟩,
    d__counts_from := ⟨_, _, fun_mk (st := s__counts_from) l__counts_from c__counts_from k__counts_from, PySem.W.mg_of X G a__counts_from, (fun_mk (st := s__counts_from) l__counts_from c__counts_from k__counts_from).binds (ps := ["level", "levels"]) (fun _ _ _ _ _ _ us hl => match us, hl with | [_, _], _ => rfl)⟩,
    d_pool := ⟨_, _, fun_mk (st := s_pool) l_pool c_pool k_pool, PySem.W.mg_of X G a_pool, (fun_mk (st := s_pool) l_pool c_pool k_pool).binds (ps := ["script", "k"]) (fun _ _ _ _ _ _ us hl => match us, hl with | [_, _], _ => rfl)⟩,
    d_draw := ⟨_, _, fun_mk (st := s_draw) l_draw c_draw k_draw, PySem.W.mg_of X G a_draw, (fun_mk (st := s_draw) l_draw c_draw k_draw).binds (ps := ["pool", "many"]) (fun _ _ _ _ _ _ us hl => match us, hl with | [_, _], _ => rfl)⟩,
    d_levels := ⟨_, _, fun_mk (st := s_levels) l_levels c_levels k_levels, PySem.W.mg_of X G a_levels, (fun_mk (st := s_levels) l_levels c_levels k_levels).binds (ps := ["pool", "height", "limit"]) (fun _ _ _ _ _ _ us hl => match us, hl with | [_, _, _], _ => rfl)⟩,
    d_number := ⟨_, _, fun_mk (st := s_number) l_number c_number k_number, PySem.W.mg_of X G a_number, (fun_mk (st := s_number) l_number c_number k_number).binds (ps := ["value"]) (fun _ _ _ _ _ _ us hl => match us, hl with | [_], _ => rfl)⟩,
    d_same := ⟨_, _, fun_mk (st := s_same) l_same c_same k_same, PySem.W.mg_of X G a_same, (fun_mk (st := s_same) l_same c_same k_same).binds (ps := ["answer", "due"]) (fun _ _ _ _ _ _ us hl => match us, hl with | [_, _], _ => rfl)⟩,
    d_gap := ⟨_, _, fun_mk (st := s_gap) l_gap c_gap k_gap, PySem.W.mg_of X G a_gap, (fun_mk (st := s_gap) l_gap c_gap k_gap).binds (ps := ["levels", "one", "other"]) (fun _ _ _ _ _ _ us hl => match us, hl with | [_, _, _], _ => rfl)⟩,
    d_parts := ⟨_, _, fun_mk (st := s_parts) l_parts c_parts k_parts, PySem.W.mg_of X G a_parts, (fun_mk (st := s_parts) l_parts c_parts k_parts).binds (ps := ["levels", "height"]) (fun _ _ _ _ _ _ us hl => match us, hl with | [_, _], _ => rfl)⟩,
    d_part_of := ⟨_, _, fun_mk (st := s_part_of) l_part_of c_part_of k_part_of, PySem.W.mg_of X G a_part_of, (fun_mk (st := s_part_of) l_part_of c_part_of k_part_of).binds (ps := ["parts", "step"]) (fun _ _ _ _ _ _ us hl => match us, hl with | [_, _], _ => rfl)⟩,
    d_pieces_good := ⟨_, _, fun_mk (st := s_pieces_good) l_pieces_good c_pieces_good k_pieces_good, PySem.W.mg_of X G a_pieces_good, (fun_mk (st := s_pieces_good) l_pieces_good c_pieces_good k_pieces_good).binds (ps := ["pool", "made", "levels", "height"]) (fun _ _ _ _ _ _ us hl => match us, hl with | [_, _, _, _], _ => rfl)⟩,
    d_flips := ⟨_, _, fun_mk (st := s_flips) l_flips c_flips k_flips, PySem.W.mg_of X G a_flips, (fun_mk (st := s_flips) l_flips c_flips k_flips).binds (ps := ["pool", "made", "levels", "height"]) (fun _ _ _ _ _ _ us hl => match us, hl with | [_, _, _, _], _ => rfl)⟩,
    d_sum := ⟨_, _, fun_mk (st := s_sum) l_sum c_sum k_sum, PySem.W.mg_of X G a_sum, (fun_mk (st := s_sum) l_sum c_sum k_sum).binds (ps := ["first", "second"]) (fun _ _ _ _ _ _ us hl => match us, hl with | [_, _], _ => rfl)⟩,
    d_sum_due := ⟨_, _, fun_mk (st := s_sum_due) l_sum_due c_sum_due k_sum_due, PySem.W.mg_of X G a_sum_due, (fun_mk (st := s_sum_due) l_sum_due c_sum_due k_sum_due).binds (ps := ["height", "levels", "size", "others"]) (fun _ _ _ _ _ _ us hl => match us, hl with | [_, _, _, _], _ => rfl)⟩,
    d_joined := ⟨_, _, fun_mk (st := s_joined) l_joined c_joined k_joined, PySem.W.mg_of X G a_joined, (fun_mk (st := s_joined) l_joined c_joined k_joined).binds (ps := ["pool", "first", "second", "levels", "others", "rest", "height"]) (fun _ _ _ _ _ _ us hl => match us, hl with | [_, _, _, _, _, _, _], _ => rfl)⟩,
    d_law := ⟨_, _, fun_mk (st := s_law) l_law c_law k_law, PySem.W.mg_of X G a_law, (fun_mk (st := s_law) l_law c_law k_law).binds (ps := ["script"]) (fun _ _ _ _ _ _ us hl => match us, hl with | [_], _ => rfl)⟩,
    cl_Ladder := ⟨pg_Ladder, hd_Ladder, po_Ladder, sa_Ladder⟩,
    mg_Ladder := PySem.W.mg_of X G aC_Ladder,
    na_Ladder_height := na_Ladder_height,
    na_Ladder_levels := na_Ladder_levels,
    na_Ladder_top := na_Ladder_top,
    na_Ladder__counts := na_Ladder__counts,
    mk_Ladder := ⟨_, _, fun_mk (st := s_L_init) l_L_init c_L_init k_L_init, ⟨mk_Ladder, a_L_init, i_L_init, kc_Ladder⟩, PySem.W.mg_of X G aC_Ladder, (fun_mk (st := s_L_init) l_L_init c_L_init k_L_init).binds (ps := ["self", "height", "levels"]) (fun _ _ _ _ _ _ us hl => match us, hl with | [_, _, _], _ => rfl)⟩,
    mt_L_gap := ⟨_, _, fun_mk (st := s_L_gap) l_L_gap c_L_gap k_L_gap, ⟨a_L_gap, i_L_gap, k_L_gap⟩, (fun_mk (st := s_L_gap) l_L_gap c_L_gap k_L_gap).binds (ps := ["self", "one", "other"]) (fun _ _ _ _ _ _ us hl => match us, hl with | [_, _, _], _ => rfl)⟩,
    mt_L_high := ⟨_, _, fun_mk (st := s_L_high) l_L_high c_L_high k_L_high, ⟨a_L_high, i_L_high, k_L_high⟩, (fun_mk (st := s_L_high) l_L_high c_L_high k_L_high).binds (ps := ["self", "level", "step"]) (fun _ _ _ _ _ _ us hl => match us, hl with | [_, _, _], _ => rfl)⟩,
    mt_L_add := ⟨_, _, fun_mk (st := s_L_add) l_L_add c_L_add k_L_add, ⟨a_L_add, i_L_add, k_L_add⟩, (fun_mk (st := s_L_add) l_L_add c_L_add k_L_add).binds (ps := ["self", "other"]) (fun _ _ _ _ _ _ us hl => match us, hl with | [_, _], _ => rfl)⟩,
    mt_L_eq := ⟨_, _, fun_mk (st := s_L_eq) l_L_eq c_L_eq k_L_eq, ⟨a_L_eq, i_L_eq, k_L_eq⟩, (fun_mk (st := s_L_eq) l_L_eq c_L_eq k_L_eq).binds (ps := ["self", "other"]) (fun _ _ _ _ _ _ us hl => match us, hl with | [_, _], _ => rfl)⟩,
    mt_L_pieces := ⟨_, _, fun_mk (st := s_L_pieces) l_L_pieces c_L_pieces k_L_pieces, ⟨a_L_pieces, i_L_pieces, k_L_pieces⟩, (fun_mk (st := s_L_pieces) l_L_pieces c_L_pieces k_L_pieces).binds (ps := ["self"]) (fun _ _ _ _ _ _ us hl => match us, hl with | [_], _ => rfl)⟩,
    mt_L_flipped := ⟨_, _, fun_mk (st := s_L_flipped) l_L_flipped c_L_flipped k_L_flipped, ⟨a_L_flipped, i_L_flipped, k_L_flipped⟩, (fun_mk (st := s_L_flipped) l_L_flipped c_L_flipped k_L_flipped).binds (ps := ["self"]) (fun _ _ _ _ _ _ us hl => match us, hl with | [_], _ => rfl)⟩,
    sf_Ladder := sf_Ladder,
    cv_Ladder_MOST_LEVELS := ⟨_, _, ⟨cr_Ladder_MOST_LEVELS, cg_Ladder_MOST_LEVELS⟩, ⟨cf_Ladder_MOST_LEVELS, cx_Ladder_MOST_LEVELS⟩⟩,
    ai_Ladder := ai_Ladder,
    mo_Ladder := mo_Ladder,
    kit_Ladder_Ladder := kit_Ladder_Ladder,
    mg_BadLevel := PySem.W.mg_of X G aN_BadLevel,
    e_BadLevel := { gC := PySem.W.mg_of X G aN_BadLevel, T := ⟨⟨_, _, _, _, _, _, _, _, _, _, _, _, _, _, _, x_BadLevel, r_BadLevel⟩, sa_BadLevel, xb_BadLevel, tc_BadLevel, kc_BadLevel⟩, E := ⟨ic_BadLevel, ga_BadLevel, gg_BadLevel, xb_BadLevel, ac_BadLevel, mo_BadLevel, hd_BadLevel⟩, X := ⟨ga_BadLevel, gg_BadLevel, xb_BadLevel, hd_BadLevel⟩, no := no_BadLevel, sm := sm_BadLevel, mr := mr_BadLevel, sv := sv_BadLevel, ini := ⟨_, _, _, _, a_BadLevel_init, t_BadLevel_init, ⟨⟨_, _, _, l_BadLevel_init⟩, ⟨_, rfl, rfl⟩, ⟨_, _, _, _, _, _, h_BadLevel_init, v_BadLevel_init, p_BadLevel_init⟩, ⟨_, _, _, e_BadLevel_init⟩, Option.isSome_iff_exists.mp ic_BadLevel, PySem.W.mg_none_of X G z_super, z_top, z_any⟩, .all (fun us hl => match us, hl with | [_, _], _ => rfl), _, _, _, _, _, _, _, _, rfl, l_BadLevel_init, c_BadLevel_init⟩ },
    mg_NoSuchStep := PySem.W.mg_of X G aN_NoSuchStep,
    e_NoSuchStep := { gC := PySem.W.mg_of X G aN_NoSuchStep, T := ⟨⟨_, _, _, _, _, _, _, _, _, _, _, _, _, _, _, x_NoSuchStep, r_NoSuchStep⟩, sa_NoSuchStep, xb_NoSuchStep, tc_NoSuchStep, kc_NoSuchStep⟩, E := ⟨ic_NoSuchStep, ga_NoSuchStep, gg_NoSuchStep, xb_NoSuchStep, ac_NoSuchStep, mo_NoSuchStep, hd_NoSuchStep⟩, X := ⟨ga_NoSuchStep, gg_NoSuchStep, xb_NoSuchStep, hd_NoSuchStep⟩, no := no_NoSuchStep, sm := sm_NoSuchStep, mr := mr_NoSuchStep, sv := sv_NoSuchStep, ini := ⟨_, _, _, _, a_NoSuchStep_init, t_NoSuchStep_init, ⟨⟨_, _, _, l_NoSuchStep_init⟩, ⟨_, rfl, rfl⟩, ⟨_, _, _, _, _, _, h_NoSuchStep_init, v_NoSuchStep_init, p_NoSuchStep_init⟩, ⟨_, _, _, e_NoSuchStep_init⟩, Option.isSome_iff_exists.mp ic_NoSuchStep, PySem.W.mg_none_of X G z_super, z_top, z_any⟩, .all (fun us hl => match us, hl with | [_, _], _ => rfl), _, _, _, _, _, _, _, _, rfl, l_NoSuchStep_init, c_NoSuchStep_init⟩ },
    mg_NoSuchLevel := PySem.W.mg_of X G aN_NoSuchLevel,
    e_NoSuchLevel := { gC := PySem.W.mg_of X G aN_NoSuchLevel, T := ⟨⟨_, _, _, _, _, _, _, _, _, _, _, _, _, _, _, x_NoSuchLevel, r_NoSuchLevel⟩, sa_NoSuchLevel, xb_NoSuchLevel, tc_NoSuchLevel, kc_NoSuchLevel⟩, E := ⟨ic_NoSuchLevel, ga_NoSuchLevel, gg_NoSuchLevel, xb_NoSuchLevel, ac_NoSuchLevel, mo_NoSuchLevel, hd_NoSuchLevel⟩, X := ⟨ga_NoSuchLevel, gg_NoSuchLevel, xb_NoSuchLevel, hd_NoSuchLevel⟩, no := no_NoSuchLevel, sm := sm_NoSuchLevel, mr := mr_NoSuchLevel, sv := sv_NoSuchLevel, ini := ⟨_, _, _, _, a_NoSuchLevel_init, t_NoSuchLevel_init, ⟨⟨_, _, _, l_NoSuchLevel_init⟩, ⟨_, rfl, rfl⟩, ⟨_, _, _, _, _, _, h_NoSuchLevel_init, v_NoSuchLevel_init, p_NoSuchLevel_init⟩, ⟨_, _, _, e_NoSuchLevel_init⟩, Option.isSome_iff_exists.mp ic_NoSuchLevel, PySem.W.mg_none_of X G z_super, z_top, z_any⟩, .all (fun us hl => match us, hl with | [_, _], _ => rfl), _, _, _, _, _, _, _, _, rfl, l_NoSuchLevel_init, c_NoSuchLevel_init⟩ },
    mg_TooLarge := PySem.W.mg_of X G aN_TooLarge,
    r_TooLarge := ⟨xP_TooLarge, PySem.W.mg_of X G aN_TooLarge, kc_TooLarge, xb_TooLarge, tc_TooLarge, ⟨ic_TooLarge, ga_TooLarge, gg_TooLarge, xb_TooLarge, ac_TooLarge, mo_TooLarge, hd_TooLarge⟩⟩,
    mg_HeightMismatch := PySem.W.mg_of X G aN_HeightMismatch,
    r_HeightMismatch := ⟨xP_HeightMismatch, PySem.W.mg_of X G aN_HeightMismatch, kc_HeightMismatch, xb_HeightMismatch, tc_HeightMismatch, ⟨ic_HeightMismatch, ga_HeightMismatch, gg_HeightMismatch, xb_HeightMismatch, ac_HeightMismatch, mo_HeightMismatch, hd_HeightMismatch⟩⟩,
    mg_LadderreachError := PySem.W.mg_of X G aN_LadderreachError,
    mg_BadHeight := PySem.W.mg_of X G aN_BadHeight,
    mg_ShapeMismatch := PySem.W.mg_of X G aN_ShapeMismatch,
    mg_GameError := PySem.W.mg_of X G aN_GameError,
    kit_HeightMismatch_LadderreachError := kit_HeightMismatch_LadderreachError,
    kit_HeightMismatch_ValueError := kit_HeightMismatch_ValueError,
    kit_HeightMismatch_TooLarge := kit_HeightMismatch_TooLarge,
    kit_HeightMismatch_BadHeight := kit_HeightMismatch_BadHeight,
    kit_HeightMismatch_BadLevel := kit_HeightMismatch_BadLevel,
    kit_HeightMismatch_ShapeMismatch := kit_HeightMismatch_ShapeMismatch,
    kit_HeightMismatch_GameError := kit_HeightMismatch_GameError,
    kit_TooLarge_LadderreachError := kit_TooLarge_LadderreachError,
    kit_TooLarge_ValueError := kit_TooLarge_ValueError,
    kit_TooLarge_HeightMismatch := kit_TooLarge_HeightMismatch,
    kit_TooLarge_BadHeight := kit_TooLarge_BadHeight,
    kit_TooLarge_BadLevel := kit_TooLarge_BadLevel,
    kit_TooLarge_ShapeMismatch := kit_TooLarge_ShapeMismatch,
    kit_TooLarge_GameError := kit_TooLarge_GameError,
    exm_HeightMismatch_HeightMismatch := exm_HeightMismatch_HeightMismatch,
    exm_TooLarge_HeightMismatch := exm_TooLarge_HeightMismatch,
    exm_TooLarge_TooLarge := exm_TooLarge_TooLarge }
theorem walk {l : PySem.W.OpenLaw} {q : Program} {loose : List Str} {XP : (Str → Option Value) → Heap → Prop} {YP : World → Heap → Prop} {d : DefRec} {K : Params → PySem.W.Frag} (hn : l.most = some 63) (hdf : d.params.defaults = []) (hd : d.name = "law")
    (hY : ∀ (w : World) (h : Heap), YP w h → (K w.params).In h)
    (F : ∀ (w : World) (mg : Str → Option Value) (h : Heap), (K w.params).In h → h.Ns mainGlobals mg → ∃ c, Txt l.prog (K w.params) mg c) :
    PySem.W.WalkO q loose XP YP l.row.toRowW d [] (fun f vs => PySem.call f vs) :=
  L2.walk_of (n := 63) (k := lawLevel) (x := "script") (CX := fun _ => CX0) (sp := fun w => spLaw (K w.params)) hn (by decide) hdf ⟨rfl, by decide, by decide⟩ hY
    (fun w mg fa h KX G hmg => by
      obtain ⟨ζ, T⟩ := F w mg h KX G
      obtain ⟨f, fd, Ff, hm, b⟩ := T.d_law.ex
      rw [hd, hm] at hmg
      cases hmg
      refine ⟨fd, fun s v => ?_, fun base _ _ => ok_law T Ff⟩
      obtain ⟨oc, od, kV, doc, pm, an, cdv, ct, osl, rfl, lk, hcd⟩ := Ff.ex
      exact .of_eq rfl)
    (fun _ _ a ns hl _ hS => ⟨a, ns, rfl, hS, fun _ => rfl⟩) fun _ _ _ _ _ z => z
end LR
open PySem PySem.W PyProof.Rows in
set_option maxRecDepth 100000 in
set_option maxHeartbeats 0 in
theorem PySem.Challenge.cw_ladderreach_k20_pieces_flipped_and_joine_holds : PySem.Challenge.rw_ladderreach_k20_pieces_flipped_and_joine.Holds := by
  w_on; o_law; k_head; (case hw => w_witness2)
  k_fill
  refine LR.walk (l := PySem.Challenge.rw_ladderreach_k20_pieces_flipped_and_joine) rfl rfl rfl (fun w h Y => PySem.W.kIn_of Y) ?F
  case F =>
    intro w mg h KX G
    refine' ⟨_, LR.all_mk (P := PySem.Challenge.rw_ladderreach_k20_pieces_flipped_and_joine.prog) KX G ?z_super ?z_any ?z_top ?z_len ?z_abs ?z_max ?z_min ?z_isinstance ?z_int ?z_bool ?z_str ?z_list ?z_tuple ?z_range ?z_enumerate ?z_ValueError ?o_gt ?o_tk ?a_check_height ?l_check_height ?c_check_height ?k_check_height ?a_check_same_height ?l_check_same_height ?c_check_same_height ?k_check_same_height ?a_check_row ?l_check_row ?c_check_row ?k_check_row ?a_check_step ?l_check_step ?c_check_step ?k_check_step ?a__counts_from ?l__counts_from ?c__counts_from ?k__counts_from ?a_pool ?l_pool ?c_pool ?k_pool ?a_draw ?l_draw ?c_draw ?k_draw ?a_levels ?l_levels ?c_levels ?k_levels ?a_number ?l_number ?c_number ?k_number ?a_same ?l_same ?c_same ?k_same ?a_gap ?l_gap ?c_gap ?k_gap ?a_parts ?l_parts ?c_parts ?k_parts ?a_part_of ?l_part_of ?c_part_of ?k_part_of ?a_pieces_good ?l_pieces_good ?c_pieces_good ?k_pieces_good ?a_flips ?l_flips ?c_flips ?k_flips ?a_sum ?l_sum ?c_sum ?k_sum ?a_sum_due ?l_sum_due ?c_sum_due ?k_sum_due ?a_joined ?l_joined ?c_joined ?k_joined ?a_law ?l_law ?c_law ?k_law ?aC_Ladder ?pg_Ladder ?hd_Ladder ?po_Ladder ?sa_Ladder ?na_Ladder_height ?na_Ladder_levels ?na_Ladder_top ?na_Ladder__counts ?mk_Ladder ?kc_Ladder ?a_L_init ?i_L_init ?l_L_init ?c_L_init ?k_L_init ?a_L_gap ?i_L_gap ?l_L_gap ?c_L_gap ?k_L_gap ?a_L_high ?i_L_high ?l_L_high ?c_L_high ?k_L_high ?a_L_add ?i_L_add ?l_L_add ?c_L_add ?k_L_add ?a_L_eq ?i_L_eq ?l_L_eq ?c_L_eq ?k_L_eq ?a_L_pieces ?i_L_pieces ?l_L_pieces ?c_L_pieces ?k_L_pieces ?a_L_flipped ?i_L_flipped ?l_L_flipped ?c_L_flipped ?k_L_flipped ?sf_Ladder ?cr_Ladder_MOST_LEVELS ?cg_Ladder_MOST_LEVELS ?cf_Ladder_MOST_LEVELS ?cx_Ladder_MOST_LEVELS ?ai_Ladder ?mo_Ladder ?kit_Ladder_Ladder ?aN_BadLevel ?x_BadLevel ?r_BadLevel ?sa_BadLevel ?xb_BadLevel ?tc_BadLevel ?kc_BadLevel ?ga_BadLevel ?gg_BadLevel ?ac_BadLevel ?mo_BadLevel ?hd_BadLevel ?ic_BadLevel ?no_BadLevel ?sv_BadLevel ?mr_BadLevel ?sm_BadLevel ?a_BadLevel_init ?t_BadLevel_init ?l_BadLevel_init ?c_BadLevel_init ?h_BadLevel_init ?v_BadLevel_init ?p_BadLevel_init ?e_BadLevel_init ?aN_NoSuchStep ?x_NoSuchStep ?r_NoSuchStep ?sa_NoSuchStep ?xb_NoSuchStep ?tc_NoSuchStep ?kc_NoSuchStep ?ga_NoSuchStep ?gg_NoSuchStep ?ac_NoSuchStep ?mo_NoSuchStep ?hd_NoSuchStep ?ic_NoSuchStep ?no_NoSuchStep ?sv_NoSuchStep ?mr_NoSuchStep ?sm_NoSuchStep ?a_NoSuchStep_init ?t_NoSuchStep_init ?l_NoSuchStep_init ?c_NoSuchStep_init ?h_NoSuchStep_init ?v_NoSuchStep_init ?p_NoSuchStep_init ?e_NoSuchStep_init ?aN_NoSuchLevel ?x_NoSuchLevel ?r_NoSuchLevel ?sa_NoSuchLevel ?xb_NoSuchLevel ?tc_NoSuchLevel ?kc_NoSuchLevel ?ga_NoSuchLevel ?gg_NoSuchLevel ?ac_NoSuchLevel ?mo_NoSuchLevel ?hd_NoSuchLevel ?ic_NoSuchLevel ?no_NoSuchLevel ?sv_NoSuchLevel ?mr_NoSuchLevel ?sm_NoSuchLevel ?a_NoSuchLevel_init ?t_NoSuchLevel_init ?l_NoSuchLevel_init ?c_NoSuchLevel_init ?h_NoSuchLevel_init ?v_NoSuchLevel_init ?p_NoSuchLevel_init ?e_NoSuchLevel_init ?aN_TooLarge ?xP_TooLarge ?kc_TooLarge ?xb_TooLarge ?tc_TooLarge ?ic_TooLarge ?ga_TooLarge ?gg_TooLarge ?ac_TooLarge ?mo_TooLarge ?hd_TooLarge ?aN_HeightMismatch ?xP_HeightMismatch ?kc_HeightMismatch ?xb_HeightMismatch ?tc_HeightMismatch ?ic_HeightMismatch ?ga_HeightMismatch ?gg_HeightMismatch ?ac_HeightMismatch ?mo_HeightMismatch ?hd_HeightMismatch ?aN_LadderreachError ?aN_BadHeight ?aN_ShapeMismatch ?aN_GameError ?kit_HeightMismatch_LadderreachError ?kit_HeightMismatch_ValueError ?kit_HeightMismatch_TooLarge ?kit_HeightMismatch_BadHeight ?kit_HeightMismatch_BadLevel ?kit_HeightMismatch_ShapeMismatch ?kit_HeightMismatch_GameError ?kit_TooLarge_LadderreachError ?kit_TooLarge_ValueError ?kit_TooLarge_HeightMismatch ?kit_TooLarge_BadHeight ?kit_TooLarge_BadLevel ?kit_TooLarge_ShapeMismatch ?kit_TooLarge_GameError ?exm_HeightMismatch_HeightMismatch ?exm_TooLarge_HeightMismatch ?exm_TooLarge_TooLarge⟩
    (case z_super => k_is)
    (case z_any => k_is)
    (case z_top => first | rfl | decide +kernel)
    (case z_len => k_is)
    (case z_abs => k_is)
    (case z_max => k_is)
    (case z_min => k_is)
    (case z_isinstance => k_is)
    (case z_int => k_is)
    (case z_bool => k_is)
    (case z_str => k_is)
    (case z_list => k_is)
    (case z_tuple => k_is)
    (case z_range => k_is)
    (case z_enumerate => k_is)
    (case z_ValueError => k_is)
    (case o_gt => k_is)
    (case o_tk => k_is)
    (case a_check_height => k_is)
    (case l_check_height => k_is)
    (case c_check_height => k_is)
    (case k_check_height => k_is)
    (case a_check_same_height => k_is)
    (case l_check_same_height => k_is)
    (case c_check_same_height => k_is)
    (case k_check_same_height => k_is)
    (case a_check_row => k_is)
    (case l_check_row => k_is)
    (case c_check_row => k_is)
    (case k_check_row => k_is)
    (case a_check_step => k_is)
    (case l_check_step => k_is)
    (case c_check_step => k_is)
    (case k_check_step => k_is)
    (case a__counts_from => k_is)
    (case l__counts_from => k_is)
    (case c__counts_from => k_is)
    (case k__counts_from => k_is)
    (case a_pool => k_is)
    (case l_pool => k_is)
    (case c_pool => k_is)
    (case k_pool => k_is)
    (case a_draw => k_is)
    (case l_draw => k_is)
    (case c_draw => k_is)
    (case k_draw => k_is)
    (case a_levels => k_is)
    (case l_levels => k_is)
    (case c_levels => k_is)
    (case k_levels => k_is)
    (case a_number => k_is)
    (case l_number => k_is)
    (case c_number => k_is)
    (case k_number => k_is)
    (case a_same => k_is)
    (case l_same => k_is)
    (case c_same => k_is)
    (case k_same => k_is)
    (case a_gap => k_is)
    (case l_gap => k_is)
    (case c_gap => k_is)
    (case k_gap => k_is)
    (case a_parts => k_is)
    (case l_parts => k_is)
    (case c_parts => k_is)
    (case k_parts => k_is)
    (case a_part_of => k_is)
    (case l_part_of => k_is)
    (case c_part_of => k_is)
    (case k_part_of => k_is)
    (case a_pieces_good => k_is)
    (case l_pieces_good => k_is)
    (case c_pieces_good => k_is)
    (case k_pieces_good => k_is)
    (case a_flips => k_is)
    (case l_flips => k_is)
    (case c_flips => k_is)
    (case k_flips => k_is)
    (case a_sum => k_is)
    (case l_sum => k_is)
    (case c_sum => k_is)
    (case k_sum => k_is)
    (case a_sum_due => k_is)
    (case l_sum_due => k_is)
    (case c_sum_due => k_is)
    (case k_sum_due => k_is)
    (case a_joined => k_is)
    (case l_joined => k_is)
    (case c_joined => k_is)
    (case k_joined => k_is)
    (case a_law => k_is)
    (case l_law => k_is)
    (case c_law => k_is)
    (case k_law => k_is)
    (case aC_Ladder => k_is)
    (case pg_Ladder => k_is)
    (case hd_Ladder => k_is)
    (case po_Ladder => k_is)
    (case sa_Ladder => k_is)
    (case na_Ladder_height => k_is)
    (case na_Ladder_levels => k_is)
    (case na_Ladder_top => k_is)
    (case na_Ladder__counts => k_is)
    (case mk_Ladder => k_is)
    (case kc_Ladder => k_is)
    (case a_L_init => k_is)
    (case i_L_init => k_is)
    (case l_L_init => k_is)
    (case c_L_init => k_is)
    (case k_L_init => k_is)
    (case a_L_gap => k_is)
    (case i_L_gap => k_is)
    (case l_L_gap => k_is)
    (case c_L_gap => k_is)
    (case k_L_gap => k_is)
    (case a_L_high => k_is)
    (case i_L_high => k_is)
    (case l_L_high => k_is)
    (case c_L_high => k_is)
    (case k_L_high => k_is)
    (case a_L_add => k_is)
    (case i_L_add => k_is)
    (case l_L_add => k_is)
    (case c_L_add => k_is)
    (case k_L_add => k_is)
    (case a_L_eq => k_is)
    (case i_L_eq => k_is)
    (case l_L_eq => k_is)
    (case c_L_eq => k_is)
    (case k_L_eq => k_is)
    (case a_L_pieces => k_is)
    (case i_L_pieces => k_is)
    (case l_L_pieces => k_is)
    (case c_L_pieces => k_is)
    (case k_L_pieces => k_is)
    (case a_L_flipped => k_is)
    (case i_L_flipped => k_is)
    (case l_L_flipped => k_is)
    (case c_L_flipped => k_is)
    (case k_L_flipped => k_is)
    (case sf_Ladder => k_is)
    (case cr_Ladder_MOST_LEVELS => k_is)
    (case cg_Ladder_MOST_LEVELS => k_is)
    (case cf_Ladder_MOST_LEVELS => k_is)
    (case cx_Ladder_MOST_LEVELS => exact ⟨_, rfl⟩)
    (case ai_Ladder => k_is)
    (case mo_Ladder => k_is)
    (case kit_Ladder_Ladder => first | k_is | kernel_rfl)
    (case aN_BadLevel => k_is)
    (case x_BadLevel => k_is)
    (case r_BadLevel => first | rfl | decide +kernel)
    (case sa_BadLevel => k_is)
    (case xb_BadLevel => k_is)
    (case tc_BadLevel => k_is)
    (case kc_BadLevel => k_is)
    (case ga_BadLevel => k_is)
    (case gg_BadLevel => k_is)
    (case ac_BadLevel => k_is)
    (case mo_BadLevel => k_is)
    (case hd_BadLevel => k_is)
    (case ic_BadLevel => k_is)
    (case no_BadLevel => k_is)
    (case sv_BadLevel => k_is)
    (case mr_BadLevel => first | k_is | kernel_rfl)
    (case sm_BadLevel => first | ks_is | kernel_rfl)
    (case a_BadLevel_init => k_is)
    (case t_BadLevel_init => k_is)
    (case l_BadLevel_init => k_is)
    (case c_BadLevel_init => k_is)
    (case h_BadLevel_init => k_is)
    (case v_BadLevel_init => rfl)
    (case p_BadLevel_init => first | rfl | decide +kernel)
    (case e_BadLevel_init => k_is)
    (case aN_NoSuchStep => k_is)
    (case x_NoSuchStep => k_is)
    (case r_NoSuchStep => first | rfl | decide +kernel)
    (case sa_NoSuchStep => k_is)
    (case xb_NoSuchStep => k_is)
    (case tc_NoSuchStep => k_is)
    (case kc_NoSuchStep => k_is)
    (case ga_NoSuchStep => k_is)
    (case gg_NoSuchStep => k_is)
    (case ac_NoSuchStep => k_is)
    (case mo_NoSuchStep => k_is)
    (case hd_NoSuchStep => k_is)
    (case ic_NoSuchStep => k_is)
    (case no_NoSuchStep => k_is)
    (case sv_NoSuchStep => k_is)
    (case mr_NoSuchStep => first | k_is | kernel_rfl)
    (case sm_NoSuchStep => first | ks_is | kernel_rfl)
    (case a_NoSuchStep_init => k_is)
    (case t_NoSuchStep_init => k_is)
    (case l_NoSuchStep_init => k_is)
    (case c_NoSuchStep_init => k_is)
    (case h_NoSuchStep_init => k_is)
    (case v_NoSuchStep_init => rfl)
    (case p_NoSuchStep_init => first | rfl | decide +kernel)
    (case e_NoSuchStep_init => k_is)
    (case aN_NoSuchLevel => k_is)
    (case x_NoSuchLevel => k_is)
    (case r_NoSuchLevel => first | rfl | decide +kernel)
    (case sa_NoSuchLevel => k_is)
    (case xb_NoSuchLevel => k_is)
    (case tc_NoSuchLevel => k_is)
    (case kc_NoSuchLevel => k_is)
    (case ga_NoSuchLevel => k_is)
    (case gg_NoSuchLevel => k_is)
    (case ac_NoSuchLevel => k_is)
    (case mo_NoSuchLevel => k_is)
    (case hd_NoSuchLevel => k_is)
    (case ic_NoSuchLevel => k_is)
    (case no_NoSuchLevel => k_is)
    (case sv_NoSuchLevel => k_is)
    (case mr_NoSuchLevel => first | k_is | kernel_rfl)
    (case sm_NoSuchLevel => first | ks_is | kernel_rfl)
    (case a_NoSuchLevel_init => k_is)
    (case t_NoSuchLevel_init => k_is)
    (case l_NoSuchLevel_init => k_is)
    (case c_NoSuchLevel_init => k_is)
    (case h_NoSuchLevel_init => k_is)
    (case v_NoSuchLevel_init => rfl)
    (case p_NoSuchLevel_init => first | rfl | decide +kernel)
    (case e_NoSuchLevel_init => k_is)
    (case aN_TooLarge => k_is)
    (case xP_TooLarge => k_exc)
    (case kc_TooLarge => k_is)
    (case xb_TooLarge => k_is)
    (case tc_TooLarge => k_is)
    (case ic_TooLarge => k_is)
    (case ga_TooLarge => k_is)
    (case gg_TooLarge => k_is)
    (case ac_TooLarge => k_is)
    (case mo_TooLarge => k_is)
    (case hd_TooLarge => k_is)
    (case aN_HeightMismatch => k_is)
    (case xP_HeightMismatch => k_exc)
    (case kc_HeightMismatch => k_is)
    (case xb_HeightMismatch => k_is)
    (case tc_HeightMismatch => k_is)
    (case ic_HeightMismatch => k_is)
    (case ga_HeightMismatch => k_is)
    (case gg_HeightMismatch => k_is)
    (case ac_HeightMismatch => k_is)
    (case mo_HeightMismatch => k_is)
    (case hd_HeightMismatch => k_is)
    (case aN_LadderreachError => k_is)
    (case aN_BadHeight => k_is)
    (case aN_ShapeMismatch => k_is)
    (case aN_GameError => k_is)
    (case kit_HeightMismatch_LadderreachError => first | k_is | kernel_rfl)
    (case kit_HeightMismatch_ValueError => first | k_is | kernel_rfl)
    (case kit_HeightMismatch_TooLarge => first | k_is | kernel_rfl)
    (case kit_HeightMismatch_BadHeight => first | k_is | kernel_rfl)
    (case kit_HeightMismatch_BadLevel => first | k_is | kernel_rfl)
    (case kit_HeightMismatch_ShapeMismatch => first | k_is | kernel_rfl)
    (case kit_HeightMismatch_GameError => first | k_is | kernel_rfl)
    (case kit_TooLarge_LadderreachError => first | k_is | kernel_rfl)
    (case kit_TooLarge_ValueError => first | k_is | kernel_rfl)
    (case kit_TooLarge_HeightMismatch => first | k_is | kernel_rfl)
    (case kit_TooLarge_BadHeight => first | k_is | kernel_rfl)
    (case kit_TooLarge_BadLevel => first | k_is | kernel_rfl)
    (case kit_TooLarge_ShapeMismatch => first | k_is | kernel_rfl)
    (case kit_TooLarge_GameError => first | k_is | kernel_rfl)
    (case exm_HeightMismatch_HeightMismatch => first | k_is | kernel_rfl)
    (case exm_TooLarge_HeightMismatch => first | k_is | kernel_rfl)
    (case exm_TooLarge_TooLarge => first | k_is | kernel_rfl)

