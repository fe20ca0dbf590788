import PyProof.Rows.All
import Wide.All
import OpenK.AllK
import Wide.FinOn
import HandS.ForMost
import HandS.IsInst
import HandS.Codes
import HandS.Property
import HandS.WideBits
import HandS.Walk
import HandS.TupMul
import HandS.TryOnly
import HandS.Style
import HandS.ForExc
import KE.DataEq
import HandS.More
import HandS.ExcInit
import HandS.ExcOwn
import HandS.ExcField
import HandS.WordsExc
import KE.KExcIs
import HandS.OwnEq
import HandS.ExcIs
import KE.GoesMore
import HandS.HotCalls
import HandS.ExcInitHot
import HandS.FStr
import HandS.Rev
import HandS.RevTup
import KE.GoesEnumKw
import HandS.Zip
import KE.KAsSuite
import PySem.Challenge.RW_stillinstep_k26_crews_checked
set_option Elab.async false
set_option linter.all false
set_option maxRecDepth 100000
set_option maxHeartbeats 0
namespace Vk
open PySem L2
/-! ### a def that stands and keeps its promise, by its name -/
structure Ok (P : Program) (w : World) (K : PySem.W.Frag) (mg : Str → Option Value) (base : Heap) (k : Nat) (x : Str) (ps : List Str) (sp : Sp) : Prop where
  ex : ∃ (f : Addr) (fd : FuncData), FnOk P w K mg base CX0 k f fd ps sp ∧ Binds K fd ps [] ∧ PySem.W.keepIn K (.ref f) = true ∧ mg x = some (.ref f)
theorem Ok.mono {P w K mg base j k x ps sp} (O : Ok P w K mg base j x ps sp) (h : j ≤ k) : Ok P w K mg base k x ps sp := by
  obtain ⟨f, fd, F, r⟩ := O.ex
  exact ⟨f, fd, F.mono h, r⟩
theorem pe_c {X : Cx} {k : Nat} {ps : List Str} {sp : Sp} {x : Str} {p pos : Pos} {e : Expr} {es : List Expr} {t : TA} (O : Ok X.prog X.w X.K X.mg X.base k x ps sp) (hr : Room k X.A) (hg : Gl X x)
    (ha : PA X (e :: es) t) (hdb : (x == ("__debug__" : Str)) = false := by decide) (he : starEach (e :: es) X.env = (false, eval e X.env) :: starEach es X.env := by rfl) (hpl : (backTo pos (starEach es X.env)).any (·.1) = false := by rfl) :
    PE X (.Call (.Name x p) (e :: es) [] pos) (tCall sp [] E0 t) := by
  obtain ⟨f, fd, F, b, kp, m⟩ := O.ex
  exact pe_call F hr hg m kp b .nil pass0 ha hdb he hpl
/-- f(k = v, ..): keywords alone -/
theorem pe_kw0 {X : Cx} {k : Nat} {f : Addr} {fd : FuncData} {ps ks : List Str} {sp : Sp} {x : Str} {p pos : Pos} {kws : List Keyword} {tk : TA} {g : List Value → List Value → List Value} {gV : List V → List V → List V}
    (F : FnOk X.prog X.w X.K X.mg X.base CX0 k f fd ps sp) (hr : Room k X.A) (hg : Gl X x) (hm : X.mg x = some (.ref f)) (hk : PySem.W.keepIn X.K (.ref f) = true) (hb : KBinds X.K fd ps ks g gV) (hkw : PK X kws tk)
    (hall : (backToKw pos (keywordEach kws X.env)).all (·.1.isSome) = true := by rfl) (hks : (backToKw pos (keywordEach kws X.env)).filterMap (·.1) = ks := by rfl) (hdb : (x == ("__debug__" : Str)) = false := by decide)
    (hpl : ((backTo pos (starEach [] X.env)).any (·.1) || (backToKw pos (keywordEach kws X.env)).any (·.1.isNone)) = false := by rfl) :
    PE X (.Call (.Name x p) [] kws pos) (tCallK sp gV E0 tNil tk) := by
  refine ⟨fun pins s σ H Q I h => ?_⟩
  refine wpAny_Call_Name_kw (ld_glob I hg hm ?_ hdb)
  refine PySem.W.callWith_KW0 (h₀ := X.base) I.ok.mod.kin hk hall ?_ hpl
  refine thn (hkw.run pos pins s σ H _ I h) fun ws s2 ⟨zs, H2, I2, rz, q2⟩ => ⟨I2.kIn, ?_⟩
  rw [hks]
  exact run_fnk (us := []) (vs := []) F hr hb pass0 I2 .nil rz q2
/-- two keywords in the other order -/
def swapG {α : Type} : List α → List α → List α
  | [], [a, b] => [b, a]
  | _, _ => []
theorem kbinds_swap {K : PySem.W.Frag} {x qual a b : Str} {st : Stmt} {f : Addr} {fd : FuncData} (F : Fun K x qual st f fd)
    (h : ∀ (kV doc pm : Value) (an : Option Addr) (cdv ct : Value) (u v : Value), bindArgs (PySem.W.fnOf x qual (defArgs st) (defBody st) (defScope st) .none kV doc pm an cdv ct) ⟨[], [(b, u), (a, v)]⟩ = pure [(a, v), (b, u)]) : KBinds K fd [a, b] [b, a] swapG swapG := by
  obtain ⟨oc, od, kV, doc, pm, an, cdv, ct, osl, rfl, lk, hcd⟩ := F.ex
  refine ⟨fun s us ws _ hl => ?_, fun {vs us zs ws} r1 r2 => ?_⟩
  · match us, ws, hl with
    | [], [u, v], _ => exact .of_eq (h kV doc pm an cdv ct u v)
  · cases r1 with
    | nil =>
      cases r2 with
      | nil => exact .nil
      | cons x r3 =>
        cases r3 with
        | nil => exact .nil
        | cons y r4 =>
          cases r4 with
          | nil => exact .cons y (.cons x .nil)
          | cons z r5 => exact .nil
    | cons x r3 => exact .nil
/-! ### heaps -/
theorem same_new {H : Hp} {p : Addr} (h : H p = none) (o : HO) : Same H (upd H p o) := fun b u q => by rw [upd_ne (ne_of_none q h)]; exact q
theorem Same.tup {K : PySem.W.Frag} {H H' : Hp} {a : Addr} {xs : List V} (e : Same H H') (h : SqT K H a xs) : SqT K H' a xs := by
  rcases h with (h | ⟨o, h⟩) | h
  · exact .inl (.inl (e _ _ h))
  · exact .inl (.inr ⟨o, e _ _ h⟩)
  · exact .inr h
/-- a feed: a list of three ints -/
def Fd (H : Hp) (a : Addr) : Prop := ∃ x y z : Int, H a = some (.lst [.int x, .int y, .int z])
/-- all but the list at a is as it was -/
def Stp (a : Addr) (H H' : Hp) : Prop := (∀ b o, b ≠ a → H b = some o → H' b = some o) ∧ Fd H' a
theorem Stp.refl {a : Addr} {H : Hp} (h : Fd H a) : Stp a H H := ⟨fun _ _ _ q => q, h⟩
theorem Stp.trans {a : Addr} {H H1 H2 : Hp} (h : Stp a H H1) (g : Stp a H1 H2) : Stp a H H2 := ⟨fun b o n q => g.1 b o n (h.1 b o n q), g.2⟩
theorem Fd.same {a : Addr} {H H' : Hp} (h : Fd H a) (s : Same H H') : Fd H' a := by
  obtain ⟨x, y, z, e⟩ := h
  exact ⟨x, y, z, s _ _ e⟩
theorem Stp.same {a : Addr} {H H1 H2 : Hp} (h : Stp a H H1) (s : Same H1 H2) : Stp a H H2 := ⟨fun b o n q => s _ _ (h.1 b o n q), h.2.same s⟩
theorem Stp.of {a : Addr} {H H' : Hp} (h : Fd H a) (s : Same H H') : Stp a H H' := (Stp.refl h).same s
theorem Stp.tup {K : PySem.W.Frag} {a b : Addr} {H H' : Hp} {xs : List V} (h : Fd H a) (s : Stp a H H') (q : SqT K H b xs) : SqT K H' b xs := by
  obtain ⟨x, y, z, e⟩ := h
  rcases q with (q | ⟨o, q⟩) | q
  · exact .inl (.inl (s.1 _ _ (ne_of q e (by intro z; cases z)) q))
  · exact .inl (.inr ⟨o, s.1 _ _ (ne_of q e (by intro z; cases z)) q⟩)
  · exact .inr q
/-- tuples stay -/
def Tu (K : PySem.W.Frag) (H H' : Hp) : Prop := ∀ b xs, SqT K H b xs → SqT K H' b xs
theorem Same.tu {K : PySem.W.Frag} {H H' : Hp} (e : Same H H') : Tu K H H' := fun _ _ h => Vk.Same.tup e h
theorem Stp.tu {K : PySem.W.Frag} {a : Addr} {H H' : Hp} (s : Stp a H H') (h : Fd H a) : Tu K H H' := fun _ _ q => s.tup h q
theorem Tu.trans {K : PySem.W.Frag} {H H1 H2 : Hp} (a : Tu K H H1) (b : Tu K H1 H2) : Tu K H H2 := fun _ _ q => b _ _ (a _ _ q)
theorem Tu.refl {K : PySem.W.Frag} {H : Hp} : Tu K H H := fun _ _ q => q
/-! ### places -/
theorem atI_in {α : Type} {xs : List α} {i : Int} (h0 : 0 ≤ i) (h : i < xs.length) : ∃ v, v ∈ xs ∧ atI xs i = some v := by
  have hk : i.toNat < xs.length := by omega
  have ek : ((i.toNat : Nat) : Int) = i := by omega
  have q : atI xs ((i.toNat : Nat) : Int) = some (xs[i.toNat]) := atI_nat (List.getElem?_eq_getElem hk)
  rw [ek] at q
  exact ⟨xs[i.toNat], List.getElem_mem hk, q⟩
/-! ### the draws -/
def spTake : Sp := fun vs H Q _ => ∃ (a : Addr) (n : Int), vs = [.ref a, .int n] ∧ Fd H a ∧ 0 < n ∧ n < 1073741824 ∧ ∀ r H', 0 ≤ r → r < n → Stp a H H' → Q (.int r) H'
def spFeed : Sp := fun vs H Q _ => ∃ (n : Int), vs = [.int n] ∧ ∀ p H', Same H H' → H p = none → Fd H' p → Q (.ref p) H'
def spCellv (K : PySem.W.Frag) : Sp := fun vs H Q _ => ∃ (a : Addr) (ns : List Int) (k : Int), vs = [.ref a, .int k] ∧ SqL K H a (ns.map V.int) ∧ 0 ≤ k ∧ k < 1000 ∧ ∀ n : Int, Q (.int n) H
theorem fmod_lo {a b : Int} (h : 0 < b) : 0 ≤ a.fmod b := Int.fmod_nonneg_of_pos a h
theorem fmod_hi {a b : Int} (h : 0 < b) : a.fmod b < b := Int.fmod_lt_of_pos a h
theorem ite2' {c A B : Prop} [Decidable c] (h1 : c → A) (h2 : ¬ c → B) : if decide c = true then A else B := ite2 (fun h => h1 (of_decide_eq_true h)) (fun h => h2 (fun z => h (decide_eq_true z)))
theorem execs_app (xs ys : List Stmt) (env : Env) : execs (xs ++ ys) env = (execs xs env >>= fun f => match f with | .next => execs ys env | f => pure f) := by
  induction xs with
  | nil =>
    show execs ys env = (pure Flow.next >>= _)
    rw [pure_bind]
  | cons st rest ih =>
    show (exec st env >>= fun f => match f with | .next => execs (rest ++ ys) env | f => pure f) = ((exec st env >>= fun f => match f with | .next => execs rest env | f => pure f) >>= _)
    rw [bind_assoc]
    refine congrArg _ (funext fun f => ?_)
    cases f with
    | next => exact ih
    | ret v => exact (pure_bind _ _).symm
    | brk => exact (pure_bind _ _).symm
    | cont => exact (pure_bind _ _).symm
/-- a block cut behind its first n statements: what follows is shown once, from Mid -/
theorem pss_cutAt {X : Cx} {l : List Stmt} {t u : TS} (n : Nat) (h1 : PSs X (l.take n) t) (h2 : PSs X (l.drop n) u) : PSs X l (C8.tCut t u) := by
  refine ⟨fun pins s σ H D I h => ?_⟩
  obtain ⟨Mid, hm, hu⟩ := h
  rw [← List.take_append_drop n l, execs_app]
  refine wpAny_bind (thn (h1.run pins s σ H { D with nx := Mid } I hm) fun f s1 q => ?_)
  cases f with
  | next =>
    obtain ⟨σ', H', I', q⟩ := q
    exact h2.run pins s1 σ' H' D I' (hu σ' H' q)
  | ret v => exact wpAny_pure q
  | brk => exact wpAny_pure q
  | cont => exact wpAny_pure q
/-! ### tests whose answer is known -/
theorem itY {A B : Prop} {x : V} (h : A) : if decide (x = x) = true then A else B := by rw [decide_eq_true rfl]; exact iteT h
theorem itN {A B : Prop} {x y : V} (n : x ≠ y) (h : B) : if decide (x = y) = true then A else B := by rw [decide_eq_false n]; exact iteF h
theorem itYn {A B : Prop} {x : V} (h : B) : if (!decide (x = x)) = true then A else B := by rw [decide_eq_true rfl]; exact iteF h
theorem itNn {A B : Prop} {x y : V} (n : x ≠ y) (h : A) : if (!decide (x = y)) = true then A else B := by rw [decide_eq_false n]; exact iteT h
theorem strNe {x y : Str} (h : x ≠ y) : V.str x ≠ V.str y := fun z => h (V.str.inj z)
end Vk
namespace Vk
open PySem L2
/-! ### either of two readings -/
theorem pi_or {X : Cx} {tg it : Expr} {w1 w2 : TI} (p : PI X tg it w1) (q : PI X tg it w2) : PI X tg it (fun σ H R => w1 σ H R ∨ w2 σ H R) :=
  ⟨fun pins s σ H R I h => h.elim (p.run pins s σ H R I) (q.run pins s σ H R I)⟩
/-- a walk over a list or a tuple -/
theorem pi_seq {X : Cx} {tg e : Expr} {te : TE} (he : PE X e te) : PI X tg e (fun σ H R => iList X.K te σ H R ∨ iTup X.K te σ H R) := pi_or (pi_list he) (pi_tup he)
theorem pe_or {X : Cx} {e : Expr} {t1 t2 : TE} (p : PE X e t1) (q : PE X e t2) : PE X e (fun σ H Q => t1 σ H Q ∨ t2 σ H Q) :=
  ⟨fun pins s σ H Q I h => h.elim (p.run pins s σ H Q I) (q.run pins s σ H Q I)⟩
/-! ### properties, own classes, keyword calls, by their names -/
structure OkProp (P : Program) (w : World) (K : PySem.W.Frag) (mg : Str → Option Value) (base : Heap) (k : Nat) (C : Addr) (x : Str) (sp : Sp) : Prop where
  ex : ∃ (j : Nat) (p g : Addr) (fd : FuncData), j + 1 ≤ k ∧ PropOf K C x p g ∧ FnOk P w K mg base CX0 j g fd ["self"] sp ∧ Binds K fd ["self"] []
theorem OkProp.mono {P w K mg base j k C x sp} (O : OkProp P w K mg base j C x sp) (h : j ≤ k) : OkProp P w K mg base k C x sp := by
  obtain ⟨i, p, g, fd, hj, r⟩ := O.ex
  exact ⟨i, p, g, fd, Nat.le_trans hj h, r⟩
theorem pe_p {X : Cx} {k : Nat} {C : Addr} {x : Str} {sp : Sp} {e : Expr} {pos : Pos} {ta : TE} (O : OkProp X.prog X.w X.K X.mg X.base k C x sp) (c : Cls X.K C) (hr : Room k X.A) (he : PE X e ta) (hab : attributeBase e x X.env (eval e X.env) = eval e X.env) :
    PE X (.Attribute e x pos) (tProp C sp [] E0 ta) := by
  obtain ⟨i, p, g, fd, hj, hp, F, b⟩ := O.ex
  exact pe_prop he c hp F (hr.mono hj) b .nil pass0 hab
structure OkNew (P : Program) (w : World) (K : PySem.W.Frag) (mg : Str → Option Value) (base : Heap) (k : Nat) (C : Addr) (x : Str) (ps : List Str) (sp : Sp) : Prop where
  ex : ∃ (j : Nat) (f : Addr) (fd : FuncData), j + 1 ≤ k ∧ Mk K C f ∧ FnOk P w K mg base CX0 j f fd ps sp ∧ Binds K fd ps [] ∧ mg x = some (.ref C)
theorem OkNew.mono {P w K mg base j k C x ps sp} (O : OkNew P w K mg base j C x ps sp) (h : j ≤ k) : OkNew P w K mg base k C x ps sp := by
  obtain ⟨i, f, fd, hj, r⟩ := O.ex
  exact ⟨i, f, fd, Nat.le_trans hj h, r⟩
theorem pe_new {X : Cx} {k : Nat} {C : Addr} {x : Str} {ps : List Str} {sp : Sp} {p pos : Pos} {e : Expr} {es : List Expr} {t : TA} (O : OkNew X.prog X.w X.K X.mg X.base k C x ps sp) (hr : Room k X.A) (hg : Gl X x)
    (ha : PA X (e :: es) t) (hdb : (x == ("__debug__" : Str)) = false := by decide) (he : starEach (e :: es) X.env = (false, eval e X.env) :: starEach es X.env := by rfl) (hpl : (backTo pos (starEach es X.env)).any (·.1) = false := by rfl) :
    PE X (.Call (.Name x p) (e :: es) [] pos) (tMake C sp [] E0 t) := by
  obtain ⟨j, f, fd, hj, M, F, b, m⟩ := O.ex
  exact pe_make M F (hr.mono hj) hg m b .nil pass0 ha hdb he hpl
structure OkK (P : Program) (w : World) (K : PySem.W.Frag) (mg : Str → Option Value) (base : Heap) (k : Nat) (x : Str) (ps ks : List Str) (g : List Value → List Value → List Value) (gV : List V → List V → List V) (sp : Sp) : Prop where
  ex : ∃ (f : Addr) (fd : FuncData), FnOk P w K mg base CX0 k f fd ps sp ∧ KBinds K fd ps ks g gV ∧ PySem.W.keepIn K (.ref f) = true ∧ mg x = some (.ref f)
theorem OkK.mono {P w K mg base j k x ps ks g gV sp} (O : OkK P w K mg base j x ps ks g gV sp) (h : j ≤ k) : OkK P w K mg base k x ps ks g gV sp := by
  obtain ⟨f, fd, F, r⟩ := O.ex
  exact ⟨f, fd, F.mono h, r⟩
theorem pe_ck {X : Cx} {k : Nat} {ps ks : List Str} {sp : Sp} {x : Str} {p pos : Pos} {kws : List Keyword} {tk : TA} {g : List Value → List Value → List Value} {gV : List V → List V → List V} (O : OkK X.prog X.w X.K X.mg X.base k x ps ks g gV sp) (hr : Room k X.A) (hg : Gl X x) (hkw : PK X kws tk)
    (hall : (backToKw pos (keywordEach kws X.env)).all (·.1.isSome) = true := by rfl) (hks : (backToKw pos (keywordEach kws X.env)).filterMap (·.1) = ks := by rfl) (hdb : (x == ("__debug__" : Str)) = false := by decide)
    (hpl : ((backTo pos (starEach [] X.env)).any (·.1) || (backToKw pos (keywordEach kws X.env)).any (·.1.isNone)) = false := by rfl) :
    PE X (.Call (.Name x p) [] kws pos) (tCallK sp gV E0 tNil tk) := by
  obtain ⟨f, fd, F, b, kp, m⟩ := O.ex
  exact pe_kw0 F hr hg m kp b hkw hall hks hdb hpl
theorem pe_c0 {X : Cx} {k : Nat} {ps : List Str} {sp : Sp} {x : Str} {p pos : Pos} (O : Ok X.prog X.w X.K X.mg X.base k x ps sp) (hr : Room k X.A) (hg : Gl X x) (hdb : (x == ("__debug__" : Str)) = false := by decide) :
    PE X (.Call (.Name x p) [] [] pos) (tCall sp [] E0 tNil) := by
  obtain ⟨f, fd, F, b, kp, m⟩ := O.ex
  exact pe_call0 F hr hg m kp b .nil pass0 hdb
/-! ### feeds -/
/-- what is kept while a feed is drawn from -/
theorem Stp.keep {a b : Addr} {H H' : Hp} {o : HO} (s : Stp a H H') (h : H b = some o) (n : b ≠ a) : H' b = some o := s.1 b o n h
theorem Fd.ne {H : Hp} {a p : Addr} (h : Fd H a) (e : H p = none) : p ≠ a := by
  obtain ⟨x, y, z, q⟩ := h
  exact (ne_of_none q e).symm
end Vk
namespace Vk
open PySem L2
/-! ### readings by name -/
def rLenS (K : PySem.W.Frag) : List V → Hp → VK → Prop := fun xs H Q => ∃ p ys, xs = [.ref p] ∧ (SqL K H p ys ∨ SqT K H p ys) ∧ Q (.int ys.length) H
theorem call_lenK {X : Cx} : CallR X (.builtin "len") (rLenS X.K) := call_len_seq
def rListOf (K : PySem.W.Frag) : List V → Hp → VK → Prop := fun xs H Q => ∃ p ys, xs = [.ref p] ∧ (SqL K H p ys ∨ SqT K H p ys) ∧ ∀ l, H l = none → Q (.ref l) (upd H l (.lst ys))
theorem call_listK {X : Cx} : CallR X (.type "list") (rListOf X.K) := call_list_of
def rTupOf (K : PySem.W.Frag) : List V → Hp → VK → Prop := fun xs H Q => ∃ p ys, xs = [.ref p] ∧ ((SqL K H p ys ∧ ∀ l, H l = none → Q (.ref l) (upd H l (.tup ys))) ∨ (SqT K H p ys ∧ Q (.ref p) H))
theorem call_tupleK {X : Cx} : CallR X (.type "tuple") (rTupOf X.K) := call_tuple_of
theorem bT {c : Prop} [Decidable c] {Q : VK} {H : Hp} (h : c) (q : Q (.bl true) H) : Q (.bl (decide c)) H := by rw [decide_eq_true h]; exact q
theorem bF {c : Prop} [Decidable c] {Q : VK} {H : Hp} (h : ¬ c) (q : Q (.bl false) H) : Q (.bl (decide c)) H := by rw [decide_eq_false h]; exact q
theorem bE {b b' : Bool} {Q : VK} {H : Hp} (e : b' = b) (q : Q (.bl b) H) : Q (.bl b') H := e ▸ q
theorem vE {b b' : V} {Q : VK} {H : Hp} (e : b' = b) (q : Q b H) : Q b' H := e ▸ q
theorem iE {b b' : Int} {Q : VK} {H : Hp} (e : b' = b) (q : Q (.int b) H) : Q (.int b') H := e ▸ q
/-! ### rows of whole numbers that are not negative -/
def ni (ns : List Nat) : List V := ns.map fun n : Nat => V.int (n : Int)
theorem ni_len (ns : List Nat) : (ni ns).length = ns.length := List.length_map ..
theorem ni_get {ns : List Nat} {i : Nat} {n : Nat} (h : ns[i]? = some n) : (ni ns)[i]? = some (V.int (n : Int)) := by
  unfold ni
  rw [List.getElem?_map, h]
  rfl
theorem ni_app (a b : List Nat) : ni (a ++ b) = ni a ++ ni b := List.map_append ..
theorem ni_mem {ns : List Nat} {v : V} (h : v ∈ ni ns) : ∃ n ∈ ns, v = V.int (n : Int) := by
  obtain ⟨n, m, rfl⟩ := List.mem_map.mp h
  exact ⟨n, m, rfl⟩
theorem ni_at {ns : List Nat} {i : Nat} {v : V} (h : (ni ns)[i]? = some v) : ∃ n, ns[i]? = some n ∧ v = V.int (n : Int) := by
  unfold ni at h
  rw [List.getElem?_map] at h
  cases e : ns[i]? with
  | none => rw [e] at h; cases h
  | some n => rw [e] at h; exact ⟨n, rfl, (Option.some.inj h).symm⟩
theorem ni_atI {ns : List Nat} {i : Nat} {n : Nat} (h : ns[i]? = some n) : atI (ni ns) ((i : Nat) : Int) = some (V.int (n : Int)) := atI_nat (ni_get h)
theorem ni_set (ns : List Nat) (i n : Nat) : (ni ns).set i (V.int (n : Int)) = ni (ns.set i n) := by
  unfold ni
  exact List.map_set.symm
theorem get_of_lt {α : Type} {xs : List α} {i : Nat} (h : i < xs.length) : ∃ x, xs[i]? = some x := ⟨xs[i], List.getElem?_eq_getElem h⟩
theorem lt_of_get {α : Type} {xs : List α} {i : Nat} {x : α} (h : xs[i]? = some x) : i < xs.length := (List.getElem?_eq_some_iff.mp h).1
theorem mem_of_get {α : Type} {xs : List α} {i : Nat} {x : α} (h : xs[i]? = some x) : x ∈ xs := List.mem_of_getElem? h
/-- two rows side by side -/
structure LL {α β : Type} (P : α → β → Prop) (as : List α) (rs : List β) : Prop where
  len : as.length = rs.length
  at_ : ∀ (i : Nat) (a : α) (r : β), as[i]? = some a → rs[i]? = some r → P a r
theorem LL.nil {α β : Type} {P : α → β → Prop} : LL P ([] : List α) ([] : List β) := ⟨rfl, fun i a r h => by simp at h⟩
theorem LL.mono {α β : Type} {P Q : α → β → Prop} {as : List α} {rs : List β} (h : LL P as rs) (q : ∀ a r, P a r → Q a r) : LL Q as rs := ⟨h.len, fun i a r ha hr => q a r (h.at_ i a r ha hr)⟩
theorem LL.snoc {α β : Type} {P : α → β → Prop} {as : List α} {rs : List β} {a : α} {r : β} (h : LL P as rs) (p : P a r) : LL P (as ++ [a]) (rs ++ [r]) := by
  refine ⟨by simp [h.len], fun i a' r' ha hr => ?_⟩
  by_cases c : i < as.length
  · rw [List.getElem?_append_left c] at ha
    rw [List.getElem?_append_left (h.len ▸ c)] at hr
    exact h.at_ i a' r' ha hr
  · rw [List.getElem?_append_right (by omega)] at ha
    rw [List.getElem?_append_right (by have := h.len; omega)] at hr
    rw [h.len] at ha
    cases e : i - rs.length with
    | zero =>
      rw [e] at ha hr
      simp at ha hr
      subst ha; subst hr
      exact p
    | succ n =>
      rw [e] at ha
      simp at ha
theorem LL.get {α β : Type} {P : α → β → Prop} {as : List α} {rs : List β} (h : LL P as rs) {i : Nat} {r : β} (e : rs[i]? = some r) : ∃ a, as[i]? = some a ∧ P a r := by
  obtain ⟨a, ea⟩ := get_of_lt (xs := as) (i := i) (h.len ▸ lt_of_get e)
  exact ⟨a, ea, h.at_ i a r ea e⟩
theorem LL.getL {α β : Type} {P : α → β → Prop} {as : List α} {rs : List β} (h : LL P as rs) {i : Nat} {a : α} (e : as[i]? = some a) : ∃ r, rs[i]? = some r ∧ P a r := by
  obtain ⟨r, er⟩ := get_of_lt (xs := rs) (i := i) (h.len ▸ lt_of_get e)
  exact ⟨r, er, h.at_ i a r e er⟩
/-- references of a row -/
def rf (as : List Addr) : List V := as.map V.ref
theorem rf_len (as : List Addr) : (rf as).length = as.length := List.length_map ..
theorem rf_get {as : List Addr} {i : Nat} {a : Addr} (h : as[i]? = some a) : (rf as)[i]? = some (V.ref a) := by
  unfold rf
  rw [List.getElem?_map, h]
  rfl
theorem rf_at {as : List Addr} {i : Nat} {v : V} (h : (rf as)[i]? = some v) : ∃ a, as[i]? = some a ∧ v = V.ref a := by
  unfold rf at h
  rw [List.getElem?_map] at h
  cases e : as[i]? with
  | none => rw [e] at h; cases h
  | some n => rw [e] at h; exact ⟨n, rfl, (Option.some.inj h).symm⟩
theorem rf_app (a b : List Addr) : rf (a ++ b) = rf a ++ rf b := List.map_append ..
/-! ### what a store to a list leaves -/
theorem SqT.updL {K : PySem.W.Frag} {H : Hp} {a b : Addr} {xs ys : List V} {o : HO} (h : SqT K H a xs) (e : H b = some (.lst ys)) : SqT K (upd H b o) a xs := by
  rcases h with (h | ⟨u, h⟩) | h
  · exact .inl (.inl ((upd_ne (ne_of h e (by intro z; cases z))).trans h))
  · exact .inl (.inr ⟨u, (upd_ne (ne_of h e (by intro z; cases z))).trans h⟩)
  · exact .inr h
/-- the instance at p, its fields: kept by a store to a list -/
theorem ins_updL {H : Hp} {p b C dx : Addr} {fs : List (Str × V)} {ys : List V} {o : HO} (h : H p = some (.ins C dx fs)) (e : H b = some (.lst ys)) : upd H b o p = some (.ins C dx fs) := (upd_ne (ne_of h e (by intro z; cases z))).trans h
theorem upd_keep {H : Hp} {b c : Addr} {o u : HO} (h : H c = some u) (n : c ≠ b) : upd H b o c = some u := (upd_ne n).trans h
theorem same_upd {H0 H : Hp} {b : Addr} {o : HO} (s : Same H0 H) (n : H0 b = none) : Same H0 (upd H b o) := fun c u e => by
  rw [upd_ne (ne_of_none e n)]
  exact s c u e
theorem Same.new {H0 H : Hp} {b : Addr} {o : HO} (s : Same H0 H) (n : H b = none) : Same H0 (upd H b o) := s.trans (same_new n o)
theorem Same.fr {H0 H : Hp} {b : Addr} (s : Same H0 H) (n : H b = none) : H0 b = none := s.free n
theorem sNe {H : Hp} {a b : Addr} {o : HO} (h : H a = some o) (n : H b = none) : a ≠ b := ne_of_none h n
theorem stp_new {a b : Addr} {H H1 : Hp} {o : HO} (s : Stp a H H1) (n : H1 b = none) : Stp a H (upd H1 b o) := s.same (same_new n o)
/-- a store to an object that was not there at the start -/
theorem stp_upd {a b : Addr} {H H1 : Hp} {o : HO} (s : Stp a H H1) (n : H b = none) (na : b ≠ a) : Stp a H (upd H1 b o) := by
  refine ⟨fun c u nc e => ?_, ?_⟩
  · rw [upd_ne (ne_of_none e n)]
    exact s.1 c u nc e
  · obtain ⟨x, y, z, e⟩ := s.2
    exact ⟨x, y, z, (upd_ne na.symm).trans e⟩
/-! ### draws as whole numbers that are not negative -/
theorem rd_takeN {σ : St} {H : Hp} {Q : VK} {a : Addr} {n : Int} {i : Nat} (hσ : σ[i]? = some (some (.ref a))) (hF : Fd H a) (n0 : 0 < n) (n1 : n < 1073741824) (q : ∀ (m : Nat) H', (m : Int) < n → Stp a H H' → Q (.int (m : Int)) H') :
    tCall spTake [] E0 (tCons (tVar i) (tCons (tC (.int n)) tNil)) σ H Q := ⟨_, hσ, a, n, rfl, hF, n0, n1, fun r H' r0 r1 s => by
      obtain ⟨m, rfl⟩ := Int.eq_ofNat_of_zero_le r0
      exact q m H' r1 s⟩
/-- the promise of a draw, as whole number -/
theorem spTake_n {a : Addr} {n : Int} {H : Hp} {Q : VK} {E : XK} (hF : Fd H a) (n0 : 0 < n) (n1 : n < 1073741824) (q : ∀ (m : Nat) H', (m : Int) < n → Stp a H H' → Q (.int (m : Int)) H') : spTake [.ref a, .int n] H Q E :=
  ⟨a, n, rfl, hF, n0, n1, fun r H' r0 r1 s => by
      obtain ⟨m, rfl⟩ := Int.eq_ofNat_of_zero_le r0
      exact q m H' r1 s⟩
end Vk
namespace Vk
open PySem L2
theorem line1000 {n m : Nat} (h : n < m) (hm : m ≤ 1000) : n < sizeLine := by
  have := small1000 (n := n + 1) (by omega)
  omega
theorem itT {c A B : Prop} [Decidable c] (h : c) (a : A) : if decide c = true then A else B := by rw [decide_eq_true h]; exact iteT a
theorem itF {c A B : Prop} [Decidable c] (h : ¬ c) (b : B) : if decide c = true then A else B := by rw [decide_eq_false h]; exact iteF b
theorem itTn {c A B : Prop} [Decidable c] (h : c) (b : B) : if (!decide c) = true then A else B := by rw [decide_eq_true h]; exact iteF b
theorem itFn {c A B : Prop} [Decidable c] (h : ¬ c) (a : A) : if (!decide c) = true then A else B := by rw [decide_eq_false h]; exact iteT a
theorem iteI {a b : Int} {A B : Prop} (h1 : a = b → A) (h2 : a ≠ b → B) : if decide (V.int a = V.int b) = true then A else B := by
  by_cases c : a = b
  · subst c; rw [decide_eq_true rfl]; exact iteT (h1 rfl)
  · rw [decide_eq_false (fun z => c (V.int.inj z))]; exact iteF (h2 c)
theorem iteIn {a b : Int} {A B : Prop} (h1 : a ≠ b → A) (h2 : a = b → B) : if (!decide (V.int a = V.int b)) = true then A else B := by
  by_cases c : a = b
  · subst c; rw [decide_eq_true rfl]; exact iteF (h2 rfl)
  · rw [decide_eq_false (fun z => c (V.int.inj z))]; exact iteT (h1 c)
theorem itD {c A B : Prop} [Decidable c] (h1 : c → A) (h2 : ¬ c → B) : if decide c = true then A else B := by
  by_cases h : c
  · exact itT h (h1 h)
  · exact itF h (h2 h)
theorem itDn {c A B : Prop} [Decidable c] (h1 : ¬ c → A) (h2 : c → B) : if (!decide c) = true then A else B := by
  by_cases h : c
  · exact itTn h (h2 h)
  · exact itFn h (h1 h)
theorem ni_rep (n x : Nat) {f : Nat → V} (h : ∀ i, f i = V.int (x : Int)) : (List.range n).map f = ni (List.replicate n x) := by
  refine List.ext_getElem? fun i => ?_
  unfold ni
  by_cases c : i < n
  · rw [List.getElem?_map, List.getElem?_range c, List.getElem?_map, List.getElem?_replicate, if_pos c]
    exact congrArg some (h i)
  · rw [List.getElem?_eq_none (by simp; omega), List.getElem?_eq_none (by simp; omega)]
/-- values that are whole numbers, as a row -/
theorem ni_of {P : Nat → Nat → Prop} : ∀ (ys : List V), (∀ i y, ys[i]? = some y → ∃ n : Nat, y = .int (n : Int) ∧ P i n) → ∃ ns : List Nat, ys = ni ns ∧ ∀ i n, ns[i]? = some n → P i n := by
  intro ys
  induction ys generalizing P with
  | nil => exact fun _ => ⟨[], rfl, fun i n h => by simp at h⟩
  | cons y ys ih =>
    intro h
    obtain ⟨n, rfl, hn⟩ := h 0 y rfl
    obtain ⟨ns, e, hP⟩ := ih (P := fun i n => P (i + 1) n) fun i z hz => h (i + 1) z hz
    refine ⟨n :: ns, by rw [e]; rfl, fun i m hm => ?_⟩
    cases i with
    | zero =>
      have z : n = m := Option.some.inj hm
      exact z ▸ hn
    | succ i => exact hP i m hm
theorem rd_takeV {σ : St} {H : Hp} {Q : VK} {a : Addr} {n : Int} {i j : Nat} (hσ : σ[i]? = some (some (.ref a))) (hj : σ[j]? = some (some (.int n))) (hF : Fd H a) (n0 : 0 < n) (n1 : n < 1073741824) (q : ∀ (m : Nat) H', (m : Int) < n → Stp a H H' → Q (.int (m : Int)) H') :
    tCall spTake [] E0 (tCons (tVar i) (tCons (tVar j) tNil)) σ H Q := ⟨_, hσ, _, hj, spTake_n (E := E0) hF n0 n1 q⟩
theorem rd_takeE {σ : St} {H : Hp} {Q : VK} {a : Addr} {i : Nat} {te : TE} (hσ : σ[i]? = some (some (.ref a))) (h : te σ H fun v H1 => ∃ n : Int, v = .int n ∧ Fd H1 a ∧ 0 < n ∧ n < 1073741824 ∧ ∀ (m : Nat) H', (m : Int) < n → Stp a H1 H' → Q (.int (m : Int)) H')
    (mono : ∀ (Q1 Q2 : VK), (∀ v H1, Q1 v H1 → Q2 v H1) → te σ H Q1 → te σ H Q2) : tCall spTake [] E0 (tCons (tVar i) (tCons te tNil)) σ H Q :=
  ⟨_, hσ, mono _ _ (fun v H1 ⟨n, e, hF, n0, n1, q⟩ => by subst e; exact spTake_n (E := E0) hF n0 n1 q) h⟩
/-- what a comprehension needs of the relation between heaps -/
structure TR (T : Hp → Hp → Prop) (H : Hp) : Prop where
  t0 : ∀ D o, H D = none → T H (upd H D o)
  tk : ∀ D H1 H2 o, H D = none → T H H1 → H1 D = some o → T H1 H2 → H2 D = some o ∧ T H H2
  tu : ∀ D H1 o, H D = none → T H H1 → T H (upd H1 D o)
theorem trSame (H : Hp) : TR Same H := ⟨fun D o h => same_new h o, fun D H1 H2 o _ s e t => ⟨t _ _ e, s.trans t⟩, fun D H1 o h s => same_upd s h⟩
theorem trStp {H : Hp} {a : Addr} (hF : Fd H a) : TR (Stp a) H :=
  ⟨fun D o h => Stp.of hF (same_new h o), fun D H1 H2 o h s e t => ⟨t.1 _ _ (hF.ne h) e, s.trans t⟩, fun D H1 o h s => stp_upd s h (hF.ne h)⟩
theorem set_none (σ : St) (j : Nat) (v : V) : (σ.set j none).set j (some v) = σ.set j (some v) := List.set_set ..
theorem wipe1 (σ : St) (j : Nat) (v : V) : wipe ((wipe σ [j]).set j (some v)) [j] = wipe σ [j] := by
  show ((σ.set j none).set j (some v)).set j none = σ.set j none
  rw [List.set_set, List.set_set]
section
variable {J : It} {n j : Nat} {G : Hp → Prop} {te : TE} {tt : TT} {σ : St} {H : Hp} {Q : Addr → Hp → Prop} {X : Nat → V}
/-- [e for x in ..]: each item's value keeps P, whatever is done between is of T -/
theorem lc_map (w : Walk J n G (fun i H x H' => H' = H ∧ x = X i)) (T : Hp → Hp → Prop) (tr : TR T H) (hT : ∀ H1, T H H1 → G H1) (hn : n ≤ 1000)
    (P : Addr → Nat → V → Hp → Prop) (pm : ∀ D i y H1 H2, H D = none → T H H1 → T H1 H2 → P D i y H1 → P D i y H2) (pu : ∀ D i y H1 acc o, H D = none → H1 D = some (.lst acc) → P D i y H1 → P D i y (upd H1 D o))
    (hs : ∀ D i H1 (Qe : VK), i < n → H D = none → T H H1 → (∃ acc, H1 D = some (.lst acc) ∧ acc.length = i) → (∀ y H2, T H1 H2 → P D i y H2 → Qe y H2) → te (σ.set j (some (X i))) H1 Qe)
    (q : ∀ D H1 ys, H D = none → T H H1 → H1 D = some (.lst ys) → ys.length = n → (∀ i y, ys[i]? = some y → P D i y H1) → Q D H1) :
    ∀ D, H D = none → ∃ W : Nat → Nat → Hp → Prop, (∃ m, W 0 m (upd H D (.lst []))) ∧ ∀ i m H, W i m H →
      (J.stop i H ∧ Q D H) ∨ (J.go i H ∧ ∃ Nx : Hp → Prop, (∀ H', Nx H' → ∃ m', m' < m ∧ W (i + 1) m' H') ∧ ∀ x H', J.yld i H x H' → gName j x (wipe σ [j]) H' fun σ2 H2 => wipe σ2 [j] = wipe σ [j] ∧ tYes σ2 H2 fun b H3 =>
        if b = true then te σ2 H3 fun y H4 => ∃ acc, H4 D = some (.lst acc) ∧ acc.length < sizeLine ∧ Nx (upd H4 D (.lst (acc ++ [y]))) else Nx H3) := by
  intro D hD
  refine lc_it w (fun i H1 => T H H1 ∧ ∃ ys, H1 D = some (.lst ys) ∧ ys.length = i ∧ ∀ k y, ys[k]? = some y → P D k y H1) ⟨tr.t0 D _ hD, [], upd_same, rfl, fun k y h => by simp at h⟩ (fun i H1 _ h => hT _ h.1) (fun i x H1 H' hi hp hy => ?_) (fun H1 hp => ?_)
  · obtain ⟨rfl, rfl⟩ := hy
    obtain ⟨s, ys, e, hl, hP⟩ := hp
    refine ⟨wipe1 σ j _, ?_⟩
    show tYes ((wipe σ [j]).set j (some (X i))) H' _
    simp only [tYes, if_true]
    rw [show (wipe σ [j]).set j (some (X i)) = σ.set j (some (X i)) from set_none σ j _]
    refine hs D i H' _ hi hD s ⟨ys, e, hl⟩ fun y H2 t p => ?_
    obtain ⟨e2, s2⟩ := tr.tk D _ _ _ hD s e t
    refine ⟨ys, e2, line1000 (by omega) hn, tr.tu D _ _ hD s2, _, upd_same, by simp [hl], fun k z hz => ?_⟩
    by_cases c : k < ys.length
    · rw [List.getElem?_append_left c] at hz
      exact pu D k z _ _ _ hD e2 (pm D k z _ _ hD s t (hP k z hz))
    · rw [List.getElem?_append_right (by omega)] at hz
      have hk : k - ys.length = 0 := by
        cases q : k - ys.length with
        | zero => rfl
        | succ m => rw [q] at hz; simp at hz
      rw [hk] at hz
      have z1 : y = z := by simpa using hz
      have z2 : k = i := by omega
      subst z1
      subst z2
      exact pu D k y _ _ _ hD e2 p
  · obtain ⟨s, ys, e, hl, hP⟩ := hp
    exact q D H1 ys hD s e hl hP
/-- the values themselves, nothing drawn -/
theorem lc_mapS (w : Walk J n G (fun i H x H' => H' = H ∧ x = X i)) (hT : ∀ H1, Same H H1 → G H1) (hn : n ≤ 1000) (f : Nat → V)
    (hs : ∀ i H1 (Qe : VK), i < n → Same H H1 → (∀ H2, Same H1 H2 → Qe (f i) H2) → te (σ.set j (some (X i))) H1 Qe)
    (q : ∀ D H1, H D = none → Same H H1 → H1 D = some (.lst ((List.range n).map f)) → Q D H1) :
    ∀ D, H D = none → ∃ W : Nat → Nat → Hp → Prop, (∃ m, W 0 m (upd H D (.lst []))) ∧ ∀ i m H, W i m H →
      (J.stop i H ∧ Q D H) ∨ (J.go i H ∧ ∃ Nx : Hp → Prop, (∀ H', Nx H' → ∃ m', m' < m ∧ W (i + 1) m' H') ∧ ∀ x H', J.yld i H x H' → gName j x (wipe σ [j]) H' fun σ2 H2 => wipe σ2 [j] = wipe σ [j] ∧ tYes σ2 H2 fun b H3 =>
        if b = true then te σ2 H3 fun y H4 => ∃ acc, H4 D = some (.lst acc) ∧ acc.length < sizeLine ∧ Nx (upd H4 D (.lst (acc ++ [y]))) else Nx H3) :=
  lc_map w Same (trSame H) hT hn (fun _ i y _ => y = f i) (fun _ _ _ _ _ _ _ _ p => p) (fun _ _ _ _ _ _ _ _ p => p) (fun D i H1 Qe hi _ s _ k => hs i H1 Qe hi s fun H2 t => k _ H2 t rfl) fun D H1 ys hD s e hl hP => by
    have ey : ys = (List.range n).map f := by
      refine List.ext_getElem? fun i => ?_
      by_cases c : i < n
      · obtain ⟨y, ey⟩ := get_of_lt (xs := ys) (i := i) (by omega)
        rw [ey, hP i y ey, List.getElem?_map, List.getElem?_range c]
        rfl
      · rw [List.getElem?_eq_none (by omega), List.getElem?_eq_none (by simp; omega)]
    rw [ey] at e
    exact q D H1 hD s e
/-- [e for x in .. if t], the test known, nothing drawn -/
theorem lc_filt (w : Walk J n G (fun i H x H' => H' = H ∧ x = X i)) (hT : ∀ H1, Same H H1 → G H1) (hn : n ≤ 1000) (p : Nat → Bool) (f : Nat → V)
    (ht : ∀ i H1 (Qb : Bool → Hp → Prop), i < n → Same H H1 → (∀ H2, Same H1 H2 → Qb (p i) H2) → tt (σ.set j (some (X i))) H1 Qb)
    (hs : ∀ i H1 (Qe : VK), i < n → Same H H1 → (∀ H2, Same H1 H2 → Qe (f i) H2) → te (σ.set j (some (X i))) H1 Qe)
    (q : ∀ D H1, H D = none → Same H H1 → H1 D = some (.lst (((List.range n).filter p).map f)) → Q D H1) :
    ∀ D, H D = none → ∃ W : Nat → Nat → Hp → Prop, (∃ m, W 0 m (upd H D (.lst []))) ∧ ∀ i m H, W i m H →
      (J.stop i H ∧ Q D H) ∨ (J.go i H ∧ ∃ Nx : Hp → Prop, (∀ H', Nx H' → ∃ m', m' < m ∧ W (i + 1) m' H') ∧ ∀ x H', J.yld i H x H' → gName j x (wipe σ [j]) H' fun σ2 H2 => wipe σ2 [j] = wipe σ [j] ∧ tt σ2 H2 fun b H3 =>
        if b = true then te σ2 H3 fun y H4 => ∃ acc, H4 D = some (.lst acc) ∧ acc.length < sizeLine ∧ Nx (upd H4 D (.lst (acc ++ [y]))) else Nx H3) := by
  intro D hD
  refine lc_it w (fun i H1 => Same H H1 ∧ H1 D = some (.lst (((List.range i).filter p).map f))) ⟨same_new hD _, upd_same⟩ (fun i H1 _ h => hT _ h.1) (fun i x H1 H' hi hp hy => ?_) (fun H1 hp => ?_)
  · obtain ⟨rfl, rfl⟩ := hy
    obtain ⟨s, e⟩ := hp
    refine ⟨wipe1 σ j _, ?_⟩
    show tt ((wipe σ [j]).set j (some (X i))) _ _
    rw [show (wipe σ [j]).set j (some (X i)) = σ.set j (some (X i)) from set_none σ j _]
    refine ht i H' _ hi s fun H2 t => ?_
    cases c : p i with
    | true =>
      refine iteT ?_
      refine hs i H2 _ hi (s.trans t) fun H3 t2 => ?_
      refine ⟨_, t2 _ _ (t _ _ e), ?_, same_upd (s.trans (t.trans t2)) hD, ?_⟩
      · have h1 := List.length_filter_le p (List.range i)
        rw [List.length_map]
        rw [List.length_range] at h1
        exact line1000 (show _ < n by omega) hn
      · rw [upd_same, List.range_succ, List.filter_append, List.map_append]
        simp [c]
    | false =>
      refine iteF ⟨s.trans t, ?_⟩
      rw [t _ _ e, List.range_succ, List.filter_append, List.map_append]
      simp [c]
  · exact q D H1 hD hp.1 hp.2
end
/-! ### the walks, in this form -/
theorem wk_range {n : Nat} : Walk (Itr 0 n) n (fun _ => True) (fun i H x H' => H' = H ∧ x = V.int (i : Int)) :=
  walk_range.mono (fun _ h => h) fun i H x H' _ _ h => ⟨h.1, h.2.trans (congrArg V.int (Int.zero_add _))⟩
theorem wk_rangeF {lo n : Nat} : Walk (Itr (lo : Int) n) n (fun _ => True) (fun i H x H' => H' = H ∧ x = V.int ((lo + i : Nat) : Int)) :=
  walk_range.mono (fun _ h => h) fun i H x H' _ _ h => ⟨h.1, h.2.trans (congrArg V.int (Int.natCast_add _ _).symm)⟩
theorem wk_list {K : PySem.W.Frag} {a : Addr} {xs : List V} : Walk (Itl K a) xs.length (fun H => SqL K H a xs) (fun i H x H' => H' = H ∧ x = xs.getD i .non) :=
  walk_list.mono (fun _ h => h) fun i H x H' _ _ h => ⟨h.1, by rw [List.getD_eq_getElem?_getD, h.2]; rfl⟩
theorem wk_tup {K : PySem.W.Frag} {a : Addr} {xs : List V} : Walk (Itt K a) xs.length (fun H => SqT K H a xs) (fun i H x H' => H' = H ∧ x = xs.getD i .non) :=
  walk_tup.mono (fun _ h => h) fun i H x H' _ _ h => ⟨h.1, by rw [List.getD_eq_getElem?_getD, h.2]; rfl⟩
theorem getD_of {xs : List V} {i : Nat} {x : V} (h : xs[i]? = some x) : xs.getD i .non = x := by rw [List.getD_eq_getElem?_getD, h]; rfl
theorem ni_getD {ns : List Nat} {i : Nat} (h : i < ns.length) : (ni ns).getD i .non = V.int ((ns[i] : Nat) : Int) := getD_of (ni_get (List.getElem?_eq_getElem h))
/-- a list or a tuple -/
def Sq (K : PySem.W.Frag) (H : Hp) (a : Addr) (xs : List V) : Prop := SqL K H a xs ∨ SqT K H a xs
theorem Sq.same {K : PySem.W.Frag} {H H' : Hp} {a : Addr} {xs : List V} (h : Sq K H a xs) (s : Same H H') : Sq K H' a xs := h.elim (fun q => .inl (s.seq q)) (fun q => .inr (Vk.Same.tup s q))
/-- all([t for x in xs]) over a list or a tuple at slot i, each t true -/
theorem all_sq {K : PySem.W.Frag} {i j : Nat} {a : Addr} {xs : List V} {te : TE} {σ : St} {H : Hp} {Q : VK} (hσ : σ[i]? = some (some (.ref a))) (hS : Sq K H a xs) (hn : xs.length ≤ 1000)
    (hs : ∀ (k : Nat) (x : V) (H1 : Hp) (Qe : VK), xs[k]? = some x → Same H H1 → (∀ H2, Same H1 H2 → Qe (.bl true) H2) → te (σ.set j (some x)) H1 Qe) (q : ∀ H1, Same H H1 → Q (.bl true) H1) :
    tCB (rAll K) (tCons (tLc (fun σ H R => iList K (tVar i) σ H R ∨ iTup K (tVar i) σ H R) (gName j) tYes te [j]) tNil) σ H Q := by
  have fin : ∀ D H1, H D = none → Same H H1 → H1 D = some (.lst ((List.range xs.length).map fun _ => V.bl true)) → rAll K [V.ref D] H1 Q := fun D H1 hD s e => by
    have e2 : (List.range xs.length).map (fun _ => V.bl true) = (List.replicate xs.length true).map V.bl := by
      refine List.ext_getElem? fun k => ?_
      by_cases c : k < xs.length
      · rw [List.getElem?_map, List.getElem?_range c, List.getElem?_map, List.getElem?_replicate, if_pos c]
        rfl
      · rw [List.getElem?_eq_none (by simp; omega), List.getElem?_eq_none (by simp; omega)]
    rw [e2] at e
    refine ⟨D, _, rfl, SqL.of e, ?_⟩
    have e3 : (List.replicate xs.length true).all id = true := by simp
    rw [e3]
    exact q H1 s
  rcases hS with h | h
  · refine .inl ⟨_, hσ, a, rfl, ⟨_, h⟩, ?_⟩
    refine lc_mapS (Q := fun D H1 => rAll K [V.ref D] H1 Q) wk_list (fun H1 s => s.seq h) hn (fun _ => V.bl true) (fun k H1 Qe hk s qe => ?_) (fun D H1 hD s e => fin D H1 hD s e)
    obtain ⟨x, ex⟩ := get_of_lt hk
    rw [getD_of ex]
    exact hs k x H1 Qe ex s qe
  · refine .inr ⟨_, hσ, a, rfl, ⟨_, h⟩, ?_⟩
    refine lc_mapS (Q := fun D H1 => rAll K [V.ref D] H1 Q) wk_tup (fun H1 s => Vk.Same.tup s h) hn (fun _ => V.bl true) (fun k H1 Qe hk s qe => ?_) (fun D H1 hD s e => fin D H1 hD s e)
    obtain ⟨x, ex⟩ := get_of_lt hk
    rw [getD_of ex]
    exact hs k x H1 Qe ex s qe
theorem tupOf {K : PySem.W.Frag} {a : Addr} {xs : List V} {H : Hp} {Q : VK} (h : Sq K H a xs) (q : ∀ t H', Same H H' → SqT K H' t xs → Q (.ref t) H') : rTupOf K [.ref a] H Q :=
  ⟨a, xs, rfl, h.elim (fun h => .inl ⟨h, fun l hl => q l _ (same_new hl _) (SqT.of upd_same)⟩) (fun h => .inr ⟨h, q a H (fun _ _ z => z) h⟩)⟩
theorem tupOfV {K : PySem.W.Frag} {i : Nat} {a : Addr} {xs : List V} {σ : St} {H : Hp} {Q : VK} (hσ : σ[i]? = some (some (.ref a))) (h : Sq K H a xs) (q : ∀ t H', Same H H' → SqT K H' t xs → Q (.ref t) H') : tCB (rTupOf K) (tCons (tVar i) tNil) σ H Q := ⟨_, hσ, tupOf h q⟩
theorem tcb1 {r : List V → Hp → VK → Prop} {te : TE} {σ : St} {H : Hp} {Q : VK} (h : te σ H fun x H1 => r [x] H1 Q) : tCB r (tCons te tNil) σ H Q := h
theorem ni_atE {ns : List Nat} {i : Nat} {n : Nat} {z : Int} (e : z = (i : Int)) (h : ns[i]? = some n) : atI (ni ns) z = some (V.int (n : Int)) := e ▸ ni_atI h
/-- a comprehension over a list or a tuple -/
theorem lc_mapSq {K : PySem.W.Frag} {n i j : Nat} {a : Addr} {xs : List V} {te : TE} {σ : St} {H : Hp} {Q : VK} (hσ : σ[i]? = some (some (.ref a))) (hS : Sq K H a xs) (hx : xs.length = n) (hn : n ≤ 1000)
    (P : Addr → Nat → V → Hp → Prop) (pm : ∀ D i y H1 H2, H D = none → Same H H1 → Same H1 H2 → P D i y H1 → P D i y H2) (pu : ∀ D i y H1 acc o, H D = none → H1 D = some (.lst acc) → P D i y H1 → P D i y (upd H1 D o))
    (hs : ∀ (D : Addr) (k : Nat) (x : V) (H1 : Hp) (Qe : VK), xs[k]? = some x → H D = none → Same H H1 → (∃ acc, H1 D = some (.lst acc) ∧ acc.length = k) → (∀ y H2, Same H1 H2 → P D k y H2 → Qe y H2) → te (σ.set j (some x)) H1 Qe)
    (q : ∀ D H1 ys, H D = none → Same H H1 → H1 D = some (.lst ys) → ys.length = n → (∀ i y, ys[i]? = some y → P D i y H1) → Q (.ref D) H1) :
    tLc (fun σ H R => iList K (tVar i) σ H R ∨ iTup K (tVar i) σ H R) (gName j) tYes te [j] σ H Q := by
  subst hx
  rcases hS with h | h
  · refine .inl ⟨_, hσ, a, rfl, ⟨_, h⟩, ?_⟩
    refine lc_map (Q := fun D H1 => Q (.ref D) H1) wk_list Same (trSame H) (fun H1 s => s.seq h) hn P pm pu (fun D k H1 Qe hk hD s ha qe => ?_) q
    obtain ⟨x, ex⟩ := get_of_lt hk
    rw [getD_of ex]
    exact hs D k x H1 Qe ex hD s ha qe
  · refine .inr ⟨_, hσ, a, rfl, ⟨_, h⟩, ?_⟩
    refine lc_map (Q := fun D H1 => Q (.ref D) H1) wk_tup Same (trSame H) (fun H1 s => Vk.Same.tup s h) hn P pm pu (fun D k H1 Qe hk hD s ha qe => ?_) q
    obtain ⟨x, ex⟩ := get_of_lt hk
    rw [getD_of ex]
    exact hs D k x H1 Qe ex hD s ha qe
/-- the items of a list of references, each with a property -/
theorem refs_of : ∀ {P : Nat → Addr → Prop} (ys : List V), (∀ i y, ys[i]? = some y → ∃ b, y = .ref b ∧ P i b) → ∃ as : List Addr, ys = rf as ∧ ∀ i a, as[i]? = some a → P i a
  | _, [], _ => ⟨[], rfl, fun i a h => by simp at h⟩
  | P, y :: ys, h => by
    obtain ⟨b, rfl, hb⟩ := h 0 y rfl
    obtain ⟨as, e, hP⟩ := refs_of (P := fun i a => P (i + 1) a) ys fun i z hz => h (i + 1) z hz
    refine ⟨b :: as, by rw [e]; rfl, fun i a ha => ?_⟩
    cases i with
    | zero =>
      have z : b = a := Option.some.inj ha
      exact z ▸ hb
    | succ i => exact hP i a ha
end Vk
namespace Vk
open PySem L2
def dn (ns : List Nat) : List PyData := ns.map fun n : Nat => PyData.int (n : Int)
theorem dn_ints (ns : List Nat) : dn ns = (ns.map fun n : Nat => (n : Int)).map PyData.int := by
  unfold dn
  rw [List.map_map]
  rfl
theorem dpAll_ni {K : PySem.W.Frag} {H : Hp} : ∀ ns : List Nat, DpAll K H (ni ns) (dn ns)
  | [] => .nil
  | n :: ns => .cons (.int _) (dpAll_ni ns)
theorem shaped_dl (ns : List Nat) : SeqAt.shaped (.list (dn ns)) = true := by
  rw [dn_ints]
  exact PySem.W.shaped_ints _
theorem canAll_dn (ns : List Nat) : PyData.canLayAll0 (dn ns) = true := by
  rw [dn_ints]
  exact PySem.W.canLayAll0_ints _
theorem shaped_dt (ns : List Nat) : SeqAt.shaped (.tuple (dn ns)) = true := by
  have h1 := PySem.W.depthAll_ints (ns.map fun n : Nat => (n : Int))
  rw [← dn_ints] at h1
  have h2 : PyData.depth (.tuple (dn ns)) ≤ 64 := by simp only [PyData.depth]; omega
  show (PyData.canLay0 (.tuple (dn ns)) && decide (PyData.depth (.tuple (dn ns)) ≤ 64)) = true
  rw [Bool.and_eq_true]
  exact ⟨by simp only [PyData.canLay0]; exact canAll_dn ns, decide_eq_true h2⟩
theorem eqv_dl (ns : List Nat) : PyData.eqv (.list (dn ns)) (.list (dn ns)) = true := SeqAt.eqv_refl _ (by simp only [PyData.canLay0]; exact canAll_dn ns)
theorem eqv_dt (ns : List Nat) : PyData.eqv (.tuple (dn ns)) (.tuple (dn ns)) = true := SeqAt.eqv_refl _ (by simp only [PyData.canLay0]; exact canAll_dn ns)
theorem eqvAll_dn : ∀ a b : List Nat, PyData.eqvAll (dn a) (dn b) = decide (a = b)
  | [], [] => rfl
  | [], _ :: _ => rfl
  | _ :: _, [] => rfl
  | x :: xs, y :: ys => by
    show PyData.eqvAll (.int (x : Int) :: dn xs) (.int (y : Int) :: dn ys) = _
    rw [PyData.eqvAll, eqvAll_dn xs ys]
    by_cases c : x = y
    · subst c
      by_cases c2 : xs = ys
      · subst c2
        simp [PyData.eqv]
      · simp [PyData.eqv, c2]
    · have : ¬ ((x : Int) = (y : Int)) := fun z => c (by omega)
      simp [PyData.eqv, c, this]
theorem eqv_dtt (a b : List Nat) : PyData.eqv (.tuple (dn a)) (.tuple (dn b)) = decide (a = b) := by
  rw [PyData.eqv]
  exact eqvAll_dn a b
theorem eqv_dll (a b : List Nat) : PyData.eqv (.list (dn a)) (.list (dn b)) = decide (a = b) := by
  rw [PyData.eqv]
  exact eqvAll_dn a b
/-! ### members -/
theorem flat_ni (ns : List Nat) : (ni ns).all flatV = true := List.all_eq_true.mpr fun v h => by
  obtain ⟨n, _, rfl⟩ := ni_mem h
  rfl
theorem inV_ni (n : Nat) (ns : List Nat) : inV (.int (n : Int)) (ni ns) = decide (n ∈ ns) := by
  unfold inV ni
  rw [List.any_map]
  rw [Bool.eq_iff_iff]
  simp only [List.any_eq_true, Function.comp, eqV, beq_iff_eq, decide_eq_true_eq]
  exact ⟨fun ⟨m, hm, e⟩ => by
    have : m = n := by omega
    exact this ▸ hm, fun h => ⟨n, h, rfl⟩⟩
end Vk
set_option maxHeartbeats 4000000
namespace Vk
open PySem PySem.Spec PyProof.Rows L2
theorem tuple_mul1 (l : Addr) (items : Array Value) (n : Nat) (dd : Option Addr) (sl : Array (Option Value)) (u : Tok) :
    Meets (Builtin.«tuple.__mul__» ⟨[.ref l, .int 1 u], []⟩) (fun _ R s => s.heap.get? l = some { cls := .type "tuple", dict := dd, data := .seq items n, slots := sl } ∧ R (.ok (.ret (Value.ref l))) s) :=
  .of_wp fun prog w A R s h => by
    obtain ⟨hp, g, d, tk, os⟩ := s
    obtain ⟨hl, h⟩ := h
    have f1 := AutoSeq1.idx_int
    wp_walk using wpAny_loadPart' hl
    repeat (first
      | (refine wpAny_ite_false (decide_eq_false (by decide)) ?_; wp_walk using wpAny_loadPart' hl)
      | (refine wpAny_ite_true (decide_eq_true (by simp)) ?_; wp_walk using wpAny_loadPart' hl))
    exact ⟨_, rfl, h⟩
def rRep1 (K : PySem.W.Frag) : R2 := fun x y H Q => ∃ l xs, x = .ref l ∧ y = .int 1 ∧ SqT K H l xs ∧ Q (.ref l) H
theorem op_repT1 {X : Cx} : OpR X (binaryOp .Mult) (rRep1 X.K) := by
  intro pins s σ H x y v u Q I rx ry h
  obtain ⟨l, xs, rfl, rfl, hT, q⟩ := h
  cases rx
  obtain ⟨t, rfl⟩ := ry
  obtain ⟨its, r, ⟨⟨cls, dd, data, sl⟩, ho, hc, n, hd⟩, hs⟩ := I.tuple hT
  simp only at hc hd
  subst hc hd
  refine wpAny_binaryOp_repeat_ref (T := "tuple") (U := "int") (by decide) ⟨_, ho, rfl⟩ (fun s' => typeIs_int s' 1 t) noFill_tuple_mul F.fills_int_mul F.slot_int_rmul repeat_tuple F.slot_int_index.lookup
    (call_meets F.slot_int_rmul (typeIs_int s 1 t) F.entry_int_rmul (F.args_int_rmul_2 _ _) (int_rmul_tuple 1 t l its.toArray n dd sl)
      ⟨ho, rfl, ⟨_, ho, rfl⟩, call_meets F.slot_tuple_mul ⟨_, ho, rfl⟩ F.entry_tuple_mul (F.args_tuple_mul_2 _ _) (tuple_mul1 l its.toArray n dd sl t) ⟨ho, ?_⟩⟩)
  exact ⟨.ref l, H, I, rfl, q⟩
theorem op_or {X : Cx} {f : Value → Value → Sem Value} {r1 r2 : R2} (p : OpR X f r1) (q : OpR X f r2) : OpR X f (fun x y H Q => r1 x y H Q ∨ r2 x y H Q) :=
  fun pins s σ H x y v u Q I rx ry h => h.elim (p pins s σ H x y v u Q I rx ry) (q pins s σ H x y v u Q I rx ry)
/-- (0,) * k, k at least 1 -/
def rRepZ (K : PySem.W.Frag) : R2 := fun x y H Q => rRep1 K x y H Q ∨ rRepT K x y H Q
theorem op_repZ {X : Cx} : OpR X (binaryOp .Mult) (rRepZ X.K) := op_or op_repT1 op_repT
theorem flat_rep (n : Nat) (v : V) : (List.replicate n [v]).flatten = List.replicate n v := by
  induction n with
  | zero => rfl
  | succ n ih => rw [List.replicate_succ, List.flatten_cons, ih, List.replicate_succ]; rfl
theorem ni_zeros (n : Nat) : List.replicate n (V.int 0) = ni (List.replicate n 0) := by
  unfold ni
  rw [List.map_replicate]
  rfl
/-- what it gives: a tuple of zeros -/
theorem repZ {K : PySem.W.Frag} {H : Hp} {Q : VK} {l : Addr} {k : Nat} (h1 : 1 ≤ k) (h2 : k ≤ 1000) (hl : H l = some (.tup [.int 0])) (q : ∀ p H', Same H H' → H' p = some (.tup (ni (List.replicate k 0))) → Q (.ref p) H') : rRepZ K (.ref l) (.int (k : Int)) H Q := by
  by_cases c : k = 1
  · subst c
    exact .inl ⟨l, _, rfl, rfl, SqT.of hl, q l H (fun _ _ z => z) hl⟩
  · refine .inr ⟨l, k, _, rfl, rfl, SqT.of hl, by simp, by omega, by omega, by simp, fun p hp => q p _ (same_new hp _) (upd_same.trans ?_)⟩
    rw [flat_rep, ni_zeros, Int.toNat_natCast]
end Vk
namespace Vk
open PySem L2
theorem ixN_of {n i : Nat} (h : i < n) {z : Int} (e : z = (i : Int)) : ixN n z = some i := by
  subst e
  unfold ixN
  rw [if_pos (by omega), if_pos (by omega), Int.toNat_natCast]
theorem listOf {K : PySem.W.Frag} {a : Addr} {xs : List V} {H : Hp} {Q : VK} (h : Sq K H a xs) (q : ∀ l, H l = none → Q (.ref l) (upd H l (.lst xs))) : rListOf K [.ref a] H Q := ⟨a, xs, rfl, h, q⟩
/-- [list(x) for x in xs]: new lists, no two alike -/
theorem lc_copy {J : It} {G : Hp → Prop} {K : PySem.W.Frag} {j : Nat} {σ : St} {H : Hp} {Q : Addr → Hp → Prop} {as : List Addr} {cs : List (List V)} (w : Walk J (rf as).length G (fun i H x H' => H' = H ∧ x = (rf as).getD i .non)) (hT : ∀ H1, Same H H1 → G H1) (hn : as.length ≤ 1000)
    (h : LL (fun a c => Sq K H a c) as cs) (hj : j < σ.length)
    (q : ∀ D H1 bs, H D = none → Same H H1 → H1 D = some (.lst (rf bs)) → bs.Nodup → (∀ b ∈ bs, H b = none ∧ b ≠ D) → LL (fun b c => H1 b = some (.lst c)) bs cs → Q D H1) :
    ∀ D, H D = none → ∃ W : Nat → Nat → Hp → Prop, (∃ m, W 0 m (upd H D (.lst []))) ∧ ∀ i m H, W i m H →
      (J.stop i H ∧ Q D H) ∨ (J.go i H ∧ ∃ Nx : Hp → Prop, (∀ H', Nx H' → ∃ m', m' < m ∧ W (i + 1) m' H') ∧ ∀ x H', J.yld i H x H' → gName j x (wipe σ [j]) H' fun σ2 H2 => wipe σ2 [j] = wipe σ [j] ∧ tYes σ2 H2 fun b H3 =>
        if b = true then (tCB (rListOf K) (tCons (tVar j) tNil)) σ2 H3 fun y H4 => ∃ acc, H4 D = some (.lst acc) ∧ acc.length < sizeLine ∧ Nx (upd H4 D (.lst (acc ++ [y]))) else Nx H3) := by
  intro D hD
  have lr := rf_len as
  refine lc_it w (fun i H1 => Same H H1 ∧ ∃ bs, H1 D = some (.lst (rf bs)) ∧ bs.length = i ∧ bs.Nodup ∧ (∀ b ∈ bs, H b = none ∧ b ≠ D) ∧ LL (fun b c => H1 b = some (.lst c)) bs (cs.take i))
    ⟨same_new hD _, [], upd_same, rfl, List.nodup_nil, (fun b hb => by cases hb), by rw [List.take_zero]; exact LL.nil⟩ (fun i H1 _ h => hT _ h.1) (fun i x H1 H' hi hp hy => ?_) (fun H1 hp => ?_)
  · obtain ⟨rfl, rfl⟩ := hy
    obtain ⟨s, bs, e, hl, nd, hb, L⟩ := hp
    obtain ⟨a, ea⟩ := get_of_lt (xs := as) (i := i) (by omega)
    obtain ⟨c, ec, hc⟩ := h.getL ea
    refine ⟨wipe1 σ j _, ?_⟩
    show tYes ((wipe σ [j]).set j (some ((rf as).getD i .non))) H' _
    simp only [tYes, if_true]
    rw [show (wipe σ [j]).set j (some ((rf as).getD i .non)) = σ.set j (some ((rf as).getD i .non)) from set_none σ j _, getD_of (rf_get ea)]
    refine ⟨_, List.getElem?_set_self hj, a, _, rfl, hc.same s, fun l hl2 => ?_⟩
    have s2 := same_new hl2 (.lst c)
    have nlD : l ≠ D := (ne_of_none e hl2).symm
    have nb : ∀ b ∈ bs, b ≠ l := fun b hb => by
      obtain ⟨k, hk⟩ := List.getElem?_of_mem hb
      obtain ⟨c', _, hc'⟩ := L.getL hk
      exact ne_of_none hc' hl2
    refine ⟨_, s2 _ _ e, by rw [rf_len]; exact line1000 (m := 1000) (by omega) (by decide), same_upd (s.trans s2) hD, bs ++ [l], by rw [upd_same, rf_app]; rfl, by rw [List.length_append, hl]; rfl, ?_, fun b hbm => ?_, ?_⟩
    · exact List.nodup_append.mpr ⟨nd, by simp, fun x hx y hy e => nb x hx (by rw [List.mem_singleton.mp hy] at e; exact e)⟩
    · rcases List.mem_append.mp hbm with h | h
      · exact hb b h
      · rw [List.mem_singleton.mp h]
        exact ⟨s.free hl2, nlD⟩
    · have et : cs.take (i + 1) = cs.take i ++ [c] := by rw [List.take_add_one, ec]; rfl
      rw [et]
      refine LL.snoc ⟨L.len, fun k b c' hk hc' => ?_⟩ (upd_keep upd_same nlD)
      exact upd_keep (s2 _ _ (L.at_ k b c' hk hc')) (hb b (mem_of_get hk)).2
  · obtain ⟨s, bs, e, hl, nd, hb, L⟩ := hp
    rw [lr, h.len, List.take_length] at L
    exact q D H1 bs hD s e nd hb L
/-- a for over a list or a tuple at slot i -/
theorem for_sq {K : PySem.W.Frag} {i : Nat} {a : Addr} {xs : List V} {g : TG} {tb : TS} {D : Ends} {σ : St} {H0 H : Hp} (hσ : σ[i]? = some (some (.ref a))) (hS : Sq K H0 a xs) (Pv : Nat → St → Hp → Prop) (h0 : Pv 0 σ H) (hl : ∀ i σ H', i ≤ xs.length → Pv i σ H' → Same H0 H')
    (hs : ∀ (i : Nat) (x : V) σ H, xs[i]? = some x → Pv i σ H → g x σ H fun σ2 H2 => tb { D with nx := Pv (i + 1), ct := Pv (i + 1), bk := D.nx } σ2 H2) (hd : ∀ σ H, Pv xs.length σ H → D.nx σ H) :
    tFor (fun σ H R => iList K (tVar i) σ H R ∨ iTup K (tVar i) σ H R) g tb D σ H := by
  rcases hS with h | h
  · exact .inl ⟨_, hσ, a, rfl, ⟨_, (hl 0 σ H (Nat.zero_le _) h0).seq h⟩, for_list (xs := xs) Pv h0 (fun i σ H' hi hp => (hl i σ H' hi hp).seq h) hs hd⟩
  · exact .inr ⟨_, hσ, a, rfl, ⟨_, Vk.Same.tup (hl 0 σ H (Nat.zero_le _) h0) h⟩, for_tup (xs := xs) Pv h0 (fun i σ H' hi hp => Vk.Same.tup (hl i σ H' hi hp) h) hs hd⟩
theorem repZ' {K : PySem.W.Frag} {H : Hp} {Q : VK} {l : Addr} {k : Nat} {z : Int} (e : z = (k : Int)) (h1 : 1 ≤ k) (h2 : k ≤ 1000) (hl : H l = some (.tup [.int 0])) (q : ∀ p H', Same H H' → H' p = some (.tup (ni (List.replicate k 0))) → Q (.ref p) H') : rRepZ K (.ref l) (.int z) H Q := by
  subst e
  exact repZ h1 h2 hl q
/-- a comprehension that makes a new list at each turn: no two alike -/
theorem lc_news {J : It} {n j : Nat} {G : Hp → Prop} {te : TE} {σ : St} {H : Hp} {Q : Addr → Hp → Prop} {X : Nat → V} (w : Walk J n G (fun i H x H' => H' = H ∧ x = X i)) (hT : ∀ H1, Same H H1 → G H1) (hn : n ≤ 1000) (cont : Nat → List V)
    (hs : ∀ (i : Nat) (H1 : Hp) (Qe : VK), i < n → Same H H1 → (∀ l H2, Same H1 H2 → H1 l = none → H2 l = some (.lst (cont i)) → Qe (.ref l) H2) → te (σ.set j (some (X i))) H1 Qe)
    (q : ∀ D H1 bs, H D = none → Same H H1 → H1 D = some (.lst (rf bs)) → bs.Nodup → (∀ b ∈ bs, H b = none ∧ b ≠ D) → bs.length = n → (∀ (i : Nat) b, bs[i]? = some b → H1 b = some (.lst (cont i))) → Q D H1) :
    ∀ D, H D = none → ∃ W : Nat → Nat → Hp → Prop, (∃ m, W 0 m (upd H D (.lst []))) ∧ ∀ i m H, W i m H →
      (J.stop i H ∧ Q D H) ∨ (J.go i H ∧ ∃ Nx : Hp → Prop, (∀ H', Nx H' → ∃ m', m' < m ∧ W (i + 1) m' H') ∧ ∀ x H', J.yld i H x H' → gName j x (wipe σ [j]) H' fun σ2 H2 => wipe σ2 [j] = wipe σ [j] ∧ tYes σ2 H2 fun b H3 =>
        if b = true then te σ2 H3 fun y H4 => ∃ acc, H4 D = some (.lst acc) ∧ acc.length < sizeLine ∧ Nx (upd H4 D (.lst (acc ++ [y]))) else Nx H3) := by
  intro D hD
  refine lc_it w (fun i H1 => Same H H1 ∧ ∃ bs, H1 D = some (.lst (rf bs)) ∧ bs.length = i ∧ bs.Nodup ∧ (∀ b ∈ bs, H b = none ∧ b ≠ D) ∧ ∀ (k : Nat) b, bs[k]? = some b → H1 b = some (.lst (cont k)))
    ⟨same_new hD _, [], upd_same, rfl, List.nodup_nil, (fun b hb => by cases hb), (fun k b h => by simp at h)⟩ (fun i H1 _ h => hT _ h.1) (fun i x H1 H' hi hp hy => ?_) (fun H1 hp => ?_)
  · obtain ⟨rfl, rfl⟩ := hy
    obtain ⟨s, bs, e, hl, nd, hb, L⟩ := hp
    refine ⟨wipe1 σ j _, ?_⟩
    show tYes ((wipe σ [j]).set j (some (X i))) H' _
    simp only [tYes, if_true]
    rw [show (wipe σ [j]).set j (some (X i)) = σ.set j (some (X i)) from set_none σ j _]
    refine hs i H' _ hi s fun l H2 s2 fl el => ?_
    have nlD : l ≠ D := (ne_of_none e fl).symm
    have nb : ∀ b ∈ bs, b ≠ l := fun b hb => by
      obtain ⟨k, hk⟩ := List.getElem?_of_mem hb
      exact ne_of_none (L k b hk) fl
    refine ⟨_, s2 _ _ e, by rw [rf_len]; exact line1000 (m := n) (by omega) hn, same_upd (s.trans s2) hD, bs ++ [l], by rw [upd_same, rf_app]; rfl, by rw [List.length_append, hl]; rfl, ?_, fun b hbm => ?_, fun k b hk => ?_⟩
    · exact List.nodup_append.mpr ⟨nd, by simp, fun x hx y hy e => nb x hx (by rw [List.mem_singleton.mp hy] at e; exact e)⟩
    · rcases List.mem_append.mp hbm with h | h
      · exact hb b h
      · rw [List.mem_singleton.mp h]
        exact ⟨s.free fl, nlD⟩
    · by_cases c : k < bs.length
      · rw [List.getElem?_append_left c] at hk
        exact upd_keep (s2 _ _ (L k b hk)) (hb b (mem_of_get hk)).2
      · rw [List.getElem?_append_right (by omega)] at hk
        have hk0 : k - bs.length = 0 := by
          cases q : k - bs.length with
          | zero => rfl
          | succ m => rw [q] at hk; simp at hk
        rw [hk0] at hk
        have z1 : l = b := by simpa using hk
        have z2 : k = i := by omega
        subst z1
        subst z2
        exact upd_keep el nlD
  · obtain ⟨s, bs, e, hl, nd, hb, L⟩ := hp
    exact q D H1 bs hD s e nd hb hl L
theorem LL.app {α β : Type} {P : α → β → Prop} {as as' : List α} {rs rs' : List β} (h : LL P as rs) (h' : LL P as' rs') : LL P (as ++ as') (rs ++ rs') := by
  refine ⟨by rw [List.length_append, List.length_append, h.len, h'.len], fun i a r ha hr => ?_⟩
  by_cases c : i < as.length
  · rw [List.getElem?_append_left c] at ha
    rw [List.getElem?_append_left (h.len ▸ c)] at hr
    exact h.at_ i a r ha hr
  · rw [List.getElem?_append_right (by omega)] at ha
    rw [List.getElem?_append_right (by have := h.len; omega)] at hr
    rw [h.len] at ha
    exact h'.at_ _ a r ha hr
theorem ni_ints (ns : List Nat) : ni ns = (ns.map fun n : Nat => (n : Int)).map V.int := by
  unfold ni
  rw [List.map_map]
  rfl
theorem sum_cast : ∀ ns : List Nat, (ns.map fun n : Nat => (n : Int)).sum = ((ns.sum : Nat) : Int)
  | [] => rfl
  | n :: ns => by
    rw [List.map_cons, List.sum_cons, List.sum_cons, sum_cast ns]
    omega
theorem cut_int {ns : List Int} {lo hi : Option Int} {i : Nat} {v : V} (h : (cutV (ns.map V.int) lo hi)[i]? = some v) : ∃ n, v = V.int n := by
  have := mem_of_get h
  unfold cutV at this
  obtain ⟨n, _, e⟩ := List.mem_map.mp (List.mem_of_mem_drop (List.mem_of_mem_take this))
  exact ⟨n, e.symm⟩
end Vk
namespace Vk
/-! ### nodes above one another -/
def cstep (s : List Nat × Nat) : List Nat × Nat := if 1 < s.2 then (s.1 ++ [s.2 / 2], s.2 / 2) else s
def citer : Nat → List Nat × Nat → List Nat × Nat
  | 0, s => s
  | n + 1, s => cstep (citer n s)
def chain (v : Nat) : List Nat := (citer 4 ([v], v)).1
def un (v t : Nat) : Bool := decide (t ∈ chain v)
def red (t : Nat) : Nat → Nat → Nat
  | 0, n => n
  | f + 1, n => if t < n then red t f (n / 2) else n
theorem red_un : ∀ v < 32, ∀ t < 32, 1 ≤ v → 1 ≤ t → decide (red t 6 v = t) = un v t := by decide +kernel
theorem red_step : ∀ n < 32, ∀ t < 32, 1 ≤ t → t < n → red t 6 (n / 2) = red t 6 n := by decide +kernel
theorem red_end : ∀ n < 32, ∀ t < 32, ¬ t < n → red t 6 n = n := by decide +kernel
theorem citer_len : ∀ v < 32, ∀ k < 5, (citer k ([v], v)).1.length ≤ 5 := by decide +kernel
theorem citer_pos : ∀ v < 32, 1 ≤ v → ∀ k < 5, 1 ≤ (citer k ([v], v)).2 ∧ (citer k ([v], v)).2 < 32 := by decide +kernel
theorem chain_len : ∀ v < 32, (chain v).length ≤ 5 := by decide +kernel
end Vk
namespace Vk
/-! ### the crew: data -/
structure Rows where
  h : Nat
  seats : List Nat
  lean : List (List Nat)
def Rows.N (r : Rows) : Nat := 2 ^ r.h
def Rows.P (r : Rows) : Nat := r.seats.length
structure Rows.ok (r : Rows) : Prop where
  h1 : 1 ≤ r.h
  h4 : r.h ≤ 4
  s1 : 1 ≤ r.seats.length
  s16 : r.seats.length ≤ 16
  sN : ∀ s ∈ r.seats, s < r.N
  ll : r.lean.length = r.seats.length
  rl : ∀ row ∈ r.lean, row.length = r.N - 1
  r1 : ∀ row ∈ r.lean, ∀ x ∈ row, x ≤ 1
theorem Rows.ok.pow {r : Rows} (k : r.ok) : r.N = 2 ∨ r.N = 4 ∨ r.N = 8 ∨ r.N = 16 := by
  have h1 := k.h1
  have h4 := k.h4
  unfold Rows.N
  have : r.h = 1 ∨ r.h = 2 ∨ r.h = 3 ∨ r.h = 4 := by omega
  rcases this with e | e | e | e <;> rw [e] <;> simp
theorem Rows.ok.pos {r : Rows} (k : r.ok) : 2 ≤ r.N ∧ r.N ≤ 16 := by
  have := k.pow
  omega
/-! ### numbers of a row, 0 beyond it -/
def gt (l : List Nat) (i : Nat) : Nat := l.getD i 0
theorem gt_of {l : List Nat} {i x : Nat} (h : l[i]? = some x) : gt l i = x := by unfold gt; rw [List.getD_eq_getElem?_getD, h]; rfl
theorem gt_get {l : List Nat} {i : Nat} (h : i < l.length) : l[i]? = some (gt l i) := by
  unfold gt
  rw [List.getD_eq_getElem?_getD, List.getElem?_eq_getElem h]
  rfl
theorem gt_mem {l : List Nat} {i : Nat} (h : i < l.length) : gt l i ∈ l := List.mem_of_getElem? (gt_get h)
theorem gt_set {l : List Nat} {i j x : Nat} (h : i < l.length) : gt (l.set i x) j = if j = i then x else gt l j := by
  unfold gt
  rw [List.getD_eq_getElem?_getD, List.getD_eq_getElem?_getD, List.getElem?_set]
  by_cases c : i = j
  · subst c
    rw [if_pos rfl, if_pos h, if_pos rfl]
    rfl
  · rw [if_neg c, if_neg (Ne.symm c)]
theorem gt_rep (n x j : Nat) : gt (List.replicate n x) j = if j < n then x else 0 := by
  unfold gt
  rw [List.getD_eq_getElem?_getD, List.getElem?_replicate]
  by_cases c : j < n
  · rw [if_pos c, if_pos c]; rfl
  · rw [if_neg c, if_neg c]; rfl
theorem gt_ext {a b : List Nat} (hl : a.length = b.length) (h : ∀ i, i < a.length → gt a i = gt b i) : a = b := by
  refine List.ext_getElem? fun i => ?_
  by_cases c : i < a.length
  · rw [gt_get c, gt_get (hl ▸ c), h i c]
  · rw [List.getElem?_eq_none (by omega), List.getElem?_eq_none (by omega)]
/-! ### the walk -/
structure Spot where
  d : List Nat
  c : List Nat
  p : List Nat
structure Spot.ok (r : Rows) (s : Spot) : Prop where
  ld : s.d.length = 2 * r.N
  lc : s.c.length = r.N
  lp : s.p.length = r.P
  d1 : ∀ v, gt s.d v ≤ 1
  pN : ∀ w, gt s.p w < 2 * r.N
inductive WAct
  | idle | take | up | work | mark | down
  deriving DecidableEq
def leanF (r : Rows) (w v : Nat) : Nat := gt (r.lean.getD w []) (v - 1)
def seatF (r : Rows) (w : Nat) : Nat := r.N + gt r.seats w
/-- act, place before, place behind -/
def turnF (r : Rows) (s : Spot) (w : Nat) : WAct × Nat × Nat :=
  if gt s.d 1 = 1 then (.idle, gt s.p w, gt s.p w)
  else if gt s.p w = 0 then (.take, gt s.p w, seatF r w)
  else if gt s.d (gt s.p w) = 1 then (.up, gt s.p w, gt s.p w / 2)
  else if r.N ≤ gt s.p w then (.work, gt s.p w, gt s.p w)
  else if gt s.d (2 * gt s.p w) = 1 ∧ gt s.d (2 * gt s.p w + 1) = 1 then (.mark, gt s.p w, gt s.p w)
  else (.down, gt s.p w, if gt s.d (2 * gt s.p w) = 1 then 2 * gt s.p w + 1 else if gt s.d (2 * gt s.p w + 1) = 1 then 2 * gt s.p w else 2 * gt s.p w + leanF r w (gt s.p w))
theorem turn_at (r : Rows) (s : Spot) (w : Nat) : (turnF r s w).2.1 = gt s.p w := by
  unfold turnF
  (repeat' split) <;> rfl
/-- what a mark at v or the work at v sets there -/
def valF (r : Rows) (ns : List Nat) (s : Spot) (v : Nat) : Nat := if v < r.N then 1 else if gt s.c (v - r.N) + 1 = gt ns (v - r.N) then 1 else 0
/-- the worker marks v, or works there -/
def hit (r : Rows) (s : Spot) (v w : Nat) : Bool := ((turnF r s w).1 = .mark ∨ (turnF r s w).1 = .work) ∧ gt s.p w = v
def stepF (r : Rows) (ns : List Nat) (s t : Spot) (w : Nat) : Spot :=
  { d := if (turnF r s w).1 = .mark ∨ (turnF r s w).1 = .work then t.d.set (gt s.p w) (valF r ns s (gt s.p w)) else t.d
    c := if (turnF r s w).1 = .work then t.c.set (gt s.p w - r.N) (gt s.c (gt s.p w - r.N) + 1) else t.c
    p := t.p.set w (turnF r s w).2.2 }
def foldF (r : Rows) (ns : List Nat) (s : Spot) (g : List Nat) (t : Spot) : Spot := g.foldl (stepF r ns s) t
def tickF (r : Rows) (ns : List Nat) (s : Spot) (g : List Nat) : Spot := if gt s.d 1 = 1 then s else foldF r ns s g s
def startF (r : Rows) : Spot := ⟨List.replicate (2 * r.N) 0, List.replicate r.N 0, List.replicate r.P 0⟩
theorem start_ok (r : Rows) (k : r.ok) : (startF r).ok r := by
  have := k.pos
  refine ⟨List.length_replicate, List.length_replicate, List.length_replicate, fun v => ?_, fun w => ?_⟩
  · show gt (List.replicate _ 0) v ≤ 1
    rw [gt_rep]
    split <;> omega
  · show gt (List.replicate _ 0) w < _
    rw [gt_rep]
    split <;> omega
section
variable {r : Rows} {ns : List Nat} {s : Spot}
theorem lean_le (k : r.ok) (w v : Nat) : leanF r w v ≤ 1 := by
  unfold leanF
  by_cases c : w < r.lean.length
  · have e : r.lean.getD w [] = r.lean[w] := by rw [List.getD_eq_getElem?_getD, List.getElem?_eq_getElem c]; rfl
    rw [e]
    by_cases c2 : v - 1 < r.lean[w].length
    · exact k.r1 _ (List.getElem_mem c) _ (gt_mem c2)
    · unfold gt
      rw [List.getD_eq_getElem?_getD, List.getElem?_eq_none (by omega)]
      exact Nat.zero_le _
  · have e : r.lean.getD w [] = [] := by rw [List.getD_eq_getElem?_getD, List.getElem?_eq_none (by omega)]; rfl
    rw [e]
    exact Nat.zero_le _
theorem seat_lt' (k : r.ok) {w : Nat} (h : w < r.P) : r.N ≤ seatF r w ∧ seatF r w < 2 * r.N := by
  unfold seatF
  have := k.sN _ (gt_mem h)
  omega
/-- where a turn leads stays in the tree -/
theorem turn_to (k : r.ok) (o : s.ok r) {w : Nat} (hw : w < r.P) : (turnF r s w).2.2 < 2 * r.N := by
  have hp := o.pN w
  have hs := seat_lt' k hw
  have hl := lean_le k w (gt s.p w)
  have hN := k.pos
  unfold turnF
  by_cases c1 : gt s.d 1 = 1
  · rw [if_pos c1]; exact hp
  rw [if_neg c1]
  by_cases c2 : gt s.p w = 0
  · rw [if_pos c2]; exact hs.2
  rw [if_neg c2]
  by_cases c3 : gt s.d (gt s.p w) = 1
  · rw [if_pos c3]
    show gt s.p w / 2 < _
    omega
  rw [if_neg c3]
  by_cases c4 : r.N ≤ gt s.p w
  · rw [if_pos c4]; exact hp
  rw [if_neg c4]
  by_cases c5 : gt s.d (2 * gt s.p w) = 1 ∧ gt s.d (2 * gt s.p w + 1) = 1
  · rw [if_pos c5]; exact hp
  rw [if_neg c5]
  show (if gt s.d (2 * gt s.p w) = 1 then 2 * gt s.p w + 1 else if gt s.d (2 * gt s.p w + 1) = 1 then 2 * gt s.p w else 2 * gt s.p w + leanF r w (gt s.p w)) < _
  by_cases c6 : gt s.d (2 * gt s.p w) = 1
  · rw [if_pos c6]; omega
  rw [if_neg c6]
  by_cases c7 : gt s.d (2 * gt s.p w + 1) = 1
  · rw [if_pos c7]; omega
  rw [if_neg c7]
  omega
/-- one of the two ways in which a turn hits -/
theorem hit_lt (o : s.ok r) {v w : Nat} (h : hit r s v w = true) : v < 2 * r.N ∧ gt s.p w = v := by
  unfold hit at h
  simp only [decide_eq_true_eq] at h
  exact ⟨h.2 ▸ o.pN w, h.2⟩
theorem step_len (t : Spot) (w : Nat) : (stepF r ns s t w).d.length = t.d.length ∧ (stepF r ns s t w).c.length = t.c.length ∧ (stepF r ns s t w).p.length = t.p.length := by
  refine ⟨?_, ?_, ?_⟩
  · show (if _ then _ else _ : List Nat).length = _
    split
    · exact List.length_set
    · rfl
  · show (if _ then _ else _ : List Nat).length = _
    split
    · exact List.length_set
    · rfl
  · exact List.length_set
theorem fold_len : ∀ (g : List Nat) (t : Spot), (foldF r ns s g t).d.length = t.d.length ∧ (foldF r ns s g t).c.length = t.c.length ∧ (foldF r ns s g t).p.length = t.p.length
  | [], t => ⟨rfl, rfl, rfl⟩
  | w :: g, t => by
    have h1 := fold_len g (stepF r ns s t w)
    have h2 := step_len (r := r) (ns := ns) (s := s) t w
    exact ⟨h1.1.trans h2.1, h1.2.1.trans h2.2.1, h1.2.2.trans h2.2.2⟩
theorem fold_p : ∀ (g : List Nat) (t : Spot) (_ : t.p.length = r.P) (_ : ∀ w ∈ g, w < r.P) (w : Nat), gt (foldF r ns s g t).p w = if w ∈ g then (turnF r s w).2.2 else gt t.p w
  | [], t, _, _, w => by rw [if_neg (by simp)]; rfl
  | x :: g, t, hl, hg, w => by
    have h1 := fold_p g (stepF r ns s t x) ((step_len t x).2.2.trans hl) (fun w h => hg w (List.mem_cons_of_mem _ h)) w
    have h2 : gt (stepF r ns s t x).p w = if w = x then (turnF r s x).2.2 else gt t.p w := gt_set (hl ▸ hg x (List.mem_cons_self ..))
    show gt (foldF r ns s g (stepF r ns s t x)).p w = _
    rw [h1, h2]
    by_cases c : w ∈ g
    · rw [if_pos c, if_pos (List.mem_cons_of_mem _ c)]
    · rw [if_neg c]
      by_cases c2 : w = x
      · subst c2
        rw [if_pos rfl, if_pos (List.mem_cons_self ..)]
      · rw [if_neg c2, if_neg (by simp [c, c2])]
theorem fold_d (o : s.ok r) : ∀ (g : List Nat) (t : Spot) (_ : t.d.length = 2 * r.N) (v : Nat), gt (foldF r ns s g t).d v = if g.any (hit r s v) then valF r ns s v else gt t.d v
  | [], t, _, v => rfl
  | x :: g, t, hl, v => by
    have h1 := fold_d o g (stepF r ns s t x) ((step_len t x).1.trans hl) v
    have h2 : gt (stepF r ns s t x).d v = if hit r s v x = true then valF r ns s v else gt t.d v := by
      show gt (if _ then _ else _) v = _
      by_cases c : (turnF r s x).1 = .mark ∨ (turnF r s x).1 = .work
      · rw [if_pos c, gt_set (hl ▸ o.pN x)]
        by_cases c2 : v = gt s.p x
        · rw [if_pos c2, if_pos (by unfold hit; simp [c, c2]), c2]
        · rw [if_neg c2, if_neg (by unfold hit; simp [Ne.symm c2])]
      · rw [if_neg c, if_neg (by unfold hit; simp [c])]
    show gt (foldF r ns s g (stepF r ns s t x)).d v = _
    rw [h1, h2, List.any_cons]
    cases e1 : g.any (hit r s v) <;> cases e2 : hit r s v x <;> simp
theorem work_at {w : Nat} (h : (turnF r s w).1 = .work) : r.N ≤ gt s.p w := by
  unfold turnF at h
  (repeat' (split at h)) <;> first | assumption | cases h
theorem mark_at {w : Nat} (h : (turnF r s w).1 = .mark) : gt s.p w < r.N := by
  unfold turnF at h
  (repeat' (split at h)) <;> first | omega | cases h
theorem fold_c (o : s.ok r) : ∀ (g : List Nat) (t : Spot) (_ : t.c.length = r.N) (x : Nat), gt (foldF r ns s g t).c x = if g.any (hit r s (r.N + x)) then gt s.c x + 1 else gt t.c x
  | [], t, _, x => rfl
  | y :: g, t, hl, x => by
    have h1 := fold_c o g (stepF r ns s t y) ((step_len t y).2.1.trans hl) x
    have h2 : gt (stepF r ns s t y).c x = if hit r s (r.N + x) y = true then gt s.c x + 1 else gt t.c x := by
      show gt (if _ then _ else _) x = _
      by_cases c : (turnF r s y).1 = .work
      · have hw := work_at c
        have hp := o.pN y
        rw [if_pos c, gt_set (by omega)]
        by_cases c2 : x = gt s.p y - r.N
        · rw [if_pos c2, if_pos (by unfold hit; simp [c]; omega), c2]
        · rw [if_neg c2, if_neg (by unfold hit; simp [c]; omega)]
      · rw [if_neg c, if_neg (by
          intro z
          unfold hit at z
          simp only [decide_eq_true_eq] at z
          rcases z.1 with z1 | z1
          · have := mark_at z1
            omega
          · exact c z1)]
    show gt (foldF r ns s g (stepF r ns s t y)).c x = _
    rw [h1, h2, List.any_cons]
    cases e1 : g.any (hit r s (r.N + x)) <;> cases e2 : hit r s (r.N + x) y <;> simp
end
end Vk
namespace Vk
inductive TurnC (r : Rows) (s : Spot) (w : Nat) : WAct → Nat → Prop
  | idle (h : gt s.d 1 = 1) : TurnC r s w .idle (gt s.p w)
  | take (h : gt s.d 1 ≠ 1) (hp : gt s.p w = 0) : TurnC r s w .take (seatF r w)
  | up (h : gt s.d 1 ≠ 1) (hp : gt s.p w ≠ 0) (hd : gt s.d (gt s.p w) = 1) : TurnC r s w .up (gt s.p w / 2)
  | work (h : gt s.d 1 ≠ 1) (hp : gt s.p w ≠ 0) (hd : gt s.d (gt s.p w) ≠ 1) (hn : r.N ≤ gt s.p w) : TurnC r s w .work (gt s.p w)
  | mark (h : gt s.d 1 ≠ 1) (hp : gt s.p w ≠ 0) (hd : gt s.d (gt s.p w) ≠ 1) (hn : gt s.p w < r.N) (h1 : gt s.d (2 * gt s.p w) = 1) (h2 : gt s.d (2 * gt s.p w + 1) = 1) : TurnC r s w .mark (gt s.p w)
  | down (c : Nat) (h : gt s.d 1 ≠ 1) (hp : gt s.p w ≠ 0) (hd : gt s.d (gt s.p w) ≠ 1) (hn : gt s.p w < r.N) (hc : c = 2 * gt s.p w ∨ c = 2 * gt s.p w + 1) (hm : gt s.d c ≠ 1)
      (hl : gt s.d (2 * gt s.p w) ≠ 1 → gt s.d (2 * gt s.p w + 1) ≠ 1 → c = 2 * gt s.p w + leanF r w (gt s.p w)) : TurnC r s w .down c
theorem turnC {r : Rows} {s : Spot} (k : r.ok) (w : Nat) : TurnC r s w (turnF r s w).1 (turnF r s w).2.2 := by
  have hl := lean_le k w (gt s.p w)
  unfold turnF
  by_cases c1 : gt s.d 1 = 1
  · rw [if_pos c1]; exact .idle c1
  rw [if_neg c1]
  by_cases c2 : gt s.p w = 0
  · rw [if_pos c2]; exact .take c1 c2
  rw [if_neg c2]
  by_cases c3 : gt s.d (gt s.p w) = 1
  · rw [if_pos c3]; exact .up c1 c2 c3
  rw [if_neg c3]
  by_cases c4 : r.N ≤ gt s.p w
  · rw [if_pos c4]; exact .work c1 c2 c3 c4
  rw [if_neg c4]
  by_cases c5 : gt s.d (2 * gt s.p w) = 1 ∧ gt s.d (2 * gt s.p w + 1) = 1
  · rw [if_pos c5]; exact .mark c1 c2 c3 (by omega) c5.1 c5.2
  rw [if_neg c5]
  show TurnC r s w .down (if gt s.d (2 * gt s.p w) = 1 then 2 * gt s.p w + 1 else if gt s.d (2 * gt s.p w + 1) = 1 then 2 * gt s.p w else 2 * gt s.p w + leanF r w (gt s.p w))
  by_cases c6 : gt s.d (2 * gt s.p w) = 1
  · rw [if_pos c6]; exact .down _ c1 c2 c3 (by omega) (.inr rfl) (fun z => c5 ⟨c6, z⟩) (fun z => absurd c6 z)
  rw [if_neg c6]
  by_cases c7 : gt s.d (2 * gt s.p w + 1) = 1
  · rw [if_pos c7]; exact .down _ c1 c2 c3 (by omega) (.inl rfl) c6 (fun _ z => absurd c7 z)
  rw [if_neg c7]
  refine .down _ c1 c2 c3 (by omega) ?_ ?_ (fun _ _ => rfl)
  · omega
  · have : leanF r w (gt s.p w) = 0 ∨ leanF r w (gt s.p w) = 1 := by omega
    rcases this with e | e <;> rw [e]
    · exact c6
    · exact c7
/-- what holds between ticks -/
structure Inv0 (r : Rows) (ns : List Nat) (s : Spot) : Prop where
  ok : s.ok r
  d0 : gt s.d 0 = 0
  leaf : ∀ x, x < r.N → gt s.d (r.N + x) ≠ 1 → gt s.c x < gt ns x
  full : ∀ x, x < r.N → gt s.d (r.N + x) = 1 → gt s.c x = gt ns x
  inner : ∀ v, 1 ≤ v → v < r.N → gt s.d v = 1 → gt s.d (2 * v) = 1 ∧ gt s.d (2 * v + 1) = 1
/-- the tick's own numbers -/
structure Tk (r : Rows) (ns : List Nat) (s : Spot) (g : List Nat) (t : Spot) : Prop where
  ok : t.ok r
  d : ∀ v, gt t.d v = if g.any (hit r s v) then valF r ns s v else gt s.d v
  c : ∀ x, gt t.c x = if g.any (hit r s (r.N + x)) then gt s.c x + 1 else gt s.c x
  p : ∀ w, gt t.p w = if w ∈ g then (turnF r s w).2.2 else gt s.p w
theorem val_le (r : Rows) (ns : List Nat) (s : Spot) (v : Nat) : valF r ns s v ≤ 1 := by
  unfold valF
  (repeat' split) <;> omega
theorem tk_of {r : Rows} {ns : List Nat} {s : Spot} {g : List Nat} (k : r.ok) (o : s.ok r) (hg : ∀ w ∈ g, w < r.P) (h1 : gt s.d 1 ≠ 1) : Tk r ns s g (tickF r ns s g) := by
  unfold tickF
  rw [if_neg h1]
  have hl := fold_len (r := r) (ns := ns) (s := s) g s
  have hd := fold_d (ns := ns) o g s o.ld
  have hc := fold_c (ns := ns) o g s o.lc
  have hp := fold_p (r := r) (ns := ns) (s := s) g s o.lp hg
  refine ⟨⟨hl.1.trans o.ld, hl.2.1.trans o.lc, hl.2.2.trans o.lp, fun v => ?_, fun w => ?_⟩, hd, hc, hp⟩
  · rw [hd]
    split
    · exact val_le ..
    · exact o.d1 v
  · rw [hp]
    split
    · rename_i c; exact turn_to k o (hg w c)
    · exact o.pN w
theorem hit_work {r : Rows} {s : Spot} (k : r.ok) {x w : Nat} (h : hit r s (r.N + x) w = true) : (turnF r s w).1 = .work ∧ gt s.p w = r.N + x ∧ gt s.d (r.N + x) ≠ 1 := by
  unfold hit at h
  simp only [decide_eq_true_eq] at h
  obtain ⟨h1, h2⟩ := h
  have T := turnC (s := s) k w
  rcases h1 with h1 | h1
  · have := mark_at h1
    omega
  · rw [h1] at T
    generalize (turnF r s w).2.2 = z at T
    cases T with
    | work _ _ hd _ => exact ⟨h1, h2, h2 ▸ hd⟩
theorem hit_mark {r : Rows} {s : Spot} (k : r.ok) {v w : Nat} (hv : v < r.N) (h : hit r s v w = true) : (turnF r s w).1 = .mark ∧ gt s.p w = v ∧ gt s.d v ≠ 1 ∧ gt s.d (2 * v) = 1 ∧ gt s.d (2 * v + 1) = 1 ∧ v ≠ 0 := by
  unfold hit at h
  simp only [decide_eq_true_eq] at h
  obtain ⟨h1, h2⟩ := h
  have T := turnC (s := s) k w
  rcases h1 with h1 | h1
  · rw [h1] at T
    generalize (turnF r s w).2.2 = z at T
    cases T with
    | mark _ hp hd _ a b => exact ⟨h1, h2, h2 ▸ hd, h2 ▸ a, h2 ▸ b, h2 ▸ hp⟩
  · have := work_at h1
    omega
theorem any_hit {r : Rows} {s : Spot} {g : List Nat} {v : Nat} (h : g.any (hit r s v) = true) : ∃ w ∈ g, hit r s v w = true := List.any_eq_true.mp h
theorem not_any {r : Rows} {s : Spot} {g : List Nat} {v : Nat} (h : ¬ g.any (hit r s v) = true) {w : Nat} (hw : w ∈ g) : hit r s v w ≠ true := fun z => h (List.any_eq_true.mpr ⟨w, hw, z⟩)
theorem d_stays {r : Rows} {ns : List Nat} {s t : Spot} {g : List Nat} (k : r.ok) (T : Tk r ns s g t) {v : Nat} (h : gt s.d v = 1) : gt t.d v = 1 := by
  rw [T.d]
  split
  · rename_i c
    obtain ⟨w, _, hw⟩ := any_hit c
    by_cases hv : v < r.N
    · exact absurd h (hit_mark k hv hw).2.2.1
    · have e : v = r.N + (v - r.N) := by omega
      rw [e] at hw h
      exact absurd h (hit_work k hw).2.2
  · exact h
theorem tk_inv {r : Rows} {ns : List Nat} {s t : Spot} {g : List Nat} (k : r.ok) (I : Inv0 r ns s) (T : Tk r ns s g t) : Inv0 r ns t := by
  have hN := k.pos
  refine ⟨T.ok, ?_, fun x hx hd => ?_, fun x hx hd => ?_, fun v v1 vN hd => ?_⟩
  · rw [T.d, if_neg]
    · exact I.d0
    intro c
    obtain ⟨w, _, hw⟩ := any_hit c
    exact (hit_mark k (by omega) hw).2.2.2.2.2 rfl
  · rw [T.d] at hd
    rw [T.c]
    split
    · rename_i c
      rw [if_pos c] at hd
      unfold valF at hd
      rw [if_neg (by omega)] at hd
      have e : r.N + x - r.N = x := by omega
      rw [e] at hd
      obtain ⟨w, _, hw⟩ := any_hit c
      have h2 := I.leaf x hx (hit_work k hw).2.2
      by_cases c2 : gt s.c x + 1 = gt ns x
      · rw [if_pos c2] at hd
        exact absurd rfl hd
      · omega
    · rename_i c
      rw [if_neg c] at hd
      exact I.leaf x hx hd
  · rw [T.d] at hd
    rw [T.c]
    split
    · rename_i c
      rw [if_pos c] at hd
      unfold valF at hd
      rw [if_neg (by omega)] at hd
      have e : r.N + x - r.N = x := by omega
      rw [e] at hd
      by_cases c2 : gt s.c x + 1 = gt ns x
      · exact c2
      · rw [if_neg c2] at hd
        cases hd
    · rename_i c
      rw [if_neg c] at hd
      exact I.full x hx hd
  · rw [T.d] at hd
    by_cases c : g.any (hit r s v) = true
    · obtain ⟨w, _, hw⟩ := any_hit c
      have h := hit_mark k vN hw
      exact ⟨d_stays k T h.2.2.2.1, d_stays k T h.2.2.2.2.1⟩
    · rw [if_neg c] at hd
      have h := I.inner v v1 vN hd
      exact ⟨d_stays k T h.1, d_stays k T h.2⟩
theorem start_inv {r : Rows} {ns : List Nat} (k : r.ok) (hn : ∀ x, x < r.N → 1 ≤ gt ns x) : Inv0 r ns (startF r) := by
  have hz : ∀ v, gt (startF r).d v = 0 := fun v => by
    show gt (List.replicate _ 0) v = 0
    rw [gt_rep]
    split <;> rfl
  refine ⟨start_ok r k, hz 0, fun x hx _ => ?_, fun x hx h => ?_, fun v _ _ h => ?_⟩
  · have h1 := hn x hx
    show gt (List.replicate _ 0) x < _
    rw [gt_rep]
    split <;> omega
  · rw [hz] at h
    cases h
  · rw [hz] at h
    cases h
/-! ### the end comes -/
theorem un_child : ∀ p < 16, 1 ≤ p → ∀ b < 2, ∀ v < 32, un (2 * p + b) v = (decide (v = 2 * p + b) || un p v) := by decide +kernel
theorem un_self_down : ∀ p < 16, 1 ≤ p → ∀ b < 2, un p (2 * p + b) = false := by decide +kernel
theorem un_half : ∀ p < 32, 2 ≤ p → ∀ v < 32, un (p / 2) v = (un p v && decide (v ≠ p)) := by decide +kernel
theorem un_self : ∀ p < 32, 1 ≤ p → un p p = true := by decide +kernel
def sumF (f : Nat → Nat) : Nat → Nat
  | 0 => 0
  | n + 1 => sumF f n + f n
theorem sum_le {f h : Nat → Nat} : ∀ n, (∀ i, i < n → f i ≤ h i) → sumF f n ≤ sumF h n
  | 0, _ => Nat.le_refl _
  | n + 1, q => by
    have := sum_le n fun i hi => q i (by omega)
    have := q n (by omega)
    show sumF f n + f n ≤ sumF h n + h n
    omega
theorem sum_lt {f h : Nat → Nat} : ∀ n, (∀ i, i < n → f i ≤ h i) → (∃ i, i < n ∧ f i < h i) → sumF f n + 1 ≤ sumF h n
  | 0, _, ⟨i, hi, _⟩ => absurd hi (by omega)
  | n + 1, q, ⟨i, hi, hl⟩ => by
    show sumF f n + f n + 1 ≤ sumF h n + h n
    by_cases c : i = n
    · subst c
      have := sum_le i fun j hj => q j (by omega)
      omega
    · have := sum_lt n (fun j hj => q j (by omega)) ⟨i, by omega, hl⟩
      have := q n (by omega)
      omega
/-- where a worker stands or will stand -/
def epl (r : Rows) (s : Spot) (w : Nat) : Nat := if gt s.p w = 0 then seatF r w else gt s.p w
def cost (r : Rows) (ns : List Nat) (s : Spot) (e v : Nat) : Nat :=
  if gt s.d v = 1 then (if v ≠ 1 ∧ un e v = true then 1 else 0)
  else (if v = 1 then 0 else 1) + (if v ≠ 1 ∧ ¬ un e v = true then 1 else 0) + (if v < r.N then 1 else gt ns (v - r.N) - gt s.c (v - r.N))
def pot (r : Rows) (ns : List Nat) (s : Spot) (w : Nat) : Nat := sumF (fun i => cost r ns s (epl r s w) (i + 1)) (2 * r.N - 1) + (if gt s.p w = 0 then 1 else 0)
theorem cost_le {r : Rows} {ns : List Nat} {s : Spot} {e v : Nat} : cost r ns s e v ≤ (if v = 1 then (if v < r.N then 1 else gt ns (v - r.N)) else 2 + (if v < r.N then 1 else gt ns (v - r.N))) := by
  unfold cost
  by_cases c : v = 1
  · subst c
    simp
    (repeat' split) <;> omega
  · (repeat' split) <;> simp_all <;> omega
theorem cost_same {r : Rows} {ns : List Nat} {s t : Spot} {g : List Nat} {e e' v : Nat} (k : r.ok) (T : Tk r ns s g t) (h : un e' v = un e v) : cost r ns t e' v ≤ cost r ns s e v := by
  unfold cost
  rw [h]
  by_cases c1 : gt s.d v = 1
  · rw [if_pos c1, if_pos (d_stays k T c1)]
    exact Nat.le_refl _
  · rw [if_neg c1]
    have hc : gt s.c (v - r.N) ≤ gt t.c (v - r.N) := by
      rw [T.c]
      split <;> omega
    by_cases c2 : gt t.d v = 1
    · rw [if_pos c2]
      by_cases c3 : v = 1
      · simp [c3]
      · simp only [c3, if_false]
        split <;> omega
    · rw [if_neg c2]
      split <;> split <;> split <;> omega
theorem pot_dec {r : Rows} {ns : List Nat} {s t : Spot} {g : List Nat} {w : Nat} (k : r.ok) (I : Inv0 r ns s) (T : Tk r ns s g t) (h1 : gt s.d 1 ≠ 1) (hw : w < r.P) (hm : w ∈ g) : pot r ns t w + 1 ≤ pot r ns s w := by
  have hN := k.pos
  have hp := I.ok.pN w
  have ht : gt t.p w = (turnF r s w).2.2 := by rw [T.p, if_pos hm]
  have C := turnC (s := s) k w
  have hh : ∀ v, (turnF r s w).1 = .mark ∨ (turnF r s w).1 = .work → gt s.p w = v → gt t.d v = valF r ns s v := fun v q e => by
    rw [T.d, if_pos]
    refine List.any_eq_true.mpr ⟨w, hm, ?_⟩
    unfold hit
    simp only [decide_eq_true_eq]
    exact ⟨q, e⟩
  have main : ∀ e e' : Nat, epl r s w = e → epl r t w = e' → (if gt t.p w = 0 then 1 else 0) ≤ (if gt s.p w = 0 then 1 else 0) → ∀ v, 1 ≤ v → v < 2 * r.N → cost r ns t e' v < cost r ns s e v → (∀ u, 1 ≤ u → u < 2 * r.N → u ≠ v → un e' u = un e u) → pot r ns t w + 1 ≤ pot r ns s w := fun e e' q1 q2 q3 v v1 v2 q4 q5 => by
    unfold pot
    rw [q1, q2]
    have := sum_lt (f := fun i => cost r ns t e' (i + 1)) (h := fun i => cost r ns s e (i + 1)) (2 * r.N - 1) (fun i hi => by
      by_cases c : i + 1 = v
      · rw [c]; omega
      · exact cost_same k T (q5 (i + 1) (by omega) (by omega) c)) ⟨v - 1, by omega, by
        have : v - 1 + 1 = v := by omega
        rw [this]
        exact q4⟩
    omega
  generalize ea : (turnF r s w).1 = a at C hh
  generalize eb : (turnF r s w).2.2 = b at C ht
  cases C with
  | idle h => exact absurd h h1
  | take h hz =>
    have hs := seat_lt' k hw
    have e1 : epl r s w = seatF r w := by unfold epl; rw [if_pos hz]
    have e2 : epl r t w = seatF r w := by unfold epl; rw [ht, if_neg (by omega)]
    unfold pot
    rw [e1, e2, ht, if_pos hz, if_neg (by omega)]
    have := sum_le (f := fun i => cost r ns t (seatF r w) (i + 1)) (h := fun i => cost r ns s (seatF r w) (i + 1)) (2 * r.N - 1) (fun i _ => cost_same k T rfl)
    omega
  | up h hz hd =>
    have p2 : 2 ≤ gt s.p w := by
      have : gt s.p w ≠ 1 := fun z => h1 (z ▸ hd)
      omega
    refine main (gt s.p w) (gt s.p w / 2) (by unfold epl; rw [if_neg hz]) (by unfold epl; rw [ht, if_neg (by omega)]) (by rw [ht, if_neg (by omega)]; omega) (gt s.p w) (by omega) (by omega) ?_ (fun u u1 u2 hu => ?_)
    · unfold cost
      rw [if_pos (d_stays k T hd), if_pos hd, if_neg (by
        rintro ⟨_, z⟩
        rw [un_half _ (by omega) p2 _ (by omega)] at z
        simp at z), if_pos ⟨by omega, un_self _ (by omega) (by omega)⟩]
      omega
    · rw [un_half _ (by omega) p2 u (by omega)]
      simp [hu]
  | work h hz hd hn =>
    have e1 : epl r s w = gt s.p w := by unfold epl; rw [if_neg hz]
    have e2 : epl r t w = gt s.p w := by unfold epl; rw [ht, if_neg hz]
    refine main _ _ e1 e2 (by rw [ht]; omega) (gt s.p w) (by omega) (by omega) ?_ (fun _ _ _ _ => rfl)
    have hv := hh _ (.inr rfl) rfl
    have hx : r.N + (gt s.p w - r.N) = gt s.p w := by omega
    have hl := I.leaf (gt s.p w - r.N) (by omega) (by rw [hx]; exact hd)
    have hc : gt t.c (gt s.p w - r.N) = gt s.c (gt s.p w - r.N) + 1 := by
      rw [T.c, if_pos]
      refine List.any_eq_true.mpr ⟨w, hm, ?_⟩
      unfold hit
      simp only [decide_eq_true_eq]
      exact ⟨.inr ea, hx.symm⟩
    unfold cost
    have n1 : ¬ gt s.p w = 1 := by omega
    have n2 : ¬ gt s.p w < r.N := by omega
    rw [if_neg hd, un_self _ (by omega) (by omega), hc]
    by_cases c : gt t.d (gt s.p w) = 1
    · rw [if_pos c]
      simp only [n1, n2, ne_eq, if_false, not_true_eq_false, and_false, not_false_eq_true, and_self, if_true]
      omega
    · rw [if_neg c]
      simp only [n1, n2, if_false, not_true_eq_false, and_false]
      omega
  | mark h hz hd hn a b =>
    have e1 : epl r s w = gt s.p w := by unfold epl; rw [if_neg hz]
    have e2 : epl r t w = gt s.p w := by unfold epl; rw [ht, if_neg hz]
    refine main _ _ e1 e2 (by rw [ht]; omega) (gt s.p w) (by omega) (by omega) ?_ (fun _ _ _ _ => rfl)
    have hv := hh _ (.inl rfl) rfl
    unfold valF at hv
    rw [if_pos hn] at hv
    unfold cost
    rw [if_neg hd, if_pos hv, un_self _ (by omega) (by omega), if_pos hn]
    by_cases c : gt s.p w = 1
    · simp [c]
    · simp [c]
  | down c h hz hd hn hc hcm hl =>
    have hb : ∃ bt, bt < 2 ∧ b = 2 * gt s.p w + bt := by
      rcases hc with e | e
      · exact ⟨0, by omega, by omega⟩
      · exact ⟨1, by omega, by omega⟩
    obtain ⟨bt, hbt, rfl⟩ := hb
    refine main (gt s.p w) (2 * gt s.p w + bt) (by unfold epl; rw [if_neg hz]) (by unfold epl; rw [ht, if_neg (by omega)]) (by rw [ht, if_neg (by omega)]; omega) (2 * gt s.p w + bt) (by omega) (by omega) ?_ (fun u u1 u2 hu => ?_)
    · have ha := un_self_down (gt s.p w) (by omega) (by omega) bt hbt
      have hs := un_self (2 * gt s.p w + bt) (by omega) (by omega)
      have hcc : gt s.c (2 * gt s.p w + bt - r.N) ≤ gt t.c (2 * gt s.p w + bt - r.N) := by
        rw [T.c]
        split <;> omega
      unfold cost
      rw [if_neg hcm, ha, hs]
      have n1 : ¬ (2 * gt s.p w + bt = 1) := by omega
      by_cases q : gt t.d (2 * gt s.p w + bt) = 1
      · rw [if_pos q]
        simp [n1]
        omega
      · rw [if_neg q]
        simp [n1]
        split <;> omega
    · rw [un_child _ (by omega) (by omega) bt hbt u (by omega)]
      simp [hu]
theorem sumF_add (f : Nat → Nat) (n : Nat) : ∀ m, sumF f (n + m) = sumF f n + sumF (fun i => f (n + i)) m
  | 0 => rfl
  | m + 1 => by
    show sumF f (n + m) + f (n + m) = sumF f n + (sumF (fun i => f (n + i)) m + f (n + m))
    rw [sumF_add f n m]
    omega
theorem sumF_const (c : Nat) : ∀ n, sumF (fun _ => c) n = c * n
  | 0 => rfl
  | n + 1 => by
    show sumF (fun _ => c) n + c = _
    rw [sumF_const c n, Nat.mul_succ]
theorem sumF_plus (f : Nat → Nat) (c : Nat) : ∀ n, sumF (fun i => c + f i) n = c * n + sumF f n
  | 0 => rfl
  | n + 1 => by
    show sumF (fun i => c + f i) n + (c + f n) = _
    rw [sumF_plus f c n, Nat.mul_succ]
    show _ = _ + (sumF f n + f n)
    omega
theorem sumF_cons (x : Nat) (l : List Nat) : ∀ n, sumF (gt (x :: l)) (n + 1) = x + sumF (gt l) n
  | 0 => by
    show 0 + x = x + 0
    omega
  | n + 1 => by
    show sumF (gt (x :: l)) (n + 1) + gt l n = x + (sumF (gt l) n + gt l n)
    rw [sumF_cons x l n]
    omega
theorem sumF_list : ∀ l : List Nat, sumF (gt l) l.length = l.sum
  | [] => rfl
  | x :: l => by
    rw [List.length_cons, sumF_cons, sumF_list l, List.sum_cons]
def potB (r : Rows) (ns : List Nat) (i : Nat) : Nat := if i + 1 < r.N then 3 else 2 + gt ns (i + 1 - r.N)
theorem pot_le {r : Rows} {ns : List Nat} {s : Spot} {w : Nat} (k : r.ok) (hn : ns.length = r.N) : pot r ns s w + 1 ≤ ns.sum + 5 * r.N := by
  have hN := k.pos
  have h1 := sum_le (f := fun i => cost r ns s (epl r s w) (i + 1)) (h := potB r ns) (2 * r.N - 1) (fun i hi => by
    refine Nat.le_trans cost_le ?_
    unfold potB
    (repeat' split) <;> omega)
  have e : 2 * r.N - 1 = (r.N - 1) + r.N := by omega
  have h2 := sumF_add (potB r ns) (r.N - 1) r.N
  have h3 := sum_le (f := potB r ns) (h := fun _ => 3) (r.N - 1) (fun i hi => by
    unfold potB
    rw [if_pos (by omega)]
    exact Nat.le_refl _)
  have h4 := sum_le (f := fun i => potB r ns (r.N - 1 + i)) (h := fun i => 2 + gt ns i) r.N (fun i hi => by
    unfold potB
    rw [if_neg (by omega), show r.N - 1 + i + 1 - r.N = i by omega]
    exact Nat.le_refl _)
  rw [sumF_const] at h3
  have h5 := sumF_plus (gt ns) 2 r.N
  have h6 := sumF_list ns
  rw [hn] at h6
  unfold pot
  rw [e] at h1 ⊢
  have : (if gt s.p w = 0 then 1 else 0) ≤ 1 := by split <;> omega
  omega
end Vk
namespace Vk
/-! ### how many turns a worker may still have at a node -/
def oc (s : Spot) (e c : Nat) : Nat := if gt s.d c ≠ 1 ∧ un e c = false then 1 else 0
def budE (r : Rows) (ns : List Nat) (s : Spot) (e v : Nat) : Nat :=
  if gt s.d v = 1 then (if v ≠ 1 ∧ un e v = true then 1 else 0)
  else (if v = 1 then 0 else 1) + (if v < r.N then 1 + oc s e (2 * v) + oc s e (2 * v + 1) else gt ns (v - r.N) - gt s.c (v - r.N))
def bud (r : Rows) (ns : List Nat) (s : Spot) (w v : Nat) : Nat := if v = 0 then (if gt s.p w = 0 then 1 else 0) else budE r ns s (epl r s w) v
def allow (r : Rows) (ns : List Nat) (v w : Nat) : Nat := if v = 0 then 1 else if r.N ≤ v then gt ns (v - r.N) + 1 else if v = 1 then 2 else 4 - (if un (seatF r w) v = true then 1 else 0)
theorem oc_le (s : Spot) (e c : Nat) : oc s e c ≤ 1 := by unfold oc; split <;> omega
theorem oc_mono {r : Rows} {ns : List Nat} {s t : Spot} {g : List Nat} (k : r.ok) (T : Tk r ns s g t) (e c : Nat) : oc t e c ≤ oc s e c := by
  unfold oc
  by_cases h : gt s.d c = 1
  · have := d_stays k T h
    simp [h, this]
  · by_cases h2 : un e c = false
    · rw [if_pos (c := gt s.d c ≠ 1 ∧ _) ⟨h, h2⟩]
      split <;> omega
    · rw [if_neg (fun z => h2 z.2)]
      exact Nat.zero_le _
theorem bud_same {r : Rows} {ns : List Nat} {s t : Spot} {g : List Nat} (k : r.ok) (T : Tk r ns s g t) (e v : Nat) : budE r ns t e v ≤ budE r ns s e v := by
  unfold budE
  have h1 := oc_mono k T e (2 * v)
  have h2 := oc_mono k T e (2 * v + 1)
  have hc : gt s.c (v - r.N) ≤ gt t.c (v - r.N) := by
    rw [T.c]
    split <;> omega
  by_cases c1 : gt s.d v = 1
  · rw [if_pos c1, if_pos (d_stays k T c1)]
    exact Nat.le_refl _
  · rw [if_neg c1]
    by_cases c2 : gt t.d v = 1
    · rw [if_pos c2]
      by_cases c3 : v = 1
      · simp [c3]
      · simp only [c3, if_false]
        split <;> omega
    · rw [if_neg c2]
      split <;> split <;> omega
theorem budE_up {r : Rows} {ns : List Nat} {t : Spot} {p v : Nat} (hp : p < 32) (p2 : 2 ≤ p) (hd : gt t.d p = 1) (hv : v < 32) (hN : r.N ≤ 16) (hne : v ≠ p) : budE r ns t (p / 2) v ≤ budE r ns t p v := by
  have hu : ∀ u, u < 32 → u ≠ p → un (p / 2) u = un p u := fun u h n => by
    rw [un_half p hp p2 u h]
    simp [n]
  have ho : ∀ c, c < 32 → oc t (p / 2) c ≤ oc t p c := fun c h => by
    by_cases e : c = p
    · subst e
      unfold oc
      simp [hd]
    · unfold oc
      rw [hu c h e]
      exact Nat.le_refl _
  unfold budE
  rw [hu v hv hne]
  by_cases c1 : gt t.d v = 1
  · rw [if_pos c1, if_pos c1]
    exact Nat.le_refl _
  · rw [if_neg c1, if_neg c1]
    by_cases c2 : v < r.N
    · rw [if_pos c2, if_pos c2]
      have h1 := ho (2 * v) (by omega)
      have h2 := ho (2 * v + 1) (by omega)
      omega
    · rw [if_neg c2, if_neg c2]
      exact Nat.le_refl _
theorem budE_down {r : Rows} {ns : List Nat} {t : Spot} {p bt v : Nat} (hp : p < 16) (p1 : 1 ≤ p) (hb : bt < 2) (hv : v < 32) (hN : r.N ≤ 16) (hne : v ≠ p) (hd : gt t.d v ≠ 1 ∨ v ≠ 2 * p + bt) : budE r ns t (2 * p + bt) v = budE r ns t p v := by
  have hu : ∀ u, u < 32 → u ≠ 2 * p + bt → un (2 * p + bt) u = un p u := fun u h n => by
    rw [un_child p hp p1 bt hb u h]
    simp [n]
  unfold budE
  have ho : ∀ c, c < 32 → c ≠ 2 * p + bt → oc t (2 * p + bt) c = oc t p c := fun c h n => by
    unfold oc
    rw [hu c h n]
  by_cases c1 : gt t.d v = 1
  · rw [if_pos c1, if_pos c1, hu v hv (by rcases hd with h | h; exact absurd c1 h; exact h)]
  · rw [if_neg c1, if_neg c1]
    by_cases c2 : v < r.N
    · rw [if_pos c2, if_pos c2, ho (2 * v) (by omega) (by omega), ho (2 * v + 1) (by omega) (by omega)]
    · rw [if_neg c2, if_neg c2]
theorem bud_stay {r : Rows} {ns : List Nat} {s t : Spot} {g : List Nat} {w : Nat} (k : r.ok) (T : Tk r ns s g t) (hm : w ∉ g) (v : Nat) : bud r ns t w v ≤ bud r ns s w v := by
  have hp : gt t.p w = gt s.p w := by rw [T.p, if_neg hm]
  have he : epl r t w = epl r s w := by unfold epl; rw [hp]
  unfold bud
  rw [hp, he]
  split
  · exact Nat.le_refl _
  · exact bud_same k T _ v
theorem bud_dec {r : Rows} {ns : List Nat} {s t : Spot} {g : List Nat} {w : Nat} (k : r.ok) (I : Inv0 r ns s) (T : Tk r ns s g t) (h1 : gt s.d 1 ≠ 1) (hw : w < r.P) (hm : w ∈ g) (v : Nat) (hv : v < 2 * r.N) :
    bud r ns t w v + (if v = gt s.p w then 1 else 0) ≤ bud r ns s w v := by
  have hN := k.pos
  have hp := I.ok.pN w
  have ht : gt t.p w = (turnF r s w).2.2 := by rw [T.p, if_pos hm]
  have C := turnC (s := s) k w
  have hh : ∀ v, (turnF r s w).1 = .mark ∨ (turnF r s w).1 = .work → gt s.p w = v → gt t.d v = valF r ns s v ∧ g.any (hit r s v) = true := fun v q e => by
    have : g.any (hit r s v) = true := by
      refine List.any_eq_true.mpr ⟨w, hm, ?_⟩
      unfold hit
      simp only [decide_eq_true_eq]
      exact ⟨q, e⟩
    exact ⟨by rw [T.d, if_pos this], this⟩
  generalize ea : (turnF r s w).1 = a at C hh
  generalize eb : (turnF r s w).2.2 = b at C ht
  cases C with
  | idle h => exact absurd h h1
  | take h hz =>
    have hs := seat_lt' k hw
    have e1 : epl r s w = seatF r w := by unfold epl; rw [if_pos hz]
    have e2 : epl r t w = seatF r w := by unfold epl; rw [ht, if_neg (by omega)]
    unfold bud
    rw [e1, e2, ht, hz]
    by_cases c : v = 0
    · rw [if_pos c, if_pos c, if_pos c, if_neg (by omega), if_pos rfl]
      exact Nat.le_refl _
    · rw [if_neg c, if_neg c, if_neg c]
      exact bud_same k T _ v
  | up h hz hd =>
    have p2 : 2 ≤ gt s.p w := by
      have : gt s.p w ≠ 1 := fun z => h1 (z ▸ hd)
      omega
    have e1 : epl r s w = gt s.p w := by unfold epl; rw [if_neg hz]
    have e2 : epl r t w = gt s.p w / 2 := by unfold epl; rw [ht, if_neg (by omega)]
    unfold bud
    rw [e1, e2, ht]
    by_cases c : v = 0
    · rw [if_pos c, if_pos c, if_neg (by omega), if_neg hz, if_neg (by omega)]
      exact Nat.le_refl _
    · rw [if_neg c, if_neg c]
      by_cases c2 : v = gt s.p w
      · rw [if_pos c2, c2]
        unfold budE
        rw [if_pos (d_stays k T hd), if_pos hd, if_neg (by
          rintro ⟨_, z⟩
          rw [un_half _ (by omega) p2 _ (by omega)] at z
          simp at z), if_pos ⟨by omega, un_self _ (by omega) (by omega)⟩]
        exact Nat.le_refl _
      · rw [if_neg c2]
        exact Nat.le_trans (budE_up (by omega) p2 (d_stays k T hd) (by omega) (by omega) c2) (bud_same k T _ v)
  | work h hz hd hn =>
    have e1 : epl r s w = gt s.p w := by unfold epl; rw [if_neg hz]
    have e2 : epl r t w = gt s.p w := by unfold epl; rw [ht, if_neg hz]
    unfold bud
    rw [e1, e2, ht]
    by_cases c : v = 0
    · rw [if_pos c, if_pos c, if_neg hz, if_neg (by omega)]
      exact Nat.le_refl _
    · rw [if_neg c, if_neg c]
      by_cases c2 : v = gt s.p w
      · rw [if_pos c2, c2]
        have hx : r.N + (gt s.p w - r.N) = gt s.p w := by omega
        have hl := I.leaf (gt s.p w - r.N) (by omega) (by rw [hx]; exact hd)
        have hc : gt t.c (gt s.p w - r.N) = gt s.c (gt s.p w - r.N) + 1 := by
          rw [T.c, if_pos]
          rw [hx]
          exact (hh _ (.inr rfl) rfl).2
        unfold budE
        have n1 : ¬ gt s.p w = 1 := by omega
        have n2 : ¬ gt s.p w < r.N := by omega
        rw [if_neg hd, un_self _ (by omega) (by omega), hc]
        by_cases c : gt t.d (gt s.p w) = 1
        · rw [if_pos c]
          simp only [n1, n2, ne_eq, if_false, not_true_eq_false, and_false, not_false_eq_true, and_self, if_true]
          omega
        · rw [if_neg c]
          simp only [n1, n2, if_false, not_true_eq_false, and_false]
          omega
      · rw [if_neg c2]
        exact bud_same k T _ v
  | mark h hz hd hn a1 b1 =>
    have e1 : epl r s w = gt s.p w := by unfold epl; rw [if_neg hz]
    have e2 : epl r t w = gt s.p w := by unfold epl; rw [ht, if_neg hz]
    unfold bud
    rw [e1, e2, ht]
    by_cases c : v = 0
    · rw [if_pos c, if_pos c, if_neg hz, if_neg (by omega)]
      exact Nat.le_refl _
    · rw [if_neg c, if_neg c]
      by_cases c2 : v = gt s.p w
      · rw [if_pos c2, c2]
        have hv' := (hh _ (.inl rfl) rfl).1
        unfold valF at hv'
        rw [if_pos hn] at hv'
        unfold budE
        rw [if_neg hd, if_pos hv', if_pos hn]
        have hx : (if gt s.p w ≠ 1 ∧ un (gt s.p w) (gt s.p w) = true then 1 else 0) ≤ (if gt s.p w = 1 then 0 else 1) := by
          by_cases c : gt s.p w = 1
          · simp [c]
          · simp only [c, if_false]
            split <;> omega
        omega
      · rw [if_neg c2]
        exact bud_same k T _ v
  | down _ h hz hd hn hc hcm hl =>
    have hb : ∃ bt, bt < 2 ∧ b = 2 * gt s.p w + bt := by
      rcases hc with e | e
      · exact ⟨0, by omega, by omega⟩
      · exact ⟨1, by omega, by omega⟩
    obtain ⟨bt, hbt, rfl⟩ := hb
    have e1 : epl r s w = gt s.p w := by unfold epl; rw [if_neg hz]
    have e2 : epl r t w = 2 * gt s.p w + bt := by unfold epl; rw [ht, if_neg (by omega)]
    unfold bud
    rw [e1, e2, ht]
    by_cases c : v = 0
    · rw [if_pos c, if_pos c, if_neg (by omega), if_neg hz, if_neg (by omega)]
      exact Nat.le_refl _
    · rw [if_neg c, if_neg c]
      by_cases c2 : v = gt s.p w
      · rw [if_pos c2, c2]
        have ntd : gt t.d (gt s.p w) ≠ 1 := fun z => by
          rw [T.d] at z
          by_cases q : g.any (hit r s (gt s.p w)) = true
          · obtain ⟨x, _, hx⟩ := any_hit q
            have := hit_mark k hn hx
            have hbb : bt = 0 ∨ bt = 1 := by omega
            rcases hbb with rfl | rfl
            · exact hcm this.2.2.2.1
            · exact hcm this.2.2.2.2.1
          · rw [if_neg q] at z
            exact hd z
        have ha := un_self_down (gt s.p w) (by omega) (by omega) bt hbt
        have hs := un_self (2 * gt s.p w + bt) (by omega) (by omega)
        have o1 : oc s (gt s.p w) (2 * gt s.p w + bt) = 1 := by
          unfold oc
          rw [if_pos ⟨hcm, ha⟩]
        have o2 : oc t (2 * gt s.p w + bt) (2 * gt s.p w + bt) = 0 := by
          unfold oc
          rw [hs]
          simp
        have o3 : ∀ c, c < 32 → c ≠ 2 * gt s.p w + bt → oc t (2 * gt s.p w + bt) c ≤ oc s (gt s.p w) c := fun c hc n => by
          have : oc t (2 * gt s.p w + bt) c = oc t (gt s.p w) c := by
            unfold oc
            rw [un_child _ (by omega) (by omega) bt hbt c hc]
            simp [n]
          rw [this]
          exact oc_mono k T _ c
        unfold budE
        rw [if_neg hd, if_neg ntd, if_pos hn, if_pos hn]
        have hbb : bt = 0 ∨ bt = 1 := by omega
        rcases hbb with rfl | rfl
        · have := o3 (2 * gt s.p w + 1) (by omega) (by omega)
          simp only [Nat.add_zero] at o1 o2 this ⊢
          omega
        · have := o3 (2 * gt s.p w) (by omega) (by omega)
          omega
      · rw [if_neg c2]
        by_cases q : gt t.d v ≠ 1 ∨ v ≠ 2 * gt s.p w + bt
        · rw [budE_down (by omega) (by omega) hbt (by omega) (by omega) c2 q]
          exact bud_same k T _ v
        · have q1 : gt t.d v = 1 := Decidable.byContradiction fun z => q (.inl z)
          have q2 : v = 2 * gt s.p w + bt := Decidable.byContradiction fun z => q (.inr z)
          have hcm' : gt s.d v ≠ 1 := q2 ▸ hcm
          have hv1 : v ≠ 1 := by omega
          unfold budE
          rw [if_pos q1, if_neg hcm', if_neg hv1]
          split <;> omega
theorem un_two : ∀ e < 32, 2 ≤ e → un e 2 = true ∨ un e 3 = true := by decide +kernel
theorem un_kids0 : ∀ e < 32, ∀ v < 16, (decide (v = 0) || !un e v || decide (e = v) || un e (2 * v) || un e (2 * v + 1)) = true := by decide +kernel
theorem un_kids (e : Nat) (he : e < 32) (v : Nat) (hv : v < 16) (h1 : 1 ≤ v) (h : un e v = true) (hne : e ≠ v) : un e (2 * v) = true ∨ un e (2 * v + 1) = true := by
  have := un_kids0 e he v hv
  rw [h] at this
  simp only [Bool.or_eq_true, decide_eq_true_eq, Bool.not_true, Bool.false_eq_true] at this
  rcases this with (((q | q) | q) | q) | q
  · omega
  · exact absurd q id
  · exact absurd q hne
  · exact .inl q
  · exact .inr q
theorem bud_start {r : Rows} {ns : List Nat} (k : r.ok) {w v : Nat} (hw : w < r.P) (hv : v < 2 * r.N) : bud r ns (startF r) w v ≤ allow r ns v w := by
  have hN := k.pos
  have hs := seat_lt' k hw
  have hz : ∀ v, gt (startF r).d v = 0 := fun v => by
    show gt (List.replicate _ 0) v = 0
    rw [gt_rep]
    split <;> rfl
  have pz : gt (startF r).p w = 0 := by
    show gt (List.replicate _ 0) w = 0
    rw [gt_rep]
    split <;> rfl
  have e1 : epl r (startF r) w = seatF r w := by unfold epl; rw [if_pos pz]
  unfold bud allow
  rw [e1, pz]
  by_cases c : v = 0
  · rw [if_pos c, if_pos c]
    exact Nat.le_refl _
  · rw [if_neg c, if_neg c]
    unfold budE
    rw [hz, if_neg (by decide)]
    by_cases c2 : r.N ≤ v
    · rw [if_pos c2, if_neg (by omega), if_neg (by omega)]
      omega
    · rw [if_neg c2, if_pos (show v < r.N by omega)]
      have a1 := oc_le (startF r) (seatF r w) (2 * v)
      have a2 := oc_le (startF r) (seatF r w) (2 * v + 1)
      have key : un (seatF r w) v = true → oc (startF r) (seatF r w) (2 * v) + oc (startF r) (seatF r w) (2 * v + 1) ≤ 1 := fun h => by
        rcases un_kids (seatF r w) (by omega) v (by omega) (by omega) h (by omega) with q | q
        · have : oc (startF r) (seatF r w) (2 * v) = 0 := by unfold oc; rw [q]; simp
          omega
        · have : oc (startF r) (seatF r w) (2 * v + 1) = 0 := by unfold oc; rw [q]; simp
          omega
      by_cases c3 : v = 1
      · rw [if_pos c3, if_pos c3]
        subst c3
        have := un_two (seatF r w) (by omega) (by omega)
        rcases this with q | q
        · have : oc (startF r) (seatF r w) (2 * 1) = 0 := by unfold oc; rw [show 2 * 1 = 2 from rfl, q]; simp
          omega
        · have : oc (startF r) (seatF r w) (2 * 1 + 1) = 0 := by unfold oc; rw [show 2 * 1 + 1 = 3 from rfl, q]; simp
          omega
      · rw [if_neg c3, if_neg c3]
        by_cases q : un (seatF r w) v = true
        · rw [if_pos q]
          have := key q
          omega
        · rw [if_neg q]
          omega
/-- at the end all is marked -/
theorem all_marked {r : Rows} {ns : List Nat} {s : Spot} (k : r.ok) (I : Inv0 r ns s) (h : gt s.d 1 = 1) : ∀ n v, v < n → 1 ≤ v → v < 2 * r.N → gt s.d v = 1
  | 0, v, hn, _, _ => absurd hn (by omega)
  | n + 1, v, hn, h1, h2 => by
    by_cases c : v = 1
    · exact c ▸ h
    · have ih := all_marked k I h n (v / 2) (by omega) (by omega) (by omega)
      have kids := I.inner (v / 2) (by omega) (by omega) ih
      have : v = 2 * (v / 2) ∨ v = 2 * (v / 2) + 1 := by omega
      rcases this with q | q
      · rw [q]; exact kids.1
      · rw [q]; exact kids.2
theorem all_done {r : Rows} {ns : List Nat} {s : Spot} (k : r.ok) (I : Inv0 r ns s) (h : gt s.d 1 = 1) (ln : ns.length = r.N) : s.c = ns := by
  refine gt_ext (I.ok.lc.trans ln.symm) fun x hx => ?_
  have hx' : x < r.N := I.ok.lc ▸ hx
  have hN := k.pos
  exact I.full x hx' (all_marked k I h (2 * r.N) (r.N + x) (by omega) (by omega) (by omega))
end Vk
namespace Vk
/-! ### nodes above -/
def astep (s : List Nat × Nat) : List Nat × Nat := if 0 < s.2 then (s.1 ++ [s.2], s.2 / 2) else s
def aiter : Nat → List Nat × Nat → List Nat × Nat
  | 0, s => s
  | n + 1, s => astep (aiter n s)
def ab (v : Nat) : List Nat := (aiter 6 ([], v)).1
theorem ab_mem : ∀ v < 32, ∀ u < 32, decide (u ∈ ab v) = (decide (v ≠ 0) && un v u) := by decide +kernel
theorem ab_lt : ∀ v < 32, ∀ u ∈ ab v, 1 ≤ u ∧ u < 32 ∧ u ≤ v := by decide +kernel
theorem ab_len : ∀ v < 32, (ab v).length ≤ 6 := by decide +kernel
theorem ab_nodup : ∀ v < 32, (ab v).Nodup := by decide +kernel
theorem ab_zero : ab 0 = [] := by decide +kernel
theorem aiter_len : ∀ v < 32, ∀ k < 7, (aiter k ([], v)).1.length ≤ 6 := by decide +kernel
theorem ab_iff {v u : Nat} (hv : v < 32) (hu : u < 32) : u ∈ ab v ↔ v ≠ 0 ∧ un v u = true := by
  have := ab_mem v hv u hu
  rw [← decide_eq_true_eq (p := u ∈ ab v), this]
  simp
theorem un_apart0 : ∀ e < 32, ∀ v < 16, (decide (v = 0) || !un e (2 * v) || !un e (2 * v + 1)) = true := by decide +kernel
theorem un_apart {e v : Nat} (he : e < 32) (hv : v < 16) (h1 : 1 ≤ v) (h : un e (2 * v) = true) (h2 : un e (2 * v + 1) = true) : False := by
  have := un_apart0 e he v hv
  rw [h, h2] at this
  simp at this
  omega
theorem un_up0 : ∀ e < 32, ∀ v < 16, ∀ b < 2, (decide (v = 0) || !un e (2 * v + b) || un e v) = true := by decide +kernel
theorem un_up {e v b : Nat} (he : e < 32) (hv : v < 16) (hb : b < 2) (h1 : 1 ≤ v) (h : un e (2 * v + b) = true) : un e v = true := by
  have := un_up0 e he v hv b hb
  rw [h] at this
  simp at this
  rcases this with q | q
  · omega
  · exact q
theorem un_big : ∀ e < 32, ∀ v, un e v = true → v ≤ e ∧ 1 ≤ v ∨ e = 0 := fun e he v h => by
  have h2 : v ∈ chain e := of_decide_eq_true h
  have : ∀ e < 32, ∀ u ∈ chain e, (u ≤ e ∧ 1 ≤ u) ∨ e = 0 := by decide +kernel
  exact this e he v h2
def rw_ (G : List (List Nat)) (v : Nat) : List Nat := G.getD v []
theorem rw_set {G : List (List Nat)} {i j : Nat} {x : List Nat} (h : i < G.length) : rw_ (G.set i x) j = if j = i then x else rw_ G j := by
  unfold rw_
  rw [List.getD_eq_getElem?_getD, List.getD_eq_getElem?_getD, List.getElem?_set]
  by_cases c : i = j
  · subst c
    rw [if_pos rfl, if_pos h, if_pos rfl]
    rfl
  · rw [if_neg c, if_neg (Ne.symm c)]
theorem rw_out {G : List (List Nat)} {v : Nat} (h : ¬ v < G.length) : rw_ G v = [] := by
  unfold rw_
  rw [List.getD_eq_getElem?_getD, List.getElem?_eq_none (by omega)]
  rfl
theorem rw_in {G : List (List Nat)} {v w : Nat} (h : w ∈ rw_ G v) : v < G.length := by
  refine Decidable.byContradiction fun z => ?_
  rw [rw_out z] at h
  cases h
/-- w is put into the rows of these nodes, where it isn't yet -/
def putR (w : Nat) : List Nat → List (List Nat) → List (List Nat)
  | [], G => G
  | v :: l, G => putR w l (if w ∈ rw_ G v then G else G.set v (rw_ G v ++ [w]))
theorem put_len (w : Nat) : ∀ (l : List Nat) (G : List (List Nat)), (putR w l G).length = G.length
  | [], G => rfl
  | v :: l, G => by
    show (putR w l _).length = _
    rw [put_len w l]
    split
    · rfl
    · exact List.length_set
theorem put_mem (w : Nat) : ∀ (l : List Nat) (G : List (List Nat)) (_ : ∀ v ∈ l, v < G.length) (u x : Nat), x ∈ rw_ (putR w l G) u ↔ x ∈ rw_ G u ∨ (x = w ∧ u ∈ l)
  | [], G, _, u, x => by simp [putR]
  | v :: l, G, h, u, x => by
    have hv := h v (List.mem_cons_self ..)
    have hl : (if w ∈ rw_ G v then G else G.set v (rw_ G v ++ [w])).length = G.length := by
      split
      · rfl
      · exact List.length_set
    show x ∈ rw_ (putR w l _) u ↔ _
    rw [put_mem w l _ (fun y hy => by rw [hl]; exact h y (List.mem_cons_of_mem _ hy)) u x]
    by_cases c : w ∈ rw_ G v
    · rw [if_pos c]
      constructor
      · rintro (a | ⟨a, b⟩)
        · exact .inl a
        · exact .inr ⟨a, List.mem_cons_of_mem _ b⟩
      · rintro (a | ⟨a, b⟩)
        · exact .inl a
        · rcases List.mem_cons.mp b with b | b
          · subst a; subst b; exact .inl c
          · exact .inr ⟨a, b⟩
    · rw [if_neg c, rw_set hv]
      by_cases e : u = v
      · subst e
        rw [if_pos rfl]
        constructor
        · rintro (a | ⟨a, b⟩)
          · rcases List.mem_append.mp a with a | a
            · exact .inl a
            · exact .inr ⟨List.mem_singleton.mp a, List.mem_cons_self ..⟩
          · exact .inr ⟨a, List.mem_cons_of_mem _ b⟩
        · rintro (a | ⟨a, b⟩)
          · exact .inl (List.mem_append.mpr (.inl a))
          · exact .inl (List.mem_append.mpr (.inr (by rw [a]; simp)))
      · rw [if_neg e]
        constructor
        · rintro (a | ⟨a, b⟩)
          · exact .inl a
          · exact .inr ⟨a, List.mem_cons_of_mem _ b⟩
        · rintro (a | ⟨a, b⟩)
          · exact .inl a
          · rcases List.mem_cons.mp b with b | b
            · exact absurd b e
            · exact .inr ⟨a, b⟩
theorem put_nd (w : Nat) : ∀ (l : List Nat) (G : List (List Nat)) (_ : ∀ g ∈ G, g.Nodup), ∀ g ∈ putR w l G, g.Nodup
  | [], G, h => h
  | v :: l, G, h => by
    refine put_nd w l _ ?_
    split
    · exact h
    · rename_i c
      intro g hg
      rcases List.mem_or_eq_of_mem_set hg with q | q
      · exact h g q
      · rw [q]
        have hn : (rw_ G v).Nodup := by
          by_cases cv : v < G.length
          · have e : rw_ G v = G[v] := by unfold rw_; rw [List.getD_eq_getElem?_getD, List.getElem?_eq_getElem cv]; rfl
            rw [e]
            exact h _ (List.getElem_mem cv)
          · rw [rw_out cv]; exact List.nodup_nil
        exact List.nodup_append.mpr ⟨hn, by simp, fun x hx y hy e => c (by rw [List.mem_singleton.mp hy] at e; exact e ▸ hx)⟩
/-- the rows of a worker's ways, beside the marks and the places -/
structure HI (r : Rows) (s : Spot) (wh : List Int) (q : Nat → Nat) (U A : List (List Nat)) : Prop where
  lu : U.length = 2 * r.N
  la : A.length = 2 * r.N
  un_ : ∀ g ∈ U, g.Nodup
  an_ : ∀ g ∈ A, g.Nodup
  uP : ∀ v w, w ∈ rw_ U v → w < r.P
  i0 : ∀ w v, w < r.P → q w ≠ 0 → un (q w) v = true → w ∈ rw_ U v
  i2 : ∀ w v, w ∈ rw_ U v → q w ≠ 0 ∧ (un (q w) v = true ∨ gt s.d v = 1)
  ia : ∀ w v, w ∈ rw_ A v → w ∈ rw_ U v
  is_ : ∀ w v, w < r.P → q w ≠ 0 → un (seatF r w) v = true → w ∈ rw_ U v
  sub : ∀ w v b, 1 ≤ v → v < r.N → b < 2 → w ∈ rw_ U (2 * v + b) → w ∈ rw_ U v
  i1 : ∀ w v b, 1 ≤ v → v < r.N → b < 2 → w ∈ rw_ U (2 * v + b) → (un (seatF r w) (2 * v + 1 - b) = true ∨ (w ∈ rw_ A v ∧ leanF r w v ≠ b)) → gt s.d (2 * v + 1 - b) = 1 ∧ (wh.getD (2 * v + 1 - b) 0 < wh.getD (2 * v + b) 0 ∨ gt s.d (2 * v + b) ≠ 1)
theorem HI_mk {r : Rows} {s : Spot} {wh : List Int} {q : Nat → Nat} {U A A' : List (List Nat)} {w e : Nat} (k : r.ok) (I : HI r s wh q U A) (hw : w < r.P) (he : e < 2 * r.N) (e0 : e ≠ 0)
    (hb : ∀ v, w ∈ rw_ U v → un e v = true ∨ gt s.d v = 1) (hc : ∀ v, un (seatF r w) v = true → w ∈ rw_ U v ∨ v ∈ ab e)
    (hA : A' = A ∨ (A' = A.set e (rw_ A e ++ [w]) ∧ w ∉ rw_ A e))
    (hg : ∀ v b, 1 ≤ v → v < r.N → b < 2 → (w ∈ rw_ U (2 * v + b) ∨ 2 * v + b ∈ ab e) → (un (seatF r w) (2 * v + 1 - b) = true ∨ (w ∈ rw_ A' v ∧ leanF r w v ≠ b)) → gt s.d (2 * v + 1 - b) = 1 ∧ (wh.getD (2 * v + 1 - b) 0 < wh.getD (2 * v + b) 0 ∨ gt s.d (2 * v + b) ≠ 1)) :
    HI r s wh (fun x => if x = w then e else q x) (putR w (ab e) U) A' := by
  have hN := k.pos
  have hlt : ∀ v ∈ ab e, v < U.length := fun v hv => by
    have := ab_lt e (by omega) v hv
    rw [I.lu]
    omega
  have pm := put_mem w (ab e) U hlt
  have abu : ∀ v, v ∈ ab e ↔ un e v = true := fun v => by
    constructor
    · intro h
      have := ab_lt e (by omega) v h
      exact ((ab_iff (by omega) this.2.1).mp h).2
    · intro h
      have := un_big e (by omega) v h
      exact (ab_iff (by omega) (by omega)).mpr ⟨e0, h⟩
  have am : ∀ v x, x ≠ w → (x ∈ rw_ A' v ↔ x ∈ rw_ A v) := fun v x hx => by
    rcases hA with h | ⟨h, _⟩
    · rw [h]
    · rw [h]
      by_cases c : e < A.length
      · rw [rw_set c]
        split
        · rename_i z; subst z; simp [hx]
        · rfl
      · rw [I.la] at c
        omega
  refine ⟨by rw [put_len]; exact I.lu, ?_, put_nd w _ U I.un_, ?_, fun v x hx => ?_, fun x v hx h0 h => ?_, fun x v hx => ?_, fun x v hx => ?_, fun x v hx h0 h => ?_, fun x v b v1 vN hb2 hx => ?_, fun x v b v1 vN hb2 hx hz => ?_⟩
  · rcases hA with h | ⟨h, _⟩
    · rw [h]; exact I.la
    · rw [h, List.length_set]; exact I.la
  · rcases hA with h | ⟨h, hn⟩
    · rw [h]; exact I.an_
    · rw [h]
      intro g hg
      rcases List.mem_or_eq_of_mem_set hg with z | z
      · exact I.an_ g z
      · rw [z]
        have hnd : (rw_ A e).Nodup := by
          by_cases c : e < A.length
          · have e1 : rw_ A e = A[e] := by unfold rw_; rw [List.getD_eq_getElem?_getD, List.getElem?_eq_getElem c]; rfl
            rw [e1]
            exact I.an_ _ (List.getElem_mem c)
          · rw [rw_out c]; exact List.nodup_nil
        exact List.nodup_append.mpr ⟨hnd, by simp, fun x hx y hy e => hn (by rw [List.mem_singleton.mp hy] at e; exact e ▸ hx)⟩
  · rcases (pm v x).mp hx with h | h
    · exact I.uP v x h
    · exact h.1 ▸ hw
  · refine (pm v x).mpr ?_
    by_cases c : x = w
    · rw [if_pos c] at h
      exact .inr ⟨c, (abu v).mpr h⟩
    · rw [if_neg c] at h h0
      exact .inl (I.i0 x v hx h0 h)
  · by_cases c : x = w
    · rw [if_pos c]
      refine ⟨e0, ?_⟩
      rcases (pm v x).mp hx with h | h
      · exact hb v (c ▸ h)
      · exact .inl ((abu v).mp h.2)
    · rw [if_neg c]
      rcases (pm v x).mp hx with h | h
      · exact I.i2 x v h
      · exact absurd h.1 c
  · refine (pm v x).mpr ?_
    by_cases c : x = w
    · subst c
      rcases hA with h | ⟨h, _⟩
      · rw [h] at hx
        exact .inl (I.ia x v hx)
      · rw [h, rw_set (by rw [I.la]; exact he)] at hx
        split at hx
        · rename_i z
          exact .inr ⟨rfl, (abu v).mpr (z ▸ un_self e (by omega) (by omega))⟩
        · exact .inl (I.ia x v hx)
    · exact .inl (I.ia x v ((am v x c).mp hx))
  · refine (pm v x).mpr ?_
    by_cases c : x = w
    · subst c
      exact (hc v h).elim .inl (fun z => .inr ⟨rfl, z⟩)
    · rw [if_neg c] at h0
      exact .inl (I.is_ x v hx h0 h)
  · refine (pm v x).mpr ?_
    rcases (pm _ x).mp hx with h | h
    · exact .inl (I.sub x v b v1 vN hb2 h)
    · exact .inr ⟨h.1, (abu v).mpr (un_up (by omega) (by omega) hb2 v1 ((abu _).mp h.2))⟩
  · by_cases c : x = w
    · subst c
      refine hg v b v1 vN hb2 ?_ hz
      rcases (pm _ x).mp hx with h | h
      · exact .inl h
      · exact .inr h.2
    · have hx' : x ∈ rw_ U (2 * v + b) := by
        rcases (pm _ x).mp hx with h | h
        · exact h
        · exact absurd h.1 c
      refine I.i1 x v b v1 vN hb2 hx' ?_
      rcases hz with z | ⟨z1, z2⟩
      · exact .inl z
      · exact .inr ⟨(am v x c).mp z1, z2⟩
theorem HI_move {r : Rows} {s : Spot} {wh : List Int} {q : Nat → Nat} {U A : List (List Nat)} {w : Nat} (k : r.ok) (o : s.ok r) (I : HI r s wh q U A) (hw : w < r.P) (hq : q w = gt s.p w) (hne : gt s.p w ≠ (turnF r s w).2.2) :
    HI r s wh (fun x => if x = w then (turnF r s w).2.2 else q x) (putR w (ab (turnF r s w).2.2) U) (if 0 < gt s.p w ∧ (turnF r s w).2.2 / 2 = gt s.p w then A.set (turnF r s w).2.2 (rw_ A (turnF r s w).2.2 ++ [w]) else A) := by
  have hN := k.pos
  have hp := o.pN w
  have ht := turn_to k o hw
  have hs := seat_lt' k hw
  have C := turnC (s := s) k w
  generalize (turnF r s w).1 = a at C
  generalize (turnF r s w).2.2 = b at C ht hne ⊢
  cases C with
  | idle _ => exact absurd rfl hne
  | work _ _ _ _ => exact absurd rfl hne
  | mark _ _ _ _ _ _ => exact absurd rfl hne
  | take h hz =>
    have no : ∀ v, w ∉ rw_ U v := fun v z => (I.i2 w v z).1 (hq.trans hz)
    rw [if_neg (fun z => by omega)]
    refine HI_mk k I hw ht (by omega) (fun v z => absurd z (no v)) (fun v h => .inr ?_) (.inl rfl) (fun v b v1 vN hb2 hx hy => ?_)
    · have := un_big _ (by omega) v h
      exact (ab_iff (by omega) (by omega)).mpr ⟨by omega, h⟩
    · exfalso
      have hx' : 2 * v + b ∈ ab (seatF r w) := hx.elim (fun z => absurd z (no _)) id
      have h1 := ((ab_iff (by omega) (by omega)).mp hx').2
      rcases hy with z | z
      · have : b = 0 ∨ b = 1 := by omega
        rcases this with rfl | rfl
        · exact un_apart (by omega) (by omega) v1 h1 z
        · exact un_apart (by omega) (by omega) v1 z h1
      · exact no v (I.ia w v z.1)
  | up h hz hd =>
    have p2 : 2 ≤ gt s.p w := by
      have : gt s.p w ≠ 1 := fun z => h (z ▸ hd)
      omega
    have abin : ∀ u, u ∈ ab (gt s.p w / 2) → w ∈ rw_ U u := fun u hu => by
      have h1 := ab_lt (gt s.p w / 2) (by omega) u hu
      have h2 := ((ab_iff (by omega) h1.2.1).mp hu).2
      rw [un_half _ (by omega) p2 u h1.2.1] at h2
      simp at h2
      exact I.i0 w u hw (by rw [hq]; omega) (by rw [hq]; exact h2.1)
    rw [if_neg (fun z => by omega)]
    refine HI_mk k I hw (by omega) (by omega) (fun v z => ?_) (fun v h => .inl (I.is_ w v hw (by rw [hq]; omega) h)) (.inl rfl) (fun v b v1 vN hb2 hx hy => I.i1 w v b v1 vN hb2 (hx.elim id (abin _)) hy)
    have hv : v < 32 := by
      have := rw_in z
      have := I.lu
      omega
    rcases (I.i2 w v z).2 with u | u
    · rw [hq] at u
      by_cases c : v = gt s.p w
      · exact .inr (c ▸ hd)
      · left
        rw [un_half _ (by omega) p2 v hv, u]
        simp [c]
    · exact .inr u
  | down _ h hz hd hn hc hcm hl =>
    have hb : ∃ bt, bt < 2 ∧ b = 2 * gt s.p w + bt := by
      rcases hc with e | e
      · exact ⟨0, by omega, by omega⟩
      · exact ⟨1, by omega, by omega⟩
    obtain ⟨bt, hbt, rfl⟩ := hb
    have q0 : q w ≠ 0 := by rw [hq]; exact hz
    have nin : w ∉ rw_ U (2 * gt s.p w + bt) := fun z => by
      rcases (I.i2 w _ z).2 with u | u
      · rw [hq, un_self_down _ (by omega) (by omega) bt hbt] at u
        cases u
      · exact hcm u
    have unc : ∀ v, v < 32 → un (2 * gt s.p w + bt) v = true → v = 2 * gt s.p w + bt ∨ un (gt s.p w) v = true := fun v hv u => by
      rw [un_child _ (by omega) (by omega) bt hbt v hv] at u
      simpa using u
    rw [if_pos ⟨by omega, by omega⟩]
    refine HI_mk k I hw ht (by omega) (fun v z => ?_) (fun v h => .inl (I.is_ w v hw q0 h)) (.inr ⟨rfl, fun z => nin (I.ia w _ z)⟩) (fun v b v1 vN hb2 hx hy => ?_)
    · have hv : v < 32 := by
        have := rw_in z
        have := I.lu
        omega
      rcases (I.i2 w v z).2 with u | u
      · left
        rw [hq] at u
        rw [un_child _ (by omega) (by omega) bt hbt v hv, u]
        simp
      · exact .inr u
    · by_cases cx : 2 * v + b = 2 * gt s.p w + bt
      · -- the node to which it goes
        have ev : v = gt s.p w := by omega
        have eb : b = bt := by omega
        subst eb
        rw [ev] at hy ⊢
        refine ⟨?_, .inr hcm⟩
        have sib : ∀ x, (x = 2 * gt s.p w + 1 - b) → un (gt s.p w) x = false := fun x e => by
          have : b = 0 ∨ b = 1 := by omega
          rcases this with rfl | rfl
          · rw [e]; exact un_self_down _ (by omega) (by omega) 1 (by omega)
          · rw [e]; exact un_self_down _ (by omega) (by omega) 0 (by omega)
        rcases hy with z | z
        · have h1 := I.is_ w _ hw q0 z
          rcases (I.i2 w _ h1).2 with u | u
          · rw [hq, sib _ rfl] at u
            cases u
          · exact u
        · refine Decidable.byContradiction fun nd => ?_
          have hll := lean_le k w (gt s.p w)
          have : b = 0 ∨ b = 1 := by omega
          rcases this with rfl | rfl
          · have := hl hcm nd
            exact z.2 (by omega)
          · have := hl nd hcm
            exact z.2 (by omega)
      · have hx' : w ∈ rw_ U (2 * v + b) := by
          rcases hx with z | z
          · exact z
          · have h1 := ab_lt _ (by omega) _ z
            have h2 := ((ab_iff (by omega) h1.2.1).mp z).2
            rcases unc _ h1.2.1 h2 with u | u
            · exact absurd u cx
            · exact I.i0 w _ hw q0 (by rw [hq]; exact u)
        refine I.i1 w v b v1 vN hb2 hx' ?_
        rcases hy with z | ⟨z1, z2⟩
        · exact .inl z
        · by_cases cv : v = 2 * gt s.p w + bt
          · exfalso
            exact nin (cv ▸ I.sub w v b v1 vN hb2 hx')
          · rw [rw_set (by rw [I.la]; exact ht), if_neg cv] at z1
            exact .inr ⟨z1, z2⟩
theorem put_snoc (w : Nat) : ∀ (l : List Nat) (v : Nat) (G : List (List Nat)), putR w (l ++ [v]) G = if w ∈ rw_ (putR w l G) v then putR w l G else (putR w l G).set v (rw_ (putR w l G) v ++ [w])
  | [], v, G => rfl
  | u :: l, v, G => by
    show putR w (l ++ [v]) _ = _
    rw [put_snoc w l v]
    rfl
/-- when the nodes were marked -/
structure WI (r : Rows) (s : Spot) (n : Nat) (wh : List Int) : Prop where
  lw : wh.length = 2 * r.N
  w1 : ∀ v, v < 2 * r.N → (wh.getD v 0 = -1 ↔ gt s.d v ≠ 1)
  w2 : ∀ v, v < 2 * r.N → wh.getD v 0 < (n : Int)
theorem HI_tick {r : Rows} {ns : List Nat} {s t : Spot} {g : List Nat} {n : Nat} {wh wh' : List Int} {q : Nat → Nat} {U A : List (List Nat)} (k : r.ok) (T : Tk r ns s g t) (I : HI r s wh q U A) (hq : ∀ w, w < r.P → q w = gt t.p w) (W : WI r s n wh)
    (hw : ∀ v, v < 2 * r.N → wh'.getD v 0 = if wh.getD v 0 = -1 ∧ gt t.d v = 1 then (n : Int) else wh.getD v 0) : HI r t wh' (gt t.p) U A := by
  have hN := k.pos
  refine ⟨I.lu, I.la, I.un_, I.an_, I.uP, fun w v hwP h0 h => ?_, fun w v hx => ?_, I.ia, fun w v hwP h0 h => ?_, I.sub, fun w v b v1 vN hb hx hz => ?_⟩
  · rw [← hq w hwP] at h0 h
    exact I.i0 w v hwP h0 h
  · have := I.i2 w v hx
    rw [hq w (I.uP v w hx)] at this
    exact ⟨this.1, this.2.elim .inl (fun z => .inr (d_stays k T z))⟩
  · rw [← hq w hwP] at h0
    exact I.is_ w v hwP h0 h
  · have h := I.i1 w v b v1 vN hb hx hz
    have ho : 2 * v + 1 - b < 2 * r.N := by omega
    have hh : 2 * v + b < 2 * r.N := by omega
    refine ⟨d_stays k T h.1, ?_⟩
    have e1 : wh'.getD (2 * v + 1 - b) 0 = wh.getD (2 * v + 1 - b) 0 := by
      rw [hw _ ho, if_neg]
      exact fun z => ((W.w1 _ ho).mp z.1) h.1
    by_cases c : gt t.d (2 * v + b) = 1
    · left
      rw [e1, hw _ hh]
      rcases h.2 with z | z
      · by_cases c2 : wh.getD (2 * v + b) 0 = -1 ∧ gt t.d (2 * v + b) = 1
        · rw [if_pos c2]
          exact W.w2 _ ho
        · rw [if_neg c2]
          exact z
      · rw [if_pos ⟨(W.w1 _ hh).mpr z, c⟩]
        exact W.w2 _ ho
    · exact .inr c
theorem WI_tick {r : Rows} {ns : List Nat} {s t : Spot} {g : List Nat} {n : Nat} {wh wh' : List Int} (k : r.ok) (T : Tk r ns s g t) (W : WI r s n wh) (lw : wh'.length = 2 * r.N)
    (hw : ∀ v, v < 2 * r.N → wh'.getD v 0 = if wh.getD v 0 = -1 ∧ gt t.d v = 1 then (n : Int) else wh.getD v 0) : WI r t (n + 1) wh' := by
  refine ⟨lw, fun v hv => ?_, fun v hv => ?_⟩
  · rw [hw v hv]
    by_cases c : wh.getD v 0 = -1
    · by_cases c2 : gt t.d v = 1
      · rw [if_pos ⟨c, c2⟩]
        constructor
        · intro z; omega
        · intro z; exact absurd c2 z
      · rw [if_neg (fun z => c2 z.2)]
        exact ⟨fun _ => c2, fun _ => c⟩
    · rw [if_neg (fun z => c z.1)]
      constructor
      · intro z; exact absurd z c
      · intro z
        have : gt s.d v = 1 := Decidable.byContradiction fun q => c ((W.w1 v hv).mpr q)
        exact absurd (d_stays k T this) z
  · have := W.w2 v hv
    rw [hw v hv]
    split <;> omega
end Vk
namespace Tr
open PySem L2 Vk
/-! ### trees: what a value is, without addresses -/
inductive T where
  | non | bl (b : Bool) | int (i : Int) | str (s : Str)
  | lst (xs : List T) | tup (xs : List T)
  /-- a list that is never written: the script, one of the module -/
  | cl (xs : List T)
  /-- a thing of which only the reference counts; a built-in class -/
  | obj (a : Addr) | ty (n : String)
  /-- a caught exception: itself, its class, its own dict, its fields -/
  | exn (a C d : Addr) (fs : List (Str × T))
  | ins (C : Addr) (fs : List (Str × T))
  | dk (kvs : List (Key × T)) | dt (kvs : List (List Key × T))
mutual
inductive Rep (K : PySem.W.Frag) (G : Hp) : V → T → Prop
  | non : Rep K G .non .non
  | bl (b : Bool) : Rep K G (.bl b) (.bl b)
  | int (i : Int) : Rep K G (.int i) (.int i)
  | str (s : Str) : Rep K G (.str s) (.str s)
  | lst {a : Addr} {xs : List V} {ts : List T} : G a = some (.lst xs) → RepL K G xs ts → Rep K G (.ref a) (.lst ts)
  | cl {a : Addr} {xs : List V} {ts : List T} : SqL K G a xs → RepL K G xs ts → Rep K G (.ref a) (.cl ts)
  | obj (a : Addr) : Rep K G (.ref a) (.obj a)
  | ty (n : String) : Rep K G (.ty n) (.ty n)
  | exn {a C d : Addr} {fs : List (Str × V)} {gs : List (Str × T)} : G d = some (.xd fs) → fs.map Prod.fst = gs.map Prod.fst → RepL K G (fs.map Prod.snd) (gs.map Prod.snd) → Rep K G (.ref a) (.exn a C d gs)
  | tup {a : Addr} {xs : List V} {ts : List T} : SqT K G a xs → RepL K G xs ts → Rep K G (.ref a) (.tup ts)
  | ins {a C dx : Addr} {fs : List (Str × V)} {gs : List (Str × T)} : G a = some (.ins C dx fs) → fs.map Prod.fst = gs.map Prod.fst → RepL K G (fs.map Prod.snd) (gs.map Prod.snd) → Rep K G (.ref a) (.ins C gs)
  | dk {a : Addr} {kvs : List (Key × V)} {ks : List (Key × T)} : G a = some (.dK kvs) → kvs.map Prod.fst = ks.map Prod.fst → RepL K G (kvs.map Prod.snd) (ks.map Prod.snd) → Rep K G (.ref a) (.dk ks)
  | dt {a : Addr} {kvs : List (List Key × V)} {ks : List (List Key × T)} : G a = some (.dT kvs) → kvs.map Prod.fst = ks.map Prod.fst → RepL K G (kvs.map Prod.snd) (ks.map Prod.snd) → Rep K G (.ref a) (.dt ks)
inductive RepL (K : PySem.W.Frag) (G : Hp) : List V → List T → Prop
  | nil : RepL K G [] []
  | cons {v : V} {vs : List V} {t : T} {ts : List T} : Rep K G v t → RepL K G vs ts → RepL K G (v :: vs) (t :: ts)
end
section
variable {K : PySem.W.Frag} {G G' : Hp}
mutual
theorem Rep.mono (s : Same G G') : ∀ {v : V} {t : T}, Rep K G v t → Rep K G' v t
  | _, _, .non => .non
  | _, _, .bl b => .bl b
  | _, _, .int i => .int i
  | _, _, .str x => .str x
  | _, _, .lst h r => .lst (s _ _ h) (RepL.mono s r)
  | _, _, .cl h r => .cl (s.seq h) (RepL.mono s r)
  | _, _, .obj a => .obj a
  | _, _, .ty n => .ty n
  | _, _, .exn h e r => .exn (s _ _ h) e (RepL.mono s r)
  | _, _, .tup h r => .tup (Vk.Same.tup s h) (RepL.mono s r)
  | _, _, .ins h e r => .ins (s _ _ h) e (RepL.mono s r)
  | _, _, .dk h e r => .dk (s _ _ h) e (RepL.mono s r)
  | _, _, .dt h e r => .dt (s _ _ h) e (RepL.mono s r)
theorem RepL.mono (s : Same G G') : ∀ {vs : List V} {ts : List T}, RepL K G vs ts → RepL K G' vs ts
  | _, _, .nil => .nil
  | _, _, .cons h r => .cons (Rep.mono s h) (RepL.mono s r)
end
theorem RepL.len : ∀ {vs : List V} {ts : List T}, RepL K G vs ts → vs.length = ts.length
  | _, _, .nil => rfl
  | _, _, .cons _ r => congrArg (· + 1) (RepL.len r)
theorem RepL.get : ∀ {vs : List V} {ts : List T} {i : Nat} {t : T}, RepL K G vs ts → ts[i]? = some t → ∃ v, vs[i]? = some v ∧ Rep K G v t
  | _, _, _, _, .nil, e => by simp at e
  | _, _, 0, _, .cons h _, e => by simp at e; subst e; exact ⟨_, rfl, h⟩
  | _, _, i + 1, t, .cons _ r, e => by
    obtain ⟨v, h1, h2⟩ := RepL.get (i := i) (t := t) r (by simpa using e)
    exact ⟨v, by simpa using h1, h2⟩
theorem RepL.getV {vs : List V} {ts : List T} {i : Nat} {v : V} (r : RepL K G vs ts) (e : vs[i]? = some v) : ∃ t, ts[i]? = some t ∧ Rep K G v t := by
  have h := (List.getElem?_eq_some_iff.mp e).1
  rw [r.len] at h
  obtain ⟨v', h1, h2⟩ := r.get (List.getElem?_eq_getElem h)
  rw [e] at h1
  cases h1
  exact ⟨_, List.getElem?_eq_getElem h, h2⟩
theorem RepL.app : ∀ {vs ws : List V} {ts us : List T}, RepL K G vs ts → RepL K G ws us → RepL K G (vs ++ ws) (ts ++ us)
  | _, _, _, _, .nil, s => s
  | _, _, _, _, .cons h r, s => .cons h (RepL.app r s)
theorem RepL.one {v : V} {t : T} (h : Rep K G v t) : RepL K G [v] [t] := .cons h .nil
theorem RepL.take : ∀ {vs : List V} {ts : List T} (n : Nat), RepL K G vs ts → RepL K G (vs.take n) (ts.take n)
  | _, _, 0, _ => .nil
  | _, _, _ + 1, .nil => .nil
  | _, _, n + 1, .cons h r => .cons h (RepL.take n r)
theorem RepL.drop : ∀ {vs : List V} {ts : List T} (n : Nat), RepL K G vs ts → RepL K G (vs.drop n) (ts.drop n)
  | _, _, 0, r => r
  | _, _, _ + 1, .nil => .nil
  | _, _, n + 1, .cons _ r => RepL.drop n r
theorem RepL.set {v : V} {t : T} (h : Rep K G v t) : ∀ {vs : List V} {ts : List T} (i : Nat), RepL K G vs ts → RepL K G (vs.set i v) (ts.set i t)
  | _, _, _, .nil => .nil
  | _, _, 0, .cons _ r => .cons h r
  | _, _, i + 1, .cons q r => .cons q (RepL.set h i r)
theorem RepL.rev : ∀ {vs : List V} {ts : List T}, RepL K G vs ts → RepL K G vs.reverse ts.reverse
  | _, _, .nil => .nil
  | _, _, .cons h r => by
    rw [List.reverse_cons, List.reverse_cons]
    exact (RepL.rev r).app (.one h)
theorem RepL.ints {vs : List V} {ns : List Int} (r : RepL K G vs (ns.map T.int)) : vs = ns.map V.int := by
  induction ns generalizing vs with
  | nil => cases r; rfl
  | cons n ns ih =>
    cases r with
    | cons h r =>
      cases h
      rw [ih r]
      rfl
theorem RepL.of_ints (ns : List Int) : RepL K G (ns.map V.int) (ns.map T.int) := by
  induction ns with
  | nil => exact .nil
  | cons n ns ih => exact .cons (.int n) ih
theorem RepL.strs {vs : List V} {ns : List Str} (r : RepL K G vs (ns.map T.str)) : vs = ns.map V.str := by
  induction ns generalizing vs with
  | nil => cases r; rfl
  | cons n ns ih =>
    cases r with
    | cons h r =>
      cases h
      rw [ih r]
      rfl
theorem RepL.bls {vs : List V} {ns : List Bool} (r : RepL K G vs (ns.map T.bl)) : vs = ns.map V.bl := by
  induction ns generalizing vs with
  | nil => cases r; rfl
  | cons n ns ih =>
    cases r with
    | cons h r =>
      cases h
      rw [ih r]
      rfl
end
/-! ### what is one's own within -/
inductive M where
  | t (t : T)
  | lst (a : Addr) (xs : List M)
  | ins (a C : Addr) (fs : List (Str × M))
  | dk (a : Addr) (kvs : List (Key × M))
  | dt (a : Addr) (kvs : List (List Key × M))
mutual
def M.ads : M → List Addr
  | .t _ => []
  | .lst a xs => a :: adsL xs
  | .ins a _ fs => a :: adsF fs
  | .dk a kvs => a :: adsK kvs
  | .dt a kvs => a :: adsT kvs
def adsL : List M → List Addr
  | [] => []
  | m :: ms => m.ads ++ adsL ms
def adsF : List (Str × M) → List Addr
  | [] => []
  | (_, m) :: ms => m.ads ++ adsF ms
def adsK : List (Key × M) → List Addr
  | [] => []
  | (_, m) :: ms => m.ads ++ adsK ms
def adsT : List (List Key × M) → List Addr
  | [] => []
  | (_, m) :: ms => m.ads ++ adsT ms
end
mutual
/-- a value stands for m: its trees are frozen in G, its own objects stand in H -/
inductive MR (K : PySem.W.Frag) (G H : Hp) : V → M → Prop
  | t {v : V} {t : T} : Rep K G v t → MR K G H v (.t t)
  | lst {a : Addr} {vs : List V} {xs : List M} : H a = some (.lst vs) → MRL K G H vs xs → MR K G H (.ref a) (.lst a xs)
  | ins {a C dx : Addr} {vs : List (Str × V)} {fs : List (Str × M)} : H a = some (.ins C dx vs) → vs.map Prod.fst = fs.map Prod.fst → MRL K G H (vs.map Prod.snd) (fs.map Prod.snd) → MR K G H (.ref a) (.ins a C fs)
  | dk {a : Addr} {vs : List (Key × V)} {fs : List (Key × M)} : H a = some (.dK vs) → vs.map Prod.fst = fs.map Prod.fst → MRL K G H (vs.map Prod.snd) (fs.map Prod.snd) → MR K G H (.ref a) (.dk a fs)
  | dt {a : Addr} {vs : List (List Key × V)} {fs : List (List Key × M)} : H a = some (.dT vs) → vs.map Prod.fst = fs.map Prod.fst → MRL K G H (vs.map Prod.snd) (fs.map Prod.snd) → MR K G H (.ref a) (.dt a fs)
inductive MRL (K : PySem.W.Frag) (G H : Hp) : List V → List M → Prop
  | nil : MRL K G H [] []
  | cons {v : V} {vs : List V} {m : M} {ms : List M} : MR K G H v m → MRL K G H vs ms → MRL K G H (v :: vs) (m :: ms)
end
theorem adsF_snd : ∀ fs : List (Str × M), adsF fs = adsL (fs.map Prod.snd)
  | [] => rfl
  | (_, m) :: fs => by rw [adsF, adsF_snd fs]; rfl
theorem adsK_snd : ∀ fs : List (Key × M), adsK fs = adsL (fs.map Prod.snd)
  | [] => rfl
  | (_, m) :: fs => by rw [adsK, adsK_snd fs]; rfl
theorem adsT_snd : ∀ fs : List (List Key × M), adsT fs = adsL (fs.map Prod.snd)
  | [] => rfl
  | (_, m) :: fs => by rw [adsT, adsT_snd fs]; rfl
mutual
theorem MR.same {K : PySem.W.Frag} {G H G' H' : Hp} (s : Same G G') : ∀ {v : V} {m : M}, MR K G H v m → (∀ a ∈ m.ads, ∀ o, H a = some o → H' a = some o) → MR K G' H' v m
  | _, _, .t r, _ => .t (r.mono s)
  | _, _, .lst e r, k => .lst (k _ (by rw [M.ads]; exact List.mem_cons_self) _ e) (MRL.same s r fun a h => k a (by rw [M.ads]; exact List.mem_cons_of_mem _ h))
  | _, _, .ins e f r, k => .ins (k _ (by rw [M.ads]; exact List.mem_cons_self) _ e) f (MRL.same s r fun a h => k a (by rw [M.ads, adsF_snd]; exact List.mem_cons_of_mem _ h))
  | _, _, .dk e f r, k => .dk (k _ (by rw [M.ads]; exact List.mem_cons_self) _ e) f (MRL.same s r fun a h => k a (by rw [M.ads, adsK_snd]; exact List.mem_cons_of_mem _ h))
  | _, _, .dt e f r, k => .dt (k _ (by rw [M.ads]; exact List.mem_cons_self) _ e) f (MRL.same s r fun a h => k a (by rw [M.ads, adsT_snd]; exact List.mem_cons_of_mem _ h))
theorem MRL.same {K : PySem.W.Frag} {G H G' H' : Hp} (s : Same G G') : ∀ {vs : List V} {ms : List M}, MRL K G H vs ms → (∀ a ∈ adsL ms, ∀ o, H a = some o → H' a = some o) → MRL K G' H' vs ms
  | _, _, .nil, _ => .nil
  | _, _, .cons h r, k => .cons (MR.same s h fun a m => k a (by rw [adsL]; exact List.mem_append_left _ m)) (MRL.same s r fun a m => k a (by rw [adsL]; exact List.mem_append_right _ m))
end
mutual
theorem MR.there {K : PySem.W.Frag} {G H : Hp} : ∀ {v : V} {m : M}, MR K G H v m → ∀ a ∈ m.ads, ∃ o, H a = some o
  | _, _, .t r, a, h => by rw [M.ads] at h; cases h
  | _, _, .lst e r, a, h => by
    rw [M.ads] at h
    rcases List.mem_cons.mp h with rfl | h
    · exact ⟨_, e⟩
    · exact MRL.there r a h
  | _, _, .ins e f r, a, h => by
    rw [M.ads, adsF_snd] at h
    rcases List.mem_cons.mp h with rfl | h
    · exact ⟨_, e⟩
    · exact MRL.there r a h
  | _, _, .dk e f r, a, h => by
    rw [M.ads, adsK_snd] at h
    rcases List.mem_cons.mp h with rfl | h
    · exact ⟨_, e⟩
    · exact MRL.there r a h
  | _, _, .dt e f r, a, h => by
    rw [M.ads, adsT_snd] at h
    rcases List.mem_cons.mp h with rfl | h
    · exact ⟨_, e⟩
    · exact MRL.there r a h
theorem MRL.there {K : PySem.W.Frag} {G H : Hp} : ∀ {vs : List V} {ms : List M}, MRL K G H vs ms → ∀ a ∈ adsL ms, ∃ o, H a = some o
  | _, _, .nil, a, h => by rw [adsL] at h; cases h
  | _, _, .cons h r, a, m => by
    rw [adsL] at m
    rcases List.mem_append.mp m with m | m
    · exact MR.there h a m
    · exact MRL.there r a m
end
/-! ### slots -/
inductive U where
  /-- nothing is said -/
  | no
  /-- nothing is said; a new object that comes here stays changeable -/
  | nm
  /-- a tree -/
  | sh (t : T)
  /-- an object of one's own, that may still change -/
  | mu (a : Addr) (t : T)
  /-- a feed of draws -/
  | fd (a : Addr)
  /-- an object of one's own with objects of one's own within -/
  | dp (a : Addr) (m : M)
def U.ads : U → List Addr
  | .mu a _ => [a]
  | .fd a => [a]
  | .dp _ m => m.ads
  | _ => []
def own (ρ : List U) : List Addr := ρ.flatMap U.ads
def MRep (K : PySem.W.Frag) (G H : Hp) (a : Addr) : T → Prop
  | .lst ts => ∃ vs, H a = some (.lst vs) ∧ RepL K G vs ts
  | .ins C gs => ∃ dx fs, H a = some (.ins C dx fs) ∧ fs.map Prod.fst = gs.map Prod.fst ∧ RepL K G (fs.map Prod.snd) (gs.map Prod.snd)
  | .dk ks => ∃ kvs, H a = some (.dK kvs) ∧ kvs.map Prod.fst = ks.map Prod.fst ∧ RepL K G (kvs.map Prod.snd) (ks.map Prod.snd)
  | .dt ks => ∃ kvs, H a = some (.dT kvs) ∧ kvs.map Prod.fst = ks.map Prod.fst ∧ RepL K G (kvs.map Prod.snd) (ks.map Prod.snd)
  | _ => False
def SlotV (K : PySem.W.Frag) (G : Hp) (x : Option (Option V)) : U → Prop
  | .sh t => ∃ v, x = some (some v) ∧ Rep K G v t
  | .mu a _ => x = some (some (.ref a))
  | .fd a => x = some (some (.ref a))
  | .dp a _ => x = some (some (.ref a))
  | _ => True
def ObjU (K : PySem.W.Frag) (G H : Hp) : U → Prop
  | .mu a t => G a = none ∧ MRep K G H a t
  | .fd a => G a = none ∧ Fd H a
  | .dp a m => m.ads.head? = some a ∧ (∀ b ∈ m.ads, G b = none) ∧ MR K G H (.ref a) m
  | _ => True
structure Out where
  G : Hp
  H : Hp
  own : Addr → Prop
structure Env (K : PySem.W.Frag) (O : Out) (G H : Hp) (σ : List (Option V)) (ρ : List U) : Prop where
  same : Same G H
  gg : Same O.G G
  keep : ∀ b o, O.H b = some o → ¬ O.own b → H b = some o
  dom : ∀ b, O.H b ≠ none → H b ≠ none
  nofrz : ∀ b, O.H b ≠ none → ¬ O.own b → O.G b = none → G b = none
  len : σ.length ≤ ρ.length
  at_ : ∀ (i : Nat) (u : U), ρ[i]? = some u → i < σ.length → SlotV K G σ[i]? u
  ob : ∀ (i : Nat) (u : U), ρ[i]? = some u → ObjU K G H u
  mine : ∀ a, a ∈ own ρ → O.H a = none ∨ O.own a
  nd : (own ρ).Nodup
section
variable {K : PySem.W.Frag} {O : Out} {G H G' H' : Hp} {σ τ : List (Option V)} {ρ ρ' : List U} {i j : Nat} {a b p : Addr} {t : T} {o : HO}
theorem MRep.ex (h : MRep K G H a t) : ∃ o, H a = some o := by
  cases t with
  | lst ts => obtain ⟨vs, e, _⟩ := h; exact ⟨_, e⟩
  | ins C gs => obtain ⟨dx, fs, e, _⟩ := h; exact ⟨_, e⟩
  | dk ks => obtain ⟨kvs, e, _⟩ := h; exact ⟨_, e⟩
  | dt ks => obtain ⟨kvs, e, _⟩ := h; exact ⟨_, e⟩
  | _ => exact h.elim
theorem MRep.same (h : MRep K G H a t) (s : Same G G') (e : ∀ o, H a = some o → H' a = some o) : MRep K G' H' a t := by
  cases t with
  | lst ts => obtain ⟨vs, q, r⟩ := h; exact ⟨vs, e _ q, r.mono s⟩
  | ins C gs => obtain ⟨dx, fs, q, f, r⟩ := h; exact ⟨dx, fs, e _ q, f, r.mono s⟩
  | dk ks => obtain ⟨kvs, q, f, r⟩ := h; exact ⟨kvs, e _ q, f, r.mono s⟩
  | dt ks => obtain ⟨kvs, q, f, r⟩ := h; exact ⟨kvs, e _ q, f, r.mono s⟩
  | _ => exact h.elim
/-- frozen: from now on a tree -/
theorem MRep.frz (h : MRep K G H a t) (n : G a = none) : ∃ o, H a = some o ∧ Rep K (upd G a o) (.ref a) t := by
  cases t with
  | lst ts => obtain ⟨vs, q, r⟩ := h; exact ⟨_, q, .lst upd_same (r.mono (same_new n _))⟩
  | ins C gs => obtain ⟨dx, fs, q, f, r⟩ := h; exact ⟨_, q, .ins upd_same f (r.mono (same_new n _))⟩
  | dk ks => obtain ⟨kvs, q, f, r⟩ := h; exact ⟨_, q, .dk upd_same f (r.mono (same_new n _))⟩
  | dt ks => obtain ⟨kvs, q, f, r⟩ := h; exact ⟨_, q, .dt upd_same f (r.mono (same_new n _))⟩
  | _ => exact h.elim
theorem own_mem {u : U} (h : ρ[i]? = some u) (e : a ∈ u.ads) : a ∈ own ρ := List.mem_flatMap.mpr ⟨u, List.mem_of_getElem? h, e⟩
theorem own_of (h : a ∈ own ρ) : ∃ (i : Nat) (u : U), ρ[i]? = some u ∧ a ∈ u.ads := by
  obtain ⟨u, m, e⟩ := List.mem_flatMap.mp h
  obtain ⟨i, hi⟩ := List.getElem?_of_mem m
  exact ⟨i, u, hi, e⟩
theorem own_app : own (ρ ++ ρ') = own ρ ++ own ρ' := List.flatMap_append
theorem own_cons {x : U} {l : List U} : own (x :: l) = x.ads ++ own l := List.flatMap_cons
theorem own_eq (h : ρ'.map U.ads = ρ.map U.ads) : own ρ' = own ρ := by
  have e : ∀ l : List U, own l = (l.map U.ads).flatten := fun l => by unfold own; rw [List.flatMap_def]
  rw [e, e, h]
theorem ads_mu {a : Addr} {t : T} : a ∈ (U.mu a t).ads := List.mem_singleton.mpr rfl
theorem ads_fd {a : Addr} : a ∈ (U.fd a).ads := List.mem_singleton.mpr rfl
theorem mem_one {a b : Addr} (h : a ∈ [b]) : a = b := List.mem_singleton.mp h
/-- the same address stands at one place only -/
theorem own_uniq {u w : U} (nd : (own ρ).Nodup) (hi : ρ[i]? = some u) (hj : ρ[j]? = some w) (eu : a ∈ u.ads) (ew : a ∈ w.ads) : i = j := by
  induction ρ generalizing i j with
  | nil => simp at hi
  | cons x ρ ih =>
    rw [own_cons] at nd
    obtain ⟨nd1, nd2, nd3⟩ := List.nodup_append.mp nd
    cases i with
    | zero =>
      cases j with
      | zero => rfl
      | succ j =>
        simp at hi hj
        subst hi
        exact absurd rfl (nd3 a eu a (own_mem hj ew))
    | succ i =>
      cases j with
      | zero =>
        simp at hi hj
        subst hj
        exact absurd rfl (nd3 a ew a (own_mem hi eu))
      | succ j =>
        simp at hi hj
        rw [ih nd2 hi hj]
theorem Env.there (E : Env K O G H σ ρ) (h : a ∈ own ρ) : (∃ o, H a = some o) ∧ G a = none := by
  obtain ⟨i, u, hi, e⟩ := own_of h
  have s := E.ob i u hi
  cases u with
  | mu b t =>
    obtain rfl := mem_one e
    exact ⟨s.2.ex, s.1⟩
  | fd b =>
    obtain rfl := mem_one e
    obtain ⟨x, y, z, q⟩ := s.2
    exact ⟨⟨_, q⟩, s.1⟩
  | dp b m => exact ⟨s.2.2.there a e, s.2.1 a e⟩
  | no => cases e
  | nm => cases e
  | sh t => cases e
theorem Env.ne (E : Env K O G H σ ρ) (h : a ∈ own ρ) (n : H b = none) : a ≠ b := by
  obtain ⟨⟨o, e⟩, _⟩ := E.there h
  exact ne_of_none e n
theorem SlotV.mono {x : Option (Option V)} {u : U} (h : SlotV K G x u) (gg : Same G G') : SlotV K G' x u := by
  cases u with
  | sh t => obtain ⟨v, e, r⟩ := h; exact ⟨v, e, r.mono gg⟩
  | mu a t => exact h
  | fd a => exact h
  | dp a m => exact h
  | _ => trivial
theorem ObjU.keep {u : U} (h : ObjU K G H u) (gg : Same G G') (k : ∀ a, a ∈ u.ads → (∀ o, H a = some o → H' a = some o) ∧ G' a = none) : ObjU K G' H' u := by
  cases u with
  | mu a t =>
    obtain ⟨n, m⟩ := h
    obtain ⟨k1, k2⟩ := k a ads_mu
    exact ⟨k2, m.same gg k1⟩
  | fd a =>
    obtain ⟨n, x, y, z, m⟩ := h
    obtain ⟨k1, k2⟩ := k a ads_fd
    exact ⟨k2, x, y, z, k1 _ m⟩
  | dp a m =>
    obtain ⟨hd, n, r⟩ := h
    exact ⟨hd, fun b hb => (k b hb).2, r.same gg fun b hb => (k b hb).1⟩
  | _ => trivial
theorem SlotV.hd {G1 H1 : Hp} {x : Option (Option V)} {u : U} {r : Addr} (o : ObjU K G1 H1 u) (e : u.ads.head? = some r) : SlotV K G x u ↔ x = some (some (.ref r)) := by
  cases u with
  | mu b t =>
    obtain rfl : b = r := Option.some.inj e
    exact Iff.rfl
  | fd b =>
    obtain rfl : b = r := Option.some.inj e
    exact Iff.rfl
  | dp b m =>
    obtain rfl : b = r := Option.some.inj (o.1.symm.trans e)
    exact Iff.rfl
  | no => cases e
  | nm => cases e
  | sh t => cases e
/-- the same addresses, or nothing, are said of each slot -/
theorem SlotV.ad {G1 H1 G2 H2 : Hp} {x : Option (Option V)} {u w : U} (h : SlotV K G x u) (ou : ObjU K G1 H1 u) (ow : ObjU K G2 H2 w) (e : w.ads = u.ads) (hw : w.ads ≠ []) : SlotV K G' x w := by
  cases q : w.ads with
  | nil => exact absurd q hw
  | cons r rs =>
    refine (SlotV.hd ow (r := r) (by rw [q]; rfl)).mpr ((SlotV.hd ou (r := r) (by rw [← e, q]; rfl)).mp h)
/-- objects of as may have changed, all else stands -/
theorem Env.step {as : List Addr} (E : Env K O G H σ ρ) (same : Same G' H') (gg : Same G G') (keep : ∀ b o, H b = some o → b ∉ as → H' b = some o) (dom : ∀ b, H b ≠ none → H' b ≠ none)
    (nofrz : ∀ b, H b ≠ none → b ∉ as → G b = none → G' b = none) (has : ∀ a ∈ as, a ∈ own ρ) (had : ρ'.map U.ads = ρ.map U.ads)
    (hv : ∀ (i : Nat) (u : U), ρ'[i]? = some u → i < σ.length → SlotV K G' σ[i]? u) (hs : ∀ (i : Nat) (u : U), ρ'[i]? = some u → ObjU K G' H' u) : Env K O G' H' σ ρ' := by
  have nas : ∀ b, O.H b ≠ none → ¬ O.own b → b ∉ as := fun b h1 h2 m => (E.mine b (has b m)).elim h1 h2
  refine ⟨same, E.gg.trans gg, fun b o e n => keep b o (E.keep b o e n) (nas b (by rw [e]; simp) n), fun b n => dom b (E.dom b n), fun b n m e => nofrz b (E.dom b n) (nas b n m) (E.nofrz b n m e), ?_, hv, hs, ?_, ?_⟩
  · have := congrArg List.length had
    rw [List.length_map, List.length_map] at this
    rw [this]
    exact E.len
  · rw [own_eq had]
    exact E.mine
  · rw [own_eq had]
    exact E.nd
/-- new things only -/
theorem Env.news (E : Env K O G H σ ρ) (same : Same G' H') (gg : Same G G') (hh : Same H H') (nf : ∀ b, H b ≠ none → G b = none → G' b = none) : Env K O G' H' σ ρ :=
  E.step (as := []) same gg (fun b o e _ => hh b o e) (fun b n e => by
    cases q : H b with
    | none => exact n q
    | some o => rw [hh b o q] at e; cases e) (fun b n _ e => nf b n e) (fun a h => by cases h) rfl (fun i u hi hl => (E.at_ i u hi hl).mono gg) fun i u hi => (E.ob i u hi).keep gg fun a ea => by
      obtain ⟨⟨o, e⟩, n⟩ := E.there (own_mem hi ea)
      exact ⟨fun o' e' => hh _ _ e', nf a (by rw [e]; simp) n⟩
theorem Env.heap (E : Env K O G H σ ρ) (hh : Same H H') : Env K O G H' σ ρ := E.news (E.same.trans hh) (fun _ _ z => z) hh fun _ _ e => e
theorem same_up (s : Same G H) (n : H p = none) : Same (upd G p o) (upd H p o) := fun b u e => by
  by_cases c : b = p
  · subst c
    rw [upd_same] at e ⊢
    exact e
  · rw [upd_ne c] at e ⊢
    exact s b u e
/-- a new object, a tree at once -/
theorem Env.alloc (E : Env K O G H σ ρ) (n : H p = none) (o : HO) : Env K O (upd G p o) (upd H p o) σ ρ ∧ Same G (upd G p o) :=
  have g : G p = none := E.same.free n
  ⟨E.news (same_up E.same n) (same_new g o) (same_new n o) fun b nb e => by
    rw [upd_ne]
    · exact e
    · intro z
      subst z
      exact nb n, same_new g o⟩
/-- a new object that stays one's own -/
theorem Env.pushA {u : U} (E : Env K O G H σ ρ) (hh : Same H H') (n : ∀ b ∈ u.ads, H b = none) (nd : u.ads.Nodup) (m : ObjU K G H' u) : Env K O G H' σ (ρ ++ [u]) := by
  have E1 := E.heap hh
  have no : ∀ b ∈ u.ads, b ∉ own ρ := fun b hb h => E.ne h (n b hb) rfl
  have e1 : own [u] = u.ads := by
    rw [own_cons]
    exact List.append_nil _
  have hl : ∀ {i : Nat} {w : U}, (ρ ++ [u])[i]? = some w → ρ[i]? = some w ∨ (ρ.length ≤ i ∧ w = u) := fun {i w} hi => by
    by_cases c : i < ρ.length
    · rw [List.getElem?_append_left c] at hi
      exact .inl hi
    · rw [List.getElem?_append_right (by omega)] at hi
      cases q : i - ρ.length with
      | zero =>
        rw [q] at hi
        exact .inr ⟨by omega, (Option.some.inj hi).symm⟩
      | succ k =>
        rw [q] at hi
        simp at hi
  refine ⟨E1.same, E1.gg, E1.keep, E1.dom, E1.nofrz, (by rw [List.length_append]; exact Nat.le_trans E.len (Nat.le_add_right _ _)), fun i w hi h => ?_, fun i w hi => ?_, fun a h => ?_, ?_⟩
  · rcases hl hi with hi | ⟨hi, _⟩
    · exact E1.at_ i w hi h
    · have := E.len
      omega
  · rcases hl hi with hi | ⟨_, rfl⟩
    · exact E1.ob i w hi
    · exact m
  · rw [own_app] at h
    rcases List.mem_append.mp h with h | h
    · exact E.mine a h
    · rw [e1] at h
      cases q : O.H a with
      | none => exact .inl rfl
      | some u => exact absurd (n a h) (E.dom a (by rw [q]; simp))
  · rw [own_app, e1]
    exact List.nodup_append.mpr ⟨E.nd, nd, fun x hx y hy e => no y hy (e ▸ hx)⟩
theorem Env.push {u : U} (E : Env K O G H σ ρ) (hh : Same H H') (n : H p = none) (eu : u.ads = [p]) (m : ObjU K G H' u) : Env K O G H' σ (ρ ++ [u]) :=
  E.pushA hh (fun b hb => by rw [eu] at hb; rw [mem_one hb]; exact n) (by rw [eu]; simp) m
theorem set_same {l : List U} {u : U} (h : l[i]? = some u) : l.set i u = l := by
  refine List.ext_getElem? fun k => ?_
  rw [List.getElem?_set]
  split
  · rename_i e
    subst e
    obtain ⟨hl, _⟩ := List.getElem?_eq_some_iff.mp h
    rw [if_pos hl, h]
  · rfl
theorem ad_set {u w : U} (h : ρ[i]? = some u) (e : w.ads = u.ads) : (ρ.set i w).map U.ads = ρ.map U.ads := by
  rw [List.map_set, e, ← List.map_set, set_same h]
theorem get_set {l : List U} {u w x : U} (h : l[i]? = some u) (hk : (l.set i w)[j]? = some x) : (j = i ∧ x = w) ∨ (j ≠ i ∧ l[j]? = some x) := by
  rw [List.getElem?_set] at hk
  split at hk
  · rename_i e
    subst e
    obtain ⟨hl, _⟩ := List.getElem?_eq_some_iff.mp h
    rw [if_pos hl] at hk
    exact .inl ⟨rfl, (Option.some.inj hk).symm⟩
  · rename_i e
    exact .inr ⟨Ne.symm e, hk⟩
theorem get_setL {l : List U} {w x : U} (hk : (l.set i w)[j]? = some x) : (j = i ∧ x = w) ∨ (j ≠ i ∧ l[j]? = some x) := by
  cases h : l[i]? with
  | some u => exact get_set h hk
  | none =>
    rw [List.set_eq_of_length_le (by simpa using h)] at hk
    refine .inr ⟨?_, hk⟩
    intro z
    subst z
    rw [h] at hk
    cases hk
/-- an object of one's own is written -/
theorem Env.write {t' : T} (E : Env K O G H σ ρ) (h : ρ[i]? = some (.mu a t)) (o : HO) (m : MRep K G (upd H a o) a t') : Env K O G (upd H a o) σ (ρ.set i (.mu a t')) := by
  have ha := own_mem h (List.mem_singleton.mpr rfl)
  obtain ⟨⟨o0, e0⟩, n⟩ := E.there ha
  refine E.step (as := [a]) (fun b u e => ?_) (fun _ _ z => z) (fun b u e nb => ?_) (fun b nb => ?_) (fun b _ _ e => e) (fun b hb => by rw [List.mem_singleton.mp hb]; exact ha) (ad_set h rfl) (fun k u hk hl => ?_) fun k u hk => ?_
  · rw [upd_ne (ne_of_none e n)]
    exact E.same b u e
  · rw [upd_ne (fun z => nb (List.mem_singleton.mpr z))]
    exact e
  · by_cases c : b = a
    · subst c
      rw [upd_same]
      simp
    · rw [upd_ne c]
      exact nb
  · rcases get_set h hk with ⟨rfl, rfl⟩ | ⟨nk, hk2⟩
    · have q := E.at_ _ _ h hl
      exact q
    · exact E.at_ k u hk2 hl
  · rcases get_set h hk with ⟨rfl, rfl⟩ | ⟨nk, hk2⟩
    · exact ⟨n, m⟩
    · refine (E.ob k u hk2).keep (fun _ _ z => z) fun b eb => ⟨fun o' e' => ?_, (E.there (own_mem hk2 eb)).2⟩
      rw [upd_ne]
      · exact e'
      · intro z
        subst z
        exact nk (own_uniq E.nd hk2 h eb (List.mem_singleton.mpr rfl))
/-- draws -/
theorem Env.draw (E : Env K O G H σ ρ) (h : ρ[i]? = some (.fd a)) (s : Stp a H H') : Env K O G H' σ ρ := by
  have ha := own_mem h (List.mem_singleton.mpr rfl)
  obtain ⟨⟨o0, e0⟩, n⟩ := E.there ha
  refine E.step (as := [a]) (fun b u e => s.1 b u (ne_of_none e n) (E.same b u e)) (fun _ _ z => z) (fun b u e nb => s.1 b u (fun z => nb (List.mem_singleton.mpr z)) e) (fun b nb => ?_) (fun b _ _ e => e) (fun b hb => by rw [List.mem_singleton.mp hb]; exact ha) rfl (fun k u hk hl => E.at_ k u hk hl) fun k u hk => ?_
  · by_cases c : b = a
    · subst c
      obtain ⟨x, y, z, q⟩ := s.2
      rw [q]
      simp
    · cases q : H b with
      | none => exact absurd q nb
      | some o => rw [s.1 b o c q]; simp
  · by_cases c : k = i
    · subst c
      rw [h] at hk
      cases hk
      exact ⟨n, s.2⟩
    · refine (E.ob k u hk).keep (fun _ _ z => z) fun b eb => ⟨fun o' e' => s.1 b o' ?_ e', (E.there (own_mem hk eb)).2⟩
      intro z
      subst z
      exact c (own_uniq E.nd hk h eb (List.mem_singleton.mpr rfl))
/-- less is said of a slot -/
theorem own_set_none {u w : U} (hw : w.ads = []) (h : a ∈ own (ρ.set i w)) : a ∈ own ρ := by
  obtain ⟨k, x, hk, e⟩ := own_of h
  rcases get_setL hk with ⟨_, rfl⟩ | ⟨_, hk⟩
  · rw [hw] at e
    cases e
  · exact own_mem hk e
theorem nodup_set_none {w : U} (hw : w.ads = []) : ∀ {ρ : List U} {i : Nat}, (own ρ).Nodup → (own (ρ.set i w)).Nodup
  | [], _, h => h
  | x :: ρ, 0, h => by
    show (own (w :: ρ)).Nodup
    rw [own_cons] at h ⊢
    rw [hw]
    exact (List.nodup_append.mp h).2.1
  | x :: ρ, i + 1, h => by
    show (own (x :: ρ.set i w)).Nodup
    rw [own_cons] at h ⊢
    obtain ⟨h1, h2, h3⟩ := List.nodup_append.mp h
    exact List.nodup_append.mpr ⟨h1, nodup_set_none hw h2, fun y hy z hz => h3 y hy z (own_set_none (u := w) hw hz)⟩
theorem Env.less {w : U} (E : Env K O G H σ ρ) (hw : w.ads = []) (hs : i < σ.length → SlotV K G σ[i]? w) (ho : ∀ G H, ObjU K G H w := by intro _ _; trivial) : Env K O G H σ (ρ.set i w) :=
  ⟨E.same, E.gg, E.keep, E.dom, E.nofrz, (by rw [List.length_set]; exact E.len), (fun k u hk hl => by
    rcases get_setL hk with ⟨rfl, rfl⟩ | ⟨_, hk⟩
    · exact hs hl
    · exact E.at_ k u hk hl), (fun k u hk => by
    rcases get_setL hk with ⟨rfl, rfl⟩ | ⟨_, hk⟩
    · exact ho G H
    · exact E.ob k u hk), fun a h => E.mine a (own_set_none (u := w) hw h), nodup_set_none hw E.nd⟩
theorem Env.frz (E : Env K O G H σ ρ) (h : ρ[i]? = some (.mu a t)) : ∃ G', Same G G' ∧ Env K O G' H σ (ρ.set i (.sh t)) ∧ Rep K G' (.ref a) t := by
  obtain ⟨n, m⟩ := E.ob i _ h
  obtain ⟨o, ho, r⟩ := m.frz n
  have ha := own_mem h (List.mem_singleton.mpr rfl)
  have gg := same_new n o
  refine ⟨upd G a o, gg, ⟨fun b u eb => ?_, E.gg.trans gg, E.keep, E.dom, fun b h1 h2 h3 => ?_, (by rw [List.length_set]; exact E.len), fun k u hk hl => ?_, fun k u hk => ?_, fun b hb => E.mine b (own_set_none (u := .sh t) rfl hb), nodup_set_none rfl E.nd⟩, r⟩
  · by_cases c : b = a
    · subst c
      rw [upd_same] at eb
      rw [ho]
      exact eb
    · rw [upd_ne c] at eb
      exact E.same b u eb
  · rw [upd_ne]
    · exact E.nofrz b h1 h2 h3
    · intro z
      subst z
      exact (E.mine b ha).elim h1 h2
  · rcases get_set h hk with ⟨rfl, rfl⟩ | ⟨nk, hk⟩
    · exact ⟨_, E.at_ _ _ h hl, r⟩
    · exact (E.at_ k u hk hl).mono gg
  · rcases get_set h hk with ⟨rfl, rfl⟩ | ⟨nk, hk⟩
    · trivial
    · refine (E.ob k u hk).keep gg fun b eb => ⟨fun _ z => z, ?_⟩
      rw [upd_ne]
      · exact (E.there (own_mem hk eb)).2
      · intro z
        subst z
        exact nk (own_uniq E.nd hk h eb (List.mem_singleton.mpr rfl))
theorem own_sub {l : List U} (h : List.Sublist l ρ) : List.Sublist (own l) (own ρ) := by
  induction h with
  | slnil => exact .slnil
  | cons x _ ih =>
    rw [own_cons]
    exact ih.trans (List.sublist_append_right _ _)
  | cons_cons x _ ih =>
    rw [own_cons, own_cons]
    exact List.Sublist.append_left ih _
/-- fewer temps -/
theorem Env.cut {m : Nat} (E : Env K O G H σ ρ) (hm : σ.length ≤ m) : Env K O G H σ (ρ.take m) :=
  have s : List.Sublist (ρ.take m) ρ := List.take_sublist _ _
  have q : ∀ {k : Nat} {u : U}, (ρ.take m)[k]? = some u → ρ[k]? = some u := fun {k u} hk => by
    rw [List.getElem?_take] at hk
    split at hk
    · exact hk
    · cases hk
  ⟨E.same, E.gg, E.keep, E.dom, E.nofrz, (by
    have := E.len
    rw [List.length_take]
    omega), (fun k u hk hl => E.at_ k u (q hk) hl), (fun k u hk => E.ob k u (q hk)), fun a h => E.mine a ((own_sub s).subset h), (own_sub s).nodup E.nd⟩
theorem Env.ext {ρ' : List U} (E : Env K O G H σ ρ) (e : ρ = ρ') : Env K O G H σ ρ' := e ▸ E
/-- a slot is stored to -/
theorem Env.put {v : V} {w : U} (E : Env K O G H σ ρ) (hw : w.ads = []) (hs : SlotV K G (some (some v)) w) (ho : ∀ G H, ObjU K G H w := by intro _ _; trivial) : Env K O G H (σ.set i (some v)) (ρ.set i w) :=
  ⟨E.same, E.gg, E.keep, E.dom, E.nofrz, (by rw [List.length_set, List.length_set]; exact E.len), (fun k u hk hl => by
    rw [List.length_set] at hl
    rcases get_setL hk with ⟨rfl, rfl⟩ | ⟨nk, hk2⟩
    · rw [List.getElem?_set_self hl]
      exact hs
    · rw [List.getElem?_set_ne (Ne.symm nk)]
      exact E.at_ k u hk2 hl), (fun k u hk => by
    rcases get_setL hk with ⟨rfl, rfl⟩ | ⟨_, hk⟩
    · exact ho G H
    · exact E.ob k u hk), fun a h => E.mine a (own_set_none (u := w) hw h), nodup_set_none hw E.nd⟩
theorem own_move {u : U} (h : ρ[j]? = some u) : ∀ b, b ∈ own ((ρ.set j .no).set i u) → b ∈ own ρ := fun b hb => by
  obtain ⟨k, x, hk, e⟩ := own_of hb
  rcases get_setL hk with ⟨_, rfl⟩ | ⟨_, hk⟩
  · exact own_mem h e
  · rcases get_setL hk with ⟨_, rfl⟩ | ⟨_, hk⟩
    · cases e
    · exact own_mem hk e
theorem own_nd {u : U} (h : (own ρ).Nodup) (hi : ρ[i]? = some u) : u.ads.Nodup := by
  induction ρ generalizing i with
  | nil => simp at hi
  | cons x ρ ih =>
    rw [own_cons] at h
    obtain ⟨h1, h2, _⟩ := List.nodup_append.mp h
    cases i with
    | zero => simp at hi; subst hi; exact h1
    | succ i => exact ih h2 (by simpa using hi)
theorem nodup_of_uniq : ∀ {ρ : List U}, (∀ (i j : Nat) u w b, ρ[i]? = some u → ρ[j]? = some w → b ∈ u.ads → b ∈ w.ads → i = j) → (∀ (i : Nat) u, ρ[i]? = some u → u.ads.Nodup) → (own ρ).Nodup
  | [], _, _ => List.nodup_nil
  | x :: ρ, h, hn => by
    have ih := nodup_of_uniq (ρ := ρ) (fun i j u w b h1 h2 e1 e2 => by
      have := h (i + 1) (j + 1) u w b (by simpa using h1) (by simpa using h2) e1 e2
      omega) fun i u hi => hn (i + 1) u (by simpa using hi)
    rw [own_cons]
    refine List.nodup_append.mpr ⟨hn 0 x rfl, ih, fun y hy z hz e => ?_⟩
    subst e
    obtain ⟨k, u, hk, eu⟩ := own_of hz
    have := h 0 (k + 1) x u y rfl (by simpa using hk) hy eu
    omega
/-- one's own object is moved from the temp j to i -/
theorem Env.move {u : U} (E : Env K O G H σ ρ) (h : ρ[j]? = some u) (eu : u.ads.head? = some a) (hj : σ.length ≤ j) : Env K O G H (σ.set i (some (.ref a))) ((ρ.set j .no).set i u) := by
  have hs : SlotV K G (some (some (.ref a))) u := (SlotV.hd (E.ob _ _ h) eu).mpr rfl
  refine ⟨E.same, E.gg, E.keep, E.dom, E.nofrz, (by rw [List.length_set, List.length_set, List.length_set]; exact E.len), fun k w hk hl => ?_, fun k w hk => ?_, fun b hb => E.mine b (own_move h b hb), nodup_of_uniq (fun k l x y b hk hl ex ey => ?_) fun k x hk => ?_⟩
  · rw [List.length_set] at hl
    rcases get_setL hk with ⟨rfl, rfl⟩ | ⟨nk, hk⟩
    · rw [List.getElem?_set_self hl]
      exact hs
    · rw [List.getElem?_set_ne (Ne.symm nk)]
      rcases get_setL hk with ⟨rfl, rfl⟩ | ⟨_, hk⟩
      · trivial
      · exact E.at_ k w hk hl
  · rcases get_setL hk with ⟨rfl, rfl⟩ | ⟨nk, hk⟩
    · exact E.ob _ _ h
    · rcases get_setL hk with ⟨rfl, rfl⟩ | ⟨_, hk⟩
      · trivial
      · exact E.ob k w hk
  · rcases get_setL hk with ⟨rfl, rfl⟩ | ⟨nk, hk⟩
    · rcases get_setL hl with ⟨rfl, rfl⟩ | ⟨nl, hl⟩
      · rfl
      · rcases get_setL hl with ⟨rfl, rfl⟩ | ⟨nl2, hl⟩
        · cases ey
        · exact absurd (own_uniq E.nd hl h ey ex) nl2
    · rcases get_setL hk with ⟨rfl, rfl⟩ | ⟨nk2, hk2⟩
      · cases ex
      · rcases get_setL hl with ⟨rfl, rfl⟩ | ⟨nl, hl⟩
        · exact absurd (own_uniq E.nd hk2 h ex ey) nk2
        · rcases get_setL hl with ⟨rfl, rfl⟩ | ⟨nl2, hl⟩
          · cases ey
          · exact own_uniq E.nd hk2 hl ex ey
  · rcases get_setL hk with ⟨_, rfl⟩ | ⟨_, hk⟩
    · exact own_nd E.nd h
    · rcases get_setL hk with ⟨_, rfl⟩ | ⟨_, hk⟩
      · exact List.nodup_nil
      · exact own_nd E.nd hk
end
end Tr
namespace Tr
open PySem L2 Vk
/-! ### values behind an expression -/
inductive R where
  | sh (t : T)
  | mr (i : Nat) (a : Addr)
  /-- within the slot i's object, at a path -/
  | mq (i : Nat) (a : Addr) (p : List Nat)
def Val (K : PySem.W.Frag) (G : Hp) (v : V) : R → Prop
  | .sh t => Rep K G v t
  | .mr _ a => v = .ref a
  | .mq _ a _ => v = .ref a
theorem Val.mono {K : PySem.W.Frag} {G G' : Hp} {v : V} {r : R} (h : Val K G v r) (s : Same G G') : Val K G' v r := by
  cases r with
  | sh t => exact Rep.mono s h
  | mr i a => exact h
  | mq i a p => exact h
inductive ValL (K : PySem.W.Frag) (G : Hp) : List V → List R → Prop
  | nil : ValL K G [] []
  | cons {v : V} {vs : List V} {r : R} {rs : List R} : Val K G v r → ValL K G vs rs → ValL K G (v :: vs) (r :: rs)
theorem ValL.mono {K : PySem.W.Frag} {G G' : Hp} (s : Same G G') : ∀ {vs : List V} {rs : List R}, ValL K G vs rs → ValL K G' vs rs
  | _, _, .nil => .nil
  | _, _, .cons h r => .cons (h.mono s) (ValL.mono s r)
/-- an exception that is raised: its class, its fields -/
structure Xc where
  C : Addr
  fs : List (Str × T)
inductive XRep (K : PySem.W.Frag) (G : Hp) : Value → Option Addr → Xc → Prop
  | bare {C : Addr} : XRep K G (.ref C) none ⟨C, []⟩
  | own {C d : Addr} {vs : List (Str × V)} {fs : List (Str × T)} : G d = some (.xd vs) → vs.map Prod.fst = fs.map Prod.fst → RepL K G (vs.map Prod.snd) (fs.map Prod.snd) → XRep K G (.ref C) (some d) ⟨C, fs⟩
/-- where one stands: what is written, how many slots, what is wished of an exception by the layer and what by us -/
structure Jd where
  K : PySem.W.Frag
  n : Nat
  W : WX
  Ψ : Xc → List U → Prop
abbrev XOk (J : Jd) (O : Out) (G : Hp) : Prop := ∀ cls d σ G' H' ρ' x, σ.length = J.n → Env J.K O G' H' σ ρ' → Same G G' → XRep J.K G' cls d x → J.Ψ x ρ' → J.W cls d σ H'
structure Cont (J : Jd) (O : Out) (σ : List (Option V)) (G : Hp) (Φ : R → List U → Prop) (Q : VK) : Prop where
  v : ∀ v r G' H' ρ', Φ r ρ' → Env J.K O G' H' σ ρ' → Val J.K G' v r → Same G G' → Q v H'
  x : XOk J O G
structure ContA (J : Jd) (O : Out) (σ : List (Option V)) (G : Hp) (Φ : List R → List U → Prop) (Q : List V → Hp → Prop) : Prop where
  v : ∀ vs rs G' H' ρ', Φ rs ρ' → Env J.K O G' H' σ ρ' → ValL J.K G' vs rs → Same G G' → Q vs H'
  x : XOk J O G
structure ContT (J : Jd) (O : Out) (σ : List (Option V)) (G : Hp) (Φ : Bool → List U → Prop) (Q : Bool → Hp → Prop) : Prop where
  v : ∀ b G' H' ρ', Φ b ρ' → Env J.K O G' H' σ ρ' → Same G G' → Q b H'
  x : XOk J O G
theorem XOk.on {J : Jd} {O : Out} {G G1 : Hp} (h : XOk J O G) (g : Same G G1) : XOk J O G1 := fun cls d σ G' H' ρ' x hn E g' r q => h cls d σ G' H' ρ' x hn E (g.trans g') r q
def EvE (J : Jd) (te : TE) (ρ : List U) (Φ : R → List U → Prop) : Prop := ∀ O σ G H Q, σ.length = J.n → Env J.K O G H σ ρ → Cont J O σ G Φ Q → te σ H Q
/-- the same, a new object staying one's own -/
def EvM (J : Jd) (te : TE) (ρ : List U) (Φ : R → List U → Prop) : Prop := EvE J te ρ Φ
def EvA (J : Jd) (ta : TA) (ρ : List U) (Φ : List R → List U → Prop) : Prop := ∀ O σ G H Q, σ.length = J.n → Env J.K O G H σ ρ → ContA J O σ G Φ Q → ta σ H Q
def EvT (J : Jd) (tt : TT) (ρ : List U) (Φ : Bool → List U → Prop) : Prop := ∀ O σ G H Q, σ.length = J.n → Env J.K O G H σ ρ → ContT J O σ G Φ Q → tt σ H Q
def Rd1 (J : Jd) (f : V → Hp → VK → Prop) (r : R) (ρ : List U) (Φ : R → List U → Prop) : Prop := ∀ O σ G H Q v, σ.length = J.n → Env J.K O G H σ ρ → Val J.K G v r → Cont J O σ G Φ Q → f v H Q
def Rd2 (J : Jd) (f : R2) (r q : R) (ρ : List U) (Φ : R → List U → Prop) : Prop := ∀ O σ G H Q v w, σ.length = J.n → Env J.K O G H σ ρ → Val J.K G v r → Val J.K G w q → Cont J O σ G Φ Q → f v w H Q
def RdL (J : Jd) (f : List V → Hp → VK → Prop) (rs : List R) (ρ : List U) (Φ : R → List U → Prop) : Prop := ∀ O σ G H Q vs, σ.length = J.n → Env J.K O G H σ ρ → ValL J.K G vs rs → Cont J O σ G Φ Q → f vs H Q
def RdM (J : Jd) (f : V → List V → Hp → VK → Prop) (x : R) (rs : List R) (ρ : List U) (Φ : R → List U → Prop) : Prop := ∀ O σ G H Q v vs, σ.length = J.n → Env J.K O G H σ ρ → Val J.K G v x → ValL J.K G vs rs → Cont J O σ G Φ Q → f v vs H Q
def SpE (J : Jd) (sp : Sp) (rs : List R) (ρ : List U) (Φ : R → List U → Prop) (Ψ : Xc → List U → Prop) : Prop := ∀ O σ G H Q (E : XK) vs, σ.length = J.n → Env J.K O G H σ ρ → ValL J.K G vs rs → Cont J O σ G Φ Q →
  (∀ cls d G' H' ρ' x, Env J.K O G' H' σ ρ' → Same G G' → XRep J.K G' cls d x → Ψ x ρ' → E cls d H') → sp vs H Q E
/-- scalars -/
inductive Lit : V → T → Prop
  | non : Lit .non .non
  | bl {b : Bool} : Lit (.bl b) (.bl b)
  | int {i : Int} : Lit (.int i) (.int i)
  | str {s : Str} : Lit (.str s) (.str s)
theorem Lit.rep {K : PySem.W.Frag} {G : Hp} {v : V} {t : T} (h : Lit v t) : Rep K G v t := by
  cases h with
  | non => exact .non
  | bl => exact .bl _
  | int => exact .int _
  | str => exact .str _
section
variable {J : Jd} {ρ ρ1 ρ2 : List U} {Φ : R → List U → Prop} {te ta tb : TE} {i j : Nat} {t t1 t2 : T} {a : Addr} {x y z : Int}
theorem Cont.here {O : Out} {σ : List (Option V)} {G H : Hp} {Q : VK} {v : V} {r : R} (c : Cont J O σ G Φ Q) (E : Env J.K O G H σ ρ) (h : Φ r ρ) (hv : Val J.K G v r) : Q v H := c.v v r G H ρ h E hv fun _ _ z => z
theorem Cont.on {O : Out} {σ : List (Option V)} {G G1 : Hp} {Q : VK} (c : Cont J O σ G Φ Q) (g : Same G G1) : Cont J O σ G1 Φ Q := ⟨fun v r G' H' ρ' h E hv g' => c.v v r G' H' ρ' h E hv (g.trans g'), c.x.on g⟩
theorem ev_mono {Φ' : R → List U → Prop} (h : EvE J te ρ Φ) (q : ∀ r ρ', Φ r ρ' → Φ' r ρ') : EvE J te ρ Φ' := fun O σ G H Q hn E c => h O σ G H Q hn E ⟨fun v r G' H' ρ' hr E' hv g => c.v v r G' H' ρ' (q r ρ' hr) E' hv g, c.x⟩
theorem ev_var (h : ρ[i]? = some (.sh t)) (hi : i < J.n) (q : Φ (.sh t) ρ) : EvE J (tVar i) ρ Φ := by
  intro O σ G H Q hn E c
  obtain ⟨v, e, r⟩ := E.at_ i _ h (hn ▸ hi)
  exact ⟨v, e, c.here E q r⟩
theorem ev_varm (h : ρ[i]? = some (.mu a t)) (hi : i < J.n) (q : Φ (.mr i a) ρ) : EvE J (tVar i) ρ Φ := fun O σ G H Q hn E c => ⟨_, E.at_ i _ h (hn ▸ hi), c.here E q rfl⟩
theorem ev_varf (h : ρ[i]? = some (.fd a)) (hi : i < J.n) (q : Φ (.mr i a) ρ) : EvE J (tVar i) ρ Φ := fun O σ G H Q hn E c => ⟨_, E.at_ i _ h (hn ▸ hi), c.here E q rfl⟩
theorem ev_c {v : V} (l : Lit v t) (q : Φ (.sh t) ρ) : EvE J (tC v) ρ Φ := fun O σ G H Q hn E c => c.here E q l.rep
theorem ev_op {f : R2} (h : EvE J ta ρ fun x ρ1 => EvE J tb ρ1 fun y ρ2 => Rd2 J f x y ρ2 Φ) : EvE J (tOp f ta tb) ρ Φ := by
  intro O σ G H Q hn E c
  refine h O σ G H _ hn E ⟨fun v r G1 H1 ρ1 h1 E1 r1 g1 => ?_, c.x⟩
  refine h1 O σ G1 H1 _ hn E1 ⟨fun w q G2 H2 ρ2 h2 E2 r2 g2 => ?_, c.x.on g1⟩
  exact h2 O σ G2 H2 Q v w hn E2 (r1.mono g2) r2 ((c.on g1).on g2)
theorem ev_un {f : V → Hp → VK → Prop} (h : EvE J ta ρ fun x ρ1 => Rd1 J f x ρ1 Φ) : EvE J (tUn f ta) ρ Φ := by
  intro O σ G H Q hn E c
  refine h O σ G H _ hn E ⟨fun v r G1 H1 ρ1 h1 E1 r1 g1 => ?_, c.x⟩
  exact h1 O σ G1 H1 Q v hn E1 r1 (c.on g1)
theorem ea_nil {Ψ : List R → List U → Prop} (q : Ψ [] ρ) : EvA J tNil ρ Ψ := fun O σ G H Q hn E c => c.v [] [] G H ρ q E .nil fun _ _ z => z
theorem ea_cons {Ψ : List R → List U → Prop} {tr : TA} (h : EvE J te ρ fun x ρ1 => EvA J tr ρ1 fun xs ρ2 => Ψ (x :: xs) ρ2) : EvA J (tCons te tr) ρ Ψ := by
  intro O σ G H Q hn E c
  refine h O σ G H _ hn E ⟨fun v r G1 H1 ρ1 h1 E1 r1 g1 => ?_, c.x⟩
  refine h1 O σ G1 H1 _ hn E1 ⟨fun vs rs G2 H2 ρ2 h2 E2 r2 g2 => ?_, c.x.on g1⟩
  exact c.v (v :: vs) (r :: rs) G2 H2 ρ2 h2 E2 (.cons (r1.mono g2) r2) (g1.trans g2)
theorem ev_cb {f : List V → Hp → VK → Prop} {tr : TA} (h : EvA J tr ρ fun rs ρ1 => RdL J f rs ρ1 Φ) : EvE J (tCB f tr) ρ Φ := by
  intro O σ G H Q hn E c
  refine h O σ G H _ hn E ⟨fun vs rs G1 H1 ρ1 h1 E1 r1 g1 => ?_, c.x⟩
  exact h1 O σ G1 H1 Q vs hn E1 r1 (c.on g1)
/-- a call: E0 wishes nothing of an exception, so none may come -/
theorem ev_call {sp : Sp} {tr : TA} (h : EvA J tr ρ fun rs ρ1 => SpE J sp rs ρ1 Φ (fun _ _ => False)) : EvE J (tCall sp [] E0 tr) ρ Φ := by
  intro O σ G H Q hn E c
  refine h O σ G H _ hn E ⟨fun vs rs G1 H1 ρ1 h1 E1 r1 g1 => ?_, c.x⟩
  rw [List.append_nil]
  exact h1 O σ G1 H1 Q E0 vs hn E1 r1 (c.on g1) fun _ _ _ _ _ _ _ _ _ z => z.elim
/-- a call within a try, or in a def that raises -/
theorem ev_callS {sp : Sp} {tr : TA} (h : EvA J tr ρ fun rs ρ1 => SpE J sp rs ρ1 Φ J.Ψ) : EvE J (tCallS sp (fun σ cls d H => J.W cls d σ H) tr) ρ Φ := by
  intro O σ G H Q hn E c
  refine h O σ G H _ hn E ⟨fun vs rs G1 H1 ρ1 h1 E1 r1 g1 => ?_, c.x⟩
  exact h1 O σ G1 H1 Q _ vs hn E1 r1 (c.on g1) fun cls d G' H' ρ' x E' g' r q => c.x cls d σ G' H' ρ' x hn E' (g1.trans g') r q
theorem ValL.to {K : PySem.W.Frag} {G : Hp} {vs : List V} {rs : List R} (h : ValL K G vs rs) : Paired (Val K G) vs rs := by
  induction h with
  | nil => exact .nil
  | cons h _ ih => exact .cons h ih
theorem ValL.fro {K : PySem.W.Frag} {G : Hp} {vs : List V} {rs : List R} (h : Paired (Val K G) vs rs) : ValL K G vs rs := by
  induction h with
  | nil => exact .nil
  | cons h _ ih => exact .cons h ih
/-- a call by keywords alone -/
theorem ev_callK {sp : Sp} {tr : TA} {gV : List V → List V → List V} {gR : List R → List R → List R} (hg : ∀ (P : V → R → Prop) vs rs, Paired P vs rs → Paired P (gV [] vs) (gR [] rs)) (h : EvA J tr ρ fun rs ρ1 => SpE J sp (gR [] rs) ρ1 Φ (fun _ _ => False)) : EvE J (tCallK sp gV E0 tNil tr) ρ Φ := by
  intro O σ G H Q hn E c
  refine h O σ G H _ hn E ⟨fun vs rs G1 H1 ρ1 h1 E1 r1 g1 => ?_, c.x⟩
  exact h1 O σ G1 H1 Q E0 (gV [] vs) hn E1 (ValL.fro (hg _ _ _ r1.to)) (c.on g1) fun _ _ _ _ _ _ _ _ _ z => z.elim
/-! ### freezing -/
inductive Fz (n : Nat) : R → List U → T → List U → Prop
  | sh {t : T} {ρ : List U} : Fz n (.sh t) ρ t ρ
  | new {ρ : List U} {a : Addr} {t : T} {k : Nat} (hk : k = ρ.length) (hn : n ≤ k) : Fz n (.mr k a) (ρ ++ [.mu a t]) t ρ
  | mu {i : Nat} {a : Addr} {ρ ρ' : List U} {t : T} (h : ρ[i]? = some (.mu a t)) (e : ρ.set i (.sh t) = ρ') : Fz n (.mr i a) ρ t ρ'
theorem Fz.ok {K : PySem.W.Frag} {n : Nat} {O : Out} {G H : Hp} {σ : List (Option V)} {r : R} {v : V} (f : Fz n r ρ t ρ1) (hn : σ.length = n) (E : Env K O G H σ ρ) (hv : Val K G v r) : ∃ G', Same G G' ∧ Env K O G' H σ ρ1 ∧ Rep K G' v t := by
  cases f with
  | sh => exact ⟨G, fun _ _ z => z, E, hv⟩
  | @new a _ _ hk hle =>
    subst hk
    obtain ⟨G', g, E', r⟩ := E.frz (i := ρ1.length) (by rw [List.getElem?_append_right (Nat.le_refl _), Nat.sub_self]; rfl)
    have E2 := E'.cut (m := ρ1.length) (by omega)
    rw [List.take_set_of_le (Nat.le_refl _), List.take_left] at E2
    cases hv
    exact ⟨G', g, E2, r⟩
  | mu h e =>
    subst e
    obtain ⟨G', g, E', r⟩ := E.frz h
    cases hv
    exact ⟨G', g, E', r⟩
inductive FzL (n : Nat) : List R → List U → List T → List U → Prop
  | nil {ρ : List U} : FzL n [] ρ [] ρ
  | cons {r : R} {rs : List R} {t : T} {ts : List T} {ρ ρ1 ρ2 : List U} : Fz n r ρ t ρ1 → FzL n rs ρ1 ts ρ2 → FzL n (r :: rs) ρ (t :: ts) ρ2
theorem FzL.ok {K : PySem.W.Frag} {n : Nat} {O : Out} {σ : List (Option V)} {H : Hp} : ∀ {rs : List R} {ρ : List U} {ts : List T} {ρ1 : List U} {G : Hp} {vs : List V}, FzL n rs ρ ts ρ1 → σ.length = n → Env K O G H σ ρ → ValL K G vs rs → ∃ G', Same G G' ∧ Env K O G' H σ ρ1 ∧ RepL K G' vs ts
  | _, _, _, _, G, _, .nil, _, E, .nil => ⟨G, fun _ _ z => z, E, .nil⟩
  | _, _, _, _, G, _, .cons f fs, hn, E, .cons h hs => by
    obtain ⟨G1, g1, E1, r1⟩ := f.ok hn E h
    obtain ⟨G2, g2, E2, r2⟩ := FzL.ok fs hn E1 (hs.mono g1)
    exact ⟨G2, g1.trans g2, E2, .cons (r1.mono g2) r2⟩
/-- what is new is frozen at once -/
theorem ev_fz (h : EvM J te ρ fun r ρ' => ∃ t ρ2, Fz J.n r ρ' t ρ2 ∧ Φ (.sh t) ρ2) : EvE J te ρ Φ := by
  intro O σ G H Q hn E c
  refine h O σ G H Q hn E ⟨fun v r G1 H1 ρ1 ⟨t, ρ2, f, q⟩ E1 r1 g1 => ?_, c.x⟩
  obtain ⟨G2, g2, E2, r2⟩ := f.ok hn E1 r1
  exact c.v v (.sh t) G2 H1 ρ2 q E2 r2 (g1.trans g2)
theorem evm_of (h : EvE J te ρ Φ) : EvM J te ρ Φ := h
end
end Tr
namespace Tr
open PySem L2 Vk
/-! ### operators by data, nothing asked of texts -/
def rEqP (K : PySem.W.Frag) : R2 := fun x y H Q => ∃ d e, Dp K H x d ∧ Dp K H y e ∧ d.plain = true ∧ e.plain = true ∧ min d.depth e.depth ≤ 64 ∧ Q (.bl (PyData.eqv d e)) H
def rNeP (K : PySem.W.Frag) : R2 := fun x y H Q => ∃ d e, Dp K H x d ∧ Dp K H y e ∧ d.plain = true ∧ e.plain = true ∧ min d.depth e.depth ≤ 64 ∧ Q (.bl (!PyData.eqv d e)) H
def rInP (K : PySem.W.Frag) : R2 := fun x y H Q => ∃ d ds, Dp K H x d ∧ (Dp K H y (.list ds) ∨ Dp K H y (.tuple ds)) ∧ d.plain = true ∧ PyData.plainAll ds = true ∧ d.depth ≤ 60 ∧ Q (.bl (ds.any fun y => PyData.eqv y d)) H
def rNotInP (K : PySem.W.Frag) : R2 := fun x y H Q => ∃ d ds, Dp K H x d ∧ (Dp K H y (.list ds) ∨ Dp K H y (.tuple ds)) ∧ d.plain = true ∧ PyData.plainAll ds = true ∧ d.depth ≤ 60 ∧ Q (.bl (!ds.any fun y => PyData.eqv y d)) H
section
variable {X : Cx}
theorem op_eqP (hu : X.A.units + 64 < cLine) : OpR X (compareOp .Eq) (rEqP X.K) := by
  intro pins s σ H x y v u Q I rx ry h
  obtain ⟨d, e, hd, he, sd, se, dp, q⟩ := h
  obtain ⟨as, r1⟩ := Dp.reads I d x v hd rx
  obtain ⟨bs, r2⟩ := Dp.reads I e y u he ry
  exact SeqAt.eq_plain r1 r2 sd se (by omega) ⟨.bl _, H, I, rfl, q⟩
theorem op_neP (hu : X.A.units + 64 < cLine) : OpR X (compareOp .NotEq) (rNeP X.K) := by
  intro pins s σ H x y v u Q I rx ry h
  obtain ⟨d, e, hd, he, sd, se, dp, q⟩ := h
  obtain ⟨as, r1⟩ := Dp.reads I d x v hd rx
  obtain ⟨bs, r2⟩ := Dp.reads I e y u he ry
  exact SeqAt.ne_plain r1 r2 sd se (by omega) ⟨.bl _, H, I, rfl, q⟩
theorem op_inP (hu : X.A.units + 64 < cLine) : OpR X (compareOp .In) (rInP X.K) := by
  intro pins s σ H x y v u Q I rx ry h
  obtain ⟨d, ds, hd, he, sd, se, dp, q⟩ := h
  obtain ⟨as, r1⟩ := Dp.reads I d x v hd rx
  have hm : X.A.units + 1 + min (PyData.depthAll ds) d.depth < cLine := by
    have : min (PyData.depthAll ds) d.depth ≤ d.depth := Nat.min_le_right _ _
    omega
  rcases he with he | he
  · obtain ⟨bs, r2⟩ := Dp.reads I (.list ds) y u he ry
    exact SeqAt.in_list_data r2 r1 se sd hm ⟨.bl _, H, I, rfl, q⟩
  · obtain ⟨bs, r2⟩ := Dp.reads I (.tuple ds) y u he ry
    exact SeqAt.in_tuple_data r2 r1 se sd hm ⟨.bl _, H, I, rfl, q⟩
theorem op_notInP (hu : X.A.units + 64 < cLine) : OpR X (compareOp .NotIn) (rNotInP X.K) := by
  intro pins s σ H x y v u Q I rx ry h
  obtain ⟨d, ds, hd, he, sd, se, dp, q⟩ := h
  obtain ⟨as, r1⟩ := Dp.reads I d x v hd rx
  have hm : X.A.units + 1 + min (PyData.depthAll ds) d.depth < cLine := by
    have : min (PyData.depthAll ds) d.depth ≤ d.depth := Nat.min_le_right _ _
    omega
  rcases he with he | he
  · obtain ⟨bs, r2⟩ := Dp.reads I (.list ds) y u he ry
    exact SeqAt.notIn_list_data r2 r1 se sd hm ⟨.bl _, H, I, rfl, q⟩
  · obtain ⟨bs, r2⟩ := Dp.reads I (.tuple ds) y u he ry
    exact SeqAt.notIn_tuple_data r2 r1 se sd hm ⟨.bl _, H, I, rfl, q⟩
end
/-! ### trees as data -/
mutual
def T.pd : T → PyData
  | .non => .none
  | .bl b => .bool b
  | .int i => .int i
  | .str s => .str s
  | .lst ts => .list (pdL ts)
  | .cl ts => .list (pdL ts)
  | .tup ts => .tuple (pdL ts)
  | .obj _ => .dict []
  | .ty _ => .dict []
  | .exn _ _ _ _ => .dict []
  | .ins _ _ => .dict []
  | .dk _ => .dict []
  | .dt _ => .dict []
def pdL : List T → List PyData
  | [] => []
  | t :: ts => t.pd :: pdL ts
end
theorem pdL_map : ∀ ts : List T, pdL ts = ts.map T.pd
  | [] => by simp [pdL]
  | t :: ts => by simp [pdL, pdL_map ts]
section
variable {K : PySem.W.Frag} {G H : Hp}
mutual
theorem Rep.dp (s : Same G H) : ∀ {v : V} {t : T}, Rep K G v t → t.pd.plain = true → Dp K H v t.pd
  | _, _, .non, _ => by simp only [T.pd]; exact .non
  | _, _, .bl b, _ => by simp only [T.pd]; exact .bl b
  | _, _, .int i, _ => by simp only [T.pd]; exact .int i
  | _, _, .str x, _ => by simp only [T.pd]; exact .str x
  | _, _, .lst h r, p => by
    simp only [T.pd] at p ⊢
    exact .lst (SqL.of (s _ _ h)) (RepL.dp s r (by simpa [PyData.plain] using p))
  | _, _, .cl h r, p => by
    simp only [T.pd] at p ⊢
    exact .lst (s.seq h) (RepL.dp s r (by simpa [PyData.plain] using p))
  | _, _, .tup h r, p => by
    simp only [T.pd] at p ⊢
    exact .tup (Vk.Same.tup s h) (RepL.dp s r (by simpa [PyData.plain] using p))
  | _, _, .obj _, p => by simp [T.pd, PyData.plain] at p
  | _, _, .ty _, p => by simp [T.pd, PyData.plain] at p
  | _, _, .exn _ _ _, p => by simp [T.pd, PyData.plain] at p
  | _, _, .ins _ _ _, p => by simp [T.pd, PyData.plain] at p
  | _, _, .dk _ _ _, p => by simp [T.pd, PyData.plain] at p
  | _, _, .dt _ _ _, p => by simp [T.pd, PyData.plain] at p
theorem RepL.dp (s : Same G H) : ∀ {vs : List V} {ts : List T}, RepL K G vs ts → PyData.plainAll (pdL ts) = true → DpAll K H vs (pdL ts)
  | _, _, .nil, _ => by simp only [pdL]; exact .nil
  | _, _, .cons h r, p => by
    simp only [pdL, PyData.plainAll, Bool.and_eq_true] at p ⊢
    exact .cons (Rep.dp s h p.1) (RepL.dp s r p.2)
end
end
/-- == of two trees of data -/
def T.eq (t u : T) : Bool := PyData.eqv t.pd u.pd
def eqL (ts us : List T) : Bool := PyData.eqvAll (pdL ts) (pdL us)
theorem beq_dec {i j : Int} : (i == j) = decide (i = j) := by rw [Bool.eq_iff_iff]; simp
theorem eq_int {i j : Int} : T.eq (.int i) (.int j) = decide (i = j) := by unfold T.eq; simp only [T.pd, PyData.eqv]; exact beq_dec
theorem eq_str {i j : Str} : T.eq (.str i) (.str j) = decide (i = j) := by
  unfold T.eq; simp only [T.pd, PyData.eqv]; rw [Bool.eq_iff_iff]; simp
theorem eq_bl {i j : Bool} : T.eq (.bl i) (.bl j) = (i == j) := by unfold T.eq; simp only [T.pd, PyData.eqv]
theorem eq_tup {a b : List T} : T.eq (.tup a) (.tup b) = eqL a b := by unfold T.eq eqL; simp only [T.pd, PyData.eqv]
theorem eq_lst {a b : List T} : T.eq (.lst a) (.lst b) = eqL a b := by unfold T.eq eqL; simp only [T.pd, PyData.eqv]
theorem eq_lcl {a b : List T} : T.eq (.lst a) (.cl b) = eqL a b := by unfold T.eq eqL; simp only [T.pd, PyData.eqv]
theorem eq_cll {a b : List T} : T.eq (.cl a) (.lst b) = eqL a b := by unfold T.eq eqL; simp only [T.pd, PyData.eqv]
theorem eq_non : T.eq .non .non = true := by unfold T.eq; simp only [T.pd, PyData.eqv]
theorem eqL_nil : eqL [] [] = true := by unfold eqL; simp only [pdL, PyData.eqvAll]
theorem eqL_nc {a : T} {as : List T} : eqL [] (a :: as) = false := by unfold eqL; simp only [pdL, PyData.eqvAll]
theorem eqL_cn {a : T} {as : List T} : eqL (a :: as) [] = false := by unfold eqL; simp only [pdL, PyData.eqvAll]
theorem eqL_cc {a b : T} {as bs : List T} : eqL (a :: as) (b :: bs) = (T.eq a b && eqL as bs) := by unfold eqL T.eq; simp only [pdL, PyData.eqvAll]
theorem eq_refl {t : T} (p : t.pd.plain = true) : T.eq t t = true := SeqAt.eqv_refl_plain _ p
theorem eqL_map {α : Type} {f : α → T} (h : ∀ a b, T.eq (f a) (f b) = true ↔ a = b) : ∀ as bs : List α, eqL (as.map f) (bs.map f) = true ↔ as = bs
  | [], [] => by simp [eqL_nil]
  | [], b :: bs => by simp [eqL_nc]
  | a :: as, [] => by simp [eqL_cn]
  | a :: as, b :: bs => by
    rw [List.map_cons, List.map_cons, eqL_cc, Bool.and_eq_true, h, eqL_map h as bs]
    simp
theorem eqL_ints (as bs : List Int) : eqL (as.map T.int) (bs.map T.int) = true ↔ as = bs := eqL_map (fun a b => by rw [eq_int]; simp) as bs
theorem eqL_strs (as bs : List Str) : eqL (as.map T.str) (bs.map T.str) = true ↔ as = bs := eqL_map (fun a b => by rw [eq_str]; simp) as bs
/-- whole numbers that are not negative -/
def nt (ns : List Nat) : List T := ns.map fun n : Nat => T.int (n : Int)
theorem nt_len (ns : List Nat) : (nt ns).length = ns.length := List.length_map ..
theorem nt_app (a b : List Nat) : nt (a ++ b) = nt a ++ nt b := List.map_append ..
theorem nt_get {ns : List Nat} {i n : Nat} (h : ns[i]? = some n) : (nt ns)[i]? = some (T.int (n : Int)) := by
  unfold nt
  rw [List.getElem?_map, h]
  rfl
theorem nt_set (ns : List Nat) (i n : Nat) : (nt ns).set i (T.int (n : Int)) = nt (ns.set i n) := by
  unfold nt
  exact List.map_set.symm
theorem nt_ints (ns : List Nat) : nt ns = (ns.map fun n : Nat => (n : Int)).map T.int := by
  unfold nt
  rw [List.map_map]
  rfl
theorem eqL_nt (as bs : List Nat) : eqL (nt as) (nt bs) = true ↔ as = bs := eqL_map (fun a b => by rw [eq_int, decide_eq_true_eq]; omega) as bs
theorem RepL.nats {K : PySem.W.Frag} {G : Hp} {vs : List V} {ns : List Nat} (r : RepL K G vs (nt ns)) : vs = ni ns := by
  rw [nt_ints] at r
  rw [r.ints, ni_ints]
/-- plain: no dict, no instance within -/
theorem plain_all {ts : List T} (h : ∀ t ∈ ts, t.pd.plain = true) : PyData.plainAll (pdL ts) = true := by
  induction ts with
  | nil => simp [pdL, PyData.plainAll]
  | cons t ts ih =>
    simp only [pdL, PyData.plainAll, Bool.and_eq_true]
    exact ⟨h t (List.mem_cons_self ..), ih fun u m => h u (List.mem_cons_of_mem _ m)⟩
theorem plain_lst {ts : List T} (h : ∀ t ∈ ts, t.pd.plain = true) : (T.lst ts).pd.plain = true := by
  simp only [T.pd, PyData.plain]
  exact plain_all h
theorem plain_cl {ts : List T} (h : ∀ t ∈ ts, t.pd.plain = true) : (T.cl ts).pd.plain = true := by
  simp only [T.pd, PyData.plain]
  exact plain_all h
theorem plain_tup {ts : List T} (h : ∀ t ∈ ts, t.pd.plain = true) : (T.tup ts).pd.plain = true := by
  simp only [T.pd, PyData.plain]
  exact plain_all h
theorem plain_int {i : Int} : (T.int i).pd.plain = true := by simp only [T.pd, PyData.plain]
theorem plain_str {i : Str} : (T.str i).pd.plain = true := by simp only [T.pd, PyData.plain]
theorem plain_non : (T.non).pd.plain = true := by simp only [T.pd, PyData.plain]
theorem plain_nt {ns : List Nat} : ∀ t ∈ nt ns, t.pd.plain = true := fun t h => by
  obtain ⟨n, _, rfl⟩ := List.mem_map.mp h
  exact plain_int
theorem depth_all {ts : List T} {k : Nat} (h : ∀ t ∈ ts, t.pd.depth ≤ k) : PyData.depthAll (pdL ts) ≤ k := by
  induction ts with
  | nil => simp [pdL, PyData.depthAll]
  | cons t ts ih =>
    simp only [pdL, PyData.depthAll]
    exact Nat.max_le.mpr ⟨h t (List.mem_cons_self ..), ih fun u m => h u (List.mem_cons_of_mem _ m)⟩
theorem depth_lst {ts : List T} {k : Nat} (h : ∀ t ∈ ts, t.pd.depth ≤ k) : (T.lst ts).pd.depth ≤ k + 1 := by
  simp only [T.pd, PyData.depth]
  have := depth_all h
  omega
theorem depth_cl {ts : List T} {k : Nat} (h : ∀ t ∈ ts, t.pd.depth ≤ k) : (T.cl ts).pd.depth ≤ k + 1 := by
  simp only [T.pd, PyData.depth]
  have := depth_all h
  omega
theorem depth_tup {ts : List T} {k : Nat} (h : ∀ t ∈ ts, t.pd.depth ≤ k) : (T.tup ts).pd.depth ≤ k + 1 := by
  simp only [T.pd, PyData.depth]
  have := depth_all h
  omega
theorem depth_int {i : Int} : (T.int i).pd.depth ≤ 1 := by simp [T.pd, PyData.depth]
theorem depth_str {i : Str} : (T.str i).pd.depth ≤ 1 := by simp [T.pd, PyData.depth]
theorem depth_nt {ns : List Nat} : ∀ t ∈ nt ns, t.pd.depth ≤ 1 := fun t h => by
  obtain ⟨n, _, rfl⟩ := List.mem_map.mp h
  exact depth_int
/-- plain and of a depth of at most k -/
def Pl (k : Nat) (t : T) : Prop := t.pd.plain = true ∧ t.pd.depth ≤ k
theorem Pl.mono {k j : Nat} {t : T} (h : Pl k t) (l : k ≤ j) : Pl j t := ⟨h.1, Nat.le_trans h.2 l⟩
theorem pl_int {k : Nat} {i : Int} : Pl (k + 1) (.int i) := ⟨plain_int, Nat.le_trans depth_int (Nat.le_add_left _ _)⟩
theorem pl_str {k : Nat} {i : Str} : Pl (k + 1) (.str i) := ⟨plain_str, Nat.le_trans depth_str (Nat.le_add_left _ _)⟩
theorem pl_bl {k : Nat} {b : Bool} : Pl (k + 1) (.bl b) := ⟨by simp only [T.pd, PyData.plain], by simp [T.pd, PyData.depth]⟩
theorem pl_non {k : Nat} : Pl (k + 1) .non := ⟨plain_non, by simp [T.pd, PyData.depth]⟩
theorem pl_lst {k : Nat} {ts : List T} (h : ∀ t ∈ ts, Pl k t) : Pl (k + 1) (.lst ts) := ⟨plain_lst fun t m => (h t m).1, depth_lst fun t m => (h t m).2⟩
theorem pl_cl {k : Nat} {ts : List T} (h : ∀ t ∈ ts, Pl k t) : Pl (k + 1) (.cl ts) := ⟨plain_cl fun t m => (h t m).1, depth_cl fun t m => (h t m).2⟩
theorem pl_tup {k : Nat} {ts : List T} (h : ∀ t ∈ ts, Pl k t) : Pl (k + 1) (.tup ts) := ⟨plain_tup fun t m => (h t m).1, depth_tup fun t m => (h t m).2⟩
theorem pl_nil {k : Nat} : ∀ t ∈ ([] : List T), Pl k t := fun t h => by cases h
theorem pl_cons {k : Nat} {a : T} {as : List T} (h : Pl k a) (hs : ∀ t ∈ as, Pl k t) : ∀ t ∈ a :: as, Pl k t := fun t m => by
  rcases List.mem_cons.mp m with rfl | m
  · exact h
  · exact hs t m
theorem pl_map {α : Type} {k : Nat} {f : α → T} {as : List α} (h : ∀ a ∈ as, Pl k (f a)) : ∀ t ∈ as.map f, Pl k t := fun t m => by
  obtain ⟨a, ha, rfl⟩ := List.mem_map.mp m
  exact h a ha
theorem pl_nt {k : Nat} {ns : List Nat} : ∀ t ∈ nt ns, Pl (k + 1) t := pl_map fun _ _ => pl_int
end Tr
namespace Tr
open PySem L2 Vk
section
variable {K : PySem.W.Frag} {J : Jd} {ρ ρ1 ρ2 : List U} {Φ : R → List U → Prop} {te ta tb : TE} {i j : Nat} {t t1 t2 u : T} {ts us : List T} {a : Addr} {x y z : Int}
/-! ### two-place operators -/
theorem rd_ii {f : Int → Int → Int} (q : Φ (.sh (.int (f x y))) ρ) : Rd2 J (rI0 fun i j => .int (f i j)) (.sh (.int x)) (.sh (.int y)) ρ Φ := by
  intro O σ G H Q v w hn E hv hw c
  cases hv
  cases hw
  exact ⟨x, y, rfl, rfl, c.here E q (.int _)⟩
theorem rd_ib {f : Int → Int → Bool} (q : Φ (.sh (.bl (f x y))) ρ) : Rd2 J (rI0 fun i j => .bl (f i j)) (.sh (.int x)) (.sh (.int y)) ρ Φ := by
  intro O σ G H Q v w hn E hv hw c
  cases hv
  cases hw
  exact ⟨x, y, rfl, rfl, c.here E q (.bl _)⟩
theorem rd_ic {C : Int → Int → Prop} {f : Int → Int → Int} (hc : C x y) (q : Φ (.sh (.int (f x y))) ρ) : Rd2 J (rI C fun i j => .int (f i j)) (.sh (.int x)) (.sh (.int y)) ρ Φ := by
  intro O σ G H Q v w hn E hv hw c
  cases hv
  cases hw
  exact ⟨x, y, rfl, rfl, hc, c.here E q (.int _)⟩
theorem rd_eqi (q : Φ (.sh (.bl (decide (x = y)))) ρ) : Rd2 J rEq (.sh (.int x)) (.sh (.int y)) ρ Φ := by
  intro O σ G H Q v w hn E hv hw c
  cases hv
  cases hw
  refine ⟨rfl, ?_⟩
  rw [dec_int, beq_dec]
  exact c.here E q (.bl _)
theorem rd_nei (q : Φ (.sh (.bl (!decide (x = y)))) ρ) : Rd2 J rNe (.sh (.int x)) (.sh (.int y)) ρ Φ := by
  intro O σ G H Q v w hn E hv hw c
  cases hv
  cases hw
  refine ⟨rfl, ?_⟩
  rw [dec_int, beq_dec]
  exact c.here E q (.bl _)
theorem rd_eqs {x y : Str} (q : Φ (.sh (.bl (decide (x = y)))) ρ) : Rd2 J rEq (.sh (.str x)) (.sh (.str y)) ρ Φ := by
  intro O σ G H Q v w hn E hv hw c
  cases hv
  cases hw
  refine ⟨rfl, ?_⟩
  rw [show decide (V.str x = V.str y) = decide (x = y) by rw [Bool.eq_iff_iff]; simp]
  exact c.here E q (.bl _)
theorem rd_nes {x y : Str} (q : Φ (.sh (.bl (!decide (x = y)))) ρ) : Rd2 J rNe (.sh (.str x)) (.sh (.str y)) ρ Φ := by
  intro O σ G H Q v w hn E hv hw c
  cases hv
  cases hw
  refine ⟨rfl, ?_⟩
  rw [show decide (V.str x = V.str y) = decide (x = y) by rw [Bool.eq_iff_iff]; simp]
  exact c.here E q (.bl _)
theorem rd_eqP (h1 : Pl 60 t) (h2 : Pl 60 u) (q : Φ (.sh (.bl (T.eq t u))) ρ) : Rd2 J (rEqP J.K) (.sh t) (.sh u) ρ Φ := by
  intro O σ G H Q v w hn E hv hw c
  exact ⟨t.pd, u.pd, Rep.dp E.same hv h1.1, Rep.dp E.same hw h2.1, h1.1, h2.1, Nat.le_trans (Nat.min_le_left _ _) (Nat.le_trans h1.2 (by decide)), c.here E q (.bl _)⟩
theorem rd_neP (h1 : Pl 60 t) (h2 : Pl 60 u) (q : Φ (.sh (.bl (!T.eq t u))) ρ) : Rd2 J (rNeP J.K) (.sh t) (.sh u) ρ Φ := by
  intro O σ G H Q v w hn E hv hw c
  exact ⟨t.pd, u.pd, Rep.dp E.same hv h1.1, Rep.dp E.same hw h2.1, h1.1, h2.1, Nat.le_trans (Nat.min_le_left _ _) (Nat.le_trans h1.2 (by decide)), c.here E q (.bl _)⟩
/-- a row of trees: a list, a tuple -/
def T.row : T → Option (List T)
  | .lst ts => some ts
  | .cl ts => some ts
  | .tup ts => some ts
  | _ => none
theorem Rep.row {G : Hp} {v : V} (h : Rep K G v t) (e : t.row = some ts) : ∃ a vs, v = .ref a ∧ Sq K G a vs ∧ RepL K G vs ts := by
  cases h with
  | lst h r => cases e; exact ⟨_, _, rfl, .inl (SqL.of h), r⟩
  | cl h r => cases e; exact ⟨_, _, rfl, .inl h, r⟩
  | tup h r => cases e; exact ⟨_, _, rfl, .inr h, r⟩
  | _ => cases e
theorem any_eq {us : List T} : ((pdL us).any fun y => PyData.eqv y t.pd) = us.any fun y => T.eq y t := by
  rw [pdL_map, List.any_map]
  rfl
theorem rd_inP (hr : u.row = some us) (h1 : Pl 60 t) (h2 : ∀ t ∈ us, Pl 60 t) (q : Φ (.sh (.bl (us.any fun y => T.eq y t))) ρ) : Rd2 J (rInP J.K) (.sh t) (.sh u) ρ Φ := by
  intro O σ G H Q v w hn E hv hw c
  have hp : PyData.plainAll (pdL us) = true := plain_all fun t m => (h2 t m).1
  refine ⟨t.pd, pdL us, Rep.dp E.same hv h1.1, ?_, h1.1, hp, h1.2, ?_⟩
  · obtain ⟨a, vs, rfl, hs, r⟩ := Rep.row hw hr
    have r2 := RepL.dp E.same r hp
    rcases hs with hs | hs
    · exact .inl (.lst (E.same.seq hs) r2)
    · exact .inr (.tup (Vk.Same.tup E.same hs) r2)
  · rw [any_eq]
    exact c.here E q (.bl _)
theorem rd_notInP (hr : u.row = some us) (h1 : Pl 60 t) (h2 : ∀ t ∈ us, Pl 60 t) (q : Φ (.sh (.bl (!us.any fun y => T.eq y t))) ρ) : Rd2 J (rNotInP J.K) (.sh t) (.sh u) ρ Φ := by
  intro O σ G H Q v w hn E hv hw c
  have hp : PyData.plainAll (pdL us) = true := plain_all fun t m => (h2 t m).1
  refine ⟨t.pd, pdL us, Rep.dp E.same hv h1.1, ?_, h1.1, hp, h1.2, ?_⟩
  · obtain ⟨a, vs, rfl, hs, r⟩ := Rep.row hw hr
    have r2 := RepL.dp E.same r hp
    rcases hs with hs | hs
    · exact .inl (.lst (E.same.seq hs) r2)
    · exact .inr (.tup (Vk.Same.tup E.same hs) r2)
  · rw [any_eq]
    exact c.here E q (.bl _)
/-! ### one of a row -/
theorem RepL.atI {G : Hp} {vs : List V} (r : RepL K G vs ts) (h : atI ts z = some t) : ∃ v, L2.atI vs z = some v ∧ Rep K G v t := by
  unfold L2.atI at h ⊢
  rw [r.len]
  cases e : ixN ts.length z with
  | none => rw [e] at h; cases h
  | some j =>
    rw [e] at h
    exact r.get h
theorem rd_ix (hr : u.row = some ts) (h : atI ts z = some t) (q : Φ (.sh t) ρ) : Rd2 J (rIx J.K) (.sh u) (.sh (.int z)) ρ Φ := by
  intro O σ G H Q v w hn E hv hw c
  cases hw
  obtain ⟨a, vs, rfl, hs, r⟩ := Rep.row hv hr
  obtain ⟨v, e, rv⟩ := RepL.atI r h
  have k := c.here E q rv
  rcases hs with hs | hs
  · exact .inl ⟨a, vs, z, v, rfl, rfl, E.same.seq hs, e, k⟩
  · exact .inr (.inl ⟨a, vs, z, v, rfl, rfl, Vk.Same.tup E.same hs, e, k⟩)
theorem rd_ixm (hr : ρ[i]? = some (.mu a (.lst ts))) (h : atI ts z = some t) (q : Φ (.sh t) ρ) : Rd2 J (rIx J.K) (.mr i a) (.sh (.int z)) ρ Φ := by
  intro O σ G H Q v w hn E hv hw c
  cases hw
  cases hv
  obtain ⟨_, vs, e1, r⟩ := E.ob i _ hr
  obtain ⟨v, e, rv⟩ := RepL.atI r h
  exact .inl ⟨a, vs, z, v, rfl, rfl, SqL.of e1, e, c.here E q rv⟩
theorem atI_lt {α : Type} {xs : List α} {k : Nat} {x : α} (h : xs[k]? = some x) : atI xs (k : Int) = some x := atI_nat h
theorem atI_eq {α : Type} {xs : List α} {k : Nat} {z : Int} {x : α} (e : z = (k : Int)) (h : xs[k]? = some x) : atI xs z = some x := e ▸ atI_nat h
/-! ### built-ins -/
theorem rl_len (hr : u.row = some ts) (q : Φ (.sh (.int ts.length)) ρ) : RdL J (rLenS J.K) [.sh u] ρ Φ := by
  intro O σ G H Q vs hn E hv c
  cases hv with
  | cons h h0 =>
    cases h0
    obtain ⟨a, vs, rfl, hs, r⟩ := Rep.row h hr
    refine ⟨a, vs, rfl, hs.elim (fun h => .inl (E.same.seq h)) (fun h => .inr (Vk.Same.tup E.same h)), ?_⟩
    rw [r.len]
    exact c.here E q (.int _)
theorem rl_lenm (hr : ρ[i]? = some (.mu a (.lst ts))) (q : Φ (.sh (.int ts.length)) ρ) : RdL J (rLenS J.K) [.mr i a] ρ Φ := by
  intro O σ G H Q vs hn E hv c
  cases hv with
  | cons h h0 =>
    cases h0
    cases h
    obtain ⟨_, vs, e1, r⟩ := E.ob i _ hr
    refine ⟨a, vs, rfl, .inl (SqL.of e1), ?_⟩
    rw [r.len]
    exact c.here E q (.int _)
/-- a new object behind an operation -/
theorem Cont.fresh {O : Out} {σ : List (Option V)} {G H : Hp} {Q : VK} {p : Addr} {vs : List V} (c : Cont J O σ G Φ Q) (hn : σ.length = J.n) (E : Env J.K O G H σ ρ) (np : H p = none) (r : RepL J.K G vs ts)
    (q : ∀ p, Φ (.mr ρ.length p) (ρ ++ [.mu p (.lst ts)])) : Q (.ref p) (upd H p (.lst vs)) :=
  c.v _ _ G _ _ (q p) (E.push (same_new np _) np rfl ⟨E.same.free np, vs, upd_same, r⟩) rfl fun _ _ z => z
theorem Cont.tup {O : Out} {σ : List (Option V)} {G H : Hp} {Q : VK} {p : Addr} {vs : List V} (c : Cont J O σ G Φ Q) (E : Env J.K O G H σ ρ) (np : H p = none) (r : RepL J.K G vs ts)
    (q : Φ (.sh (.tup ts)) ρ) : Q (.ref p) (upd H p (.tup vs)) := by
  obtain ⟨E2, g⟩ := E.alloc np (.tup vs)
  exact c.v _ (.sh (.tup ts)) _ _ _ q E2 (.tup (SqT.of upd_same) (r.mono g)) g
theorem Cont.lst {O : Out} {σ : List (Option V)} {G H : Hp} {Q : VK} {p : Addr} {vs : List V} (c : Cont J O σ G Φ Q) (E : Env J.K O G H σ ρ) (np : H p = none) (r : RepL J.K G vs ts)
    (q : Φ (.sh (.lst ts)) ρ) : Q (.ref p) (upd H p (.lst vs)) := by
  obtain ⟨E2, g⟩ := E.alloc np (.lst vs)
  exact c.v _ (.sh (.lst ts)) _ _ _ q E2 (.lst upd_same (r.mono g)) g
theorem rl_list (hr : u.row = some ts) (q : Φ (.sh (.lst ts)) ρ) : RdL J (rListOf J.K) [.sh u] ρ Φ := by
  intro O σ G H Q vs hn E hv c
  cases hv with
  | cons h h0 =>
    cases h0
    obtain ⟨a, vs, rfl, hs, r⟩ := Rep.row h hr
    exact ⟨a, vs, rfl, hs.elim (fun h => .inl (E.same.seq h)) (fun h => .inr (Vk.Same.tup E.same h)), fun l nl => c.lst E nl r q⟩
theorem rl_listN (hr : u.row = some ts) (q : ∀ p, Φ (.mr ρ.length p) (ρ ++ [.mu p (.lst ts)])) : RdL J (rListOf J.K) [.sh u] ρ Φ := by
  intro O σ G H Q vs hn E hv c
  cases hv with
  | cons h h0 =>
    cases h0
    obtain ⟨a, vs, rfl, hs, r⟩ := Rep.row h hr
    exact ⟨a, vs, rfl, hs.elim (fun h => .inl (E.same.seq h)) (fun h => .inr (Vk.Same.tup E.same h)), fun l nl => c.fresh hn E nl r q⟩
theorem rl_listm (hr : ρ[i]? = some (.mu a (.lst ts))) (q : Φ (.sh (.lst ts)) ρ) : RdL J (rListOf J.K) [.mr i a] ρ Φ := by
  intro O σ G H Q vs hn E hv c
  cases hv with
  | cons h h0 =>
    cases h0
    cases h
    obtain ⟨_, vs, e1, r⟩ := E.ob i _ hr
    exact ⟨a, vs, rfl, .inl (SqL.of e1), fun l nl => c.lst E nl r q⟩
theorem rl_listmN (hr : ρ[i]? = some (.mu a (.lst ts))) (q : ∀ p, Φ (.mr ρ.length p) (ρ ++ [.mu p (.lst ts)])) : RdL J (rListOf J.K) [.mr i a] ρ Φ := by
  intro O σ G H Q vs hn E hv c
  cases hv with
  | cons h h0 =>
    cases h0
    cases h
    obtain ⟨_, vs, e1, r⟩ := E.ob i _ hr
    exact ⟨a, vs, rfl, .inl (SqL.of e1), fun l nl => c.fresh hn E nl r q⟩
theorem rl_tup (hr : u.row = some ts) (q : Φ (.sh (.tup ts)) ρ) : RdL J (rTupOf J.K) [.sh u] ρ Φ := by
  intro O σ G H Q vs hn E hv c
  cases hv with
  | cons h h0 =>
    cases h0
    obtain ⟨a, vs, rfl, hs, r⟩ := Rep.row h hr
    rcases hs with hs | hs
    · exact ⟨a, vs, rfl, .inl ⟨E.same.seq hs, fun l nl => c.tup E nl r q⟩⟩
    · exact ⟨a, vs, rfl, .inr ⟨Vk.Same.tup E.same hs, c.here E q (.tup hs r)⟩⟩
theorem rl_tupm (hr : ρ[i]? = some (.mu a (.lst ts))) (q : Φ (.sh (.tup ts)) ρ) : RdL J (rTupOf J.K) [.mr i a] ρ Φ := by
  intro O σ G H Q vs hn E hv c
  cases hv with
  | cons h h0 =>
    cases h0
    cases h
    obtain ⟨_, vs, e1, r⟩ := E.ob i _ hr
    exact ⟨a, vs, rfl, .inl ⟨SqL.of e1, fun l nl => c.tup E nl r q⟩⟩
/-- a list of whole numbers -/
theorem Rep.lints {G : Hp} {v : V} {ns : List Int} (h : Rep K G v t) (e : t = .lst (ns.map T.int) ∨ t = .cl (ns.map T.int)) : ∃ a, v = .ref a ∧ SqL K G a (ns.map V.int) := by
  rcases e with rfl | rfl
  · cases h with
    | lst h r => rw [r.ints] at h; exact ⟨_, rfl, SqL.of h⟩
  · cases h with
    | cl h r => rw [r.ints] at h; exact ⟨_, rfl, h⟩
theorem rl_sum {ns : List Int} (e : ts = ns.map T.int) (q : Φ (.sh (.int ns.sum)) ρ) : RdL J (rSum J.K) [.sh (.lst ts)] ρ Φ := by
  intro O σ G H Q vs hn E hv c
  cases hv with
  | cons h h0 =>
    cases h0
    obtain ⟨a, rfl, hs⟩ := h.lints (.inl (by rw [e]))
    exact ⟨a, ns, rfl, E.same.seq hs, c.here E q (.int _)⟩
theorem rl_max {ns : List Int} (e : ts = ns.map T.int) (h0 : 0 < ns.length) (q : ∀ m, m ∈ ns → (∀ y, y ∈ ns → y ≤ m) → Φ (.sh (.int m)) ρ) : RdL J (rMax J.K) [.sh (.lst ts)] ρ Φ := by
  intro O σ G H Q vs hn E hv c
  cases hv with
  | cons h h1 =>
    cases h1
    obtain ⟨a, rfl, hs⟩ := h.lints (.inl (by rw [e]))
    exact ⟨a, ns, rfl, E.same.seq hs, h0, fun m h1 h2 => c.here E (q m h1 h2) (.int _)⟩
theorem rl_min {ns : List Int} (e : ts = ns.map T.int) (h0 : 0 < ns.length) (q : ∀ m, m ∈ ns → (∀ y, y ∈ ns → m ≤ y) → Φ (.sh (.int m)) ρ) : RdL J (rMin J.K) [.sh (.lst ts)] ρ Φ := by
  intro O σ G H Q vs hn E hv c
  cases hv with
  | cons h h1 =>
    cases h1
    obtain ⟨a, rfl, hs⟩ := h.lints (.inl (by rw [e]))
    exact ⟨a, ns, rfl, E.same.seq hs, h0, fun m h1 h2 => c.here E (q m h1 h2) (.int _)⟩
theorem Rep.lbls {G : Hp} {v : V} {bs : List Bool} (h : Rep K G v (.lst (bs.map T.bl))) : ∃ a, v = .ref a ∧ SqL K G a (bs.map V.bl) := by
  cases h with
  | lst h r => rw [r.bls] at h; exact ⟨_, rfl, SqL.of h⟩
theorem rl_all {bs : List Bool} (e : ts = bs.map T.bl) (q : Φ (.sh (.bl (bs.all id))) ρ) : RdL J (rAll J.K) [.sh (.lst ts)] ρ Φ := by
  intro O σ G H Q vs hn E hv c
  cases hv with
  | cons h h1 =>
    cases h1
    rw [e] at h
    obtain ⟨a, rfl, hs⟩ := h.lbls
    exact ⟨a, bs, rfl, E.same.seq hs, c.here E q (.bl _)⟩
theorem rl_any {bs : List Bool} (e : ts = bs.map T.bl) (q : Φ (.sh (.bl (bs.any id))) ρ) : RdL J (rAny J.K) [.sh (.lst ts)] ρ Φ := by
  intro O σ G H Q vs hn E hv c
  cases hv with
  | cons h h1 =>
    cases h1
    rw [e] at h
    obtain ⟨a, rfl, hs⟩ := h.lbls
    exact ⟨a, bs, rfl, E.same.seq hs, c.here E q (.bl _)⟩
theorem rl_int (q : Φ (.sh (.int x)) ρ) : RdL J (fun xs H Q => (∃ i, xs = [.int i] ∧ Q (.int i) H) ∨ ∃ k, xs = [.bl k] ∧ Q (.int (if k then 1 else 0)) H) [.sh (.int x)] ρ Φ := by
  intro O σ G H Q vs hn E hv c
  cases hv with
  | cons h h1 =>
    cases h1
    cases h
    exact .inl ⟨x, rfl, c.here E q (.int _)⟩
theorem rl_intb {b : Bool} (q : Φ (.sh (.int (if b then 1 else 0))) ρ) : RdL J (fun xs H Q => (∃ i, xs = [.int i] ∧ Q (.int i) H) ∨ ∃ k, xs = [.bl k] ∧ Q (.int (if k then 1 else 0)) H) [.sh (.bl b)] ρ Φ := by
  intro O σ G H Q vs hn E hv c
  cases hv with
  | cons h h1 =>
    cases h1
    cases h
    exact .inr ⟨b, rfl, c.here E q (.int _)⟩
theorem rl_max2 (q : Φ (.sh (.int (if y > x then y else x))) ρ) : RdL J (fun xs H Q => ∃ i j, xs = [.int i, .int j] ∧ Q (.int (if j > i then j else i)) H) [.sh (.int x), .sh (.int y)] ρ Φ := by
  intro O σ G H Q vs hn E hv c
  cases hv with
  | cons h h1 =>
    cases h1 with
    | cons h' h2 =>
      cases h2
      cases h
      cases h'
      exact ⟨x, y, rfl, c.here E q (.int _)⟩
theorem rl_min2 (q : Φ (.sh (.int (if y < x then y else x))) ρ) : RdL J (fun xs H Q => ∃ i j, xs = [.int i, .int j] ∧ Q (.int (if j < i then j else i)) H) [.sh (.int x), .sh (.int y)] ρ Φ := by
  intro O σ G H Q vs hn E hv c
  cases hv with
  | cons h h1 =>
    cases h1 with
    | cons h' h2 =>
      cases h2
      cases h
      cases h'
      exact ⟨x, y, rfl, c.here E q (.int _)⟩
/-! ### displays -/
theorem ev_tup {tr : TA} (h : EvA J tr ρ fun rs ρ1 => ∃ ts ρ2, FzL J.n rs ρ1 ts ρ2 ∧ ts.length ≤ 1000 ∧ Φ (.sh (.tup ts)) ρ2) : EvE J (tTup tr) ρ Φ := by
  intro O σ G H Q hn E c
  refine h O σ G H _ hn E ⟨fun vs rs G1 H1 ρ1 ⟨ts, ρ2, f, hl, q⟩ E1 r1 g1 => ?_, c.x⟩
  obtain ⟨G2, g2, E2, r2⟩ := f.ok hn E1 r1
  refine ⟨by rw [r2.len]; exact Nat.le_of_lt (small1000 hl), fun p np => ?_⟩
  exact (c.on (g1.trans g2)).tup E2 np r2 q
theorem ev_lst {tr : TA} (h : EvA J tr ρ fun rs ρ1 => ∃ ts ρ2, FzL J.n rs ρ1 ts ρ2 ∧ ts.length ≤ 1000 ∧ Φ (.sh (.lst ts)) ρ2) : EvE J (tLst tr) ρ Φ := by
  intro O σ G H Q hn E c
  refine h O σ G H _ hn E ⟨fun vs rs G1 H1 ρ1 ⟨ts, ρ2, f, hl, q⟩ E1 r1 g1 => ?_, c.x⟩
  obtain ⟨G2, g2, E2, r2⟩ := f.ok hn E1 r1
  refine ⟨by rw [r2.len]; exact Nat.le_of_lt (small1000 hl), fun p np => ?_⟩
  exact (c.on (g1.trans g2)).lst E2 np r2 q
theorem evm_lst {tr : TA} (h : EvA J tr ρ fun rs ρ1 => ∃ ts ρ2, FzL J.n rs ρ1 ts ρ2 ∧ ts.length ≤ 1000 ∧ ∀ p, Φ (.mr ρ2.length p) (ρ2 ++ [.mu p (.lst ts)])) : EvM J (tLst tr) ρ Φ := by
  intro O σ G H Q hn E c
  refine h O σ G H _ hn E ⟨fun vs rs G1 H1 ρ1 ⟨ts, ρ2, f, hl, q⟩ E1 r1 g1 => ?_, c.x⟩
  obtain ⟨G2, g2, E2, r2⟩ := f.ok hn E1 r1
  refine ⟨by rw [r2.len]; exact Nat.le_of_lt (small1000 hl), fun p np => ?_⟩
  exact (c.on (g1.trans g2)).fresh hn E2 np r2 q
/-! ### bools -/
theorem ev_and (h : EvE J ta ρ fun r ρ1 => ∃ b, r = .sh (.bl b) ∧ (b = true → EvE J tb ρ1 Φ) ∧ (b = false → Φ (.sh (.bl false)) ρ1)) : EvE J (tAndV ta tb) ρ Φ := by
  intro O σ G H Q hn E c
  refine h O σ G H _ hn E ⟨fun v r G1 H1 ρ1 ⟨b, e, h1, h2⟩ E1 r1 g1 => ?_, c.x⟩
  subst e
  cases r1
  refine ⟨b, rfl, ?_⟩
  cases b with
  | true => exact h1 rfl O σ G1 H1 Q hn E1 (c.on g1)
  | false => exact (c.on g1).here E1 (h2 rfl) (.bl _)
theorem ev_or (h : EvE J ta ρ fun r ρ1 => ∃ b, r = .sh (.bl b) ∧ (b = true → Φ (.sh (.bl true)) ρ1) ∧ (b = false → EvE J tb ρ1 Φ)) : EvE J (tOrV ta tb) ρ Φ := by
  intro O σ G H Q hn E c
  refine h O σ G H _ hn E ⟨fun v r G1 H1 ρ1 ⟨b, e, h1, h2⟩ E1 r1 g1 => ?_, c.x⟩
  subst e
  cases r1
  refine ⟨b, rfl, ?_⟩
  cases b with
  | false => exact h2 rfl O σ G1 H1 Q hn E1 (c.on g1)
  | true => exact (c.on g1).here E1 (h1 rfl) (.bl _)
theorem ev_not (h : EvE J ta ρ fun r ρ1 => ∃ b, r = .sh (.bl b) ∧ Φ (.sh (.bl (!b))) ρ1) : EvE J (tNotV ta) ρ Φ := by
  intro O σ G H Q hn E c
  refine h O σ G H _ hn E ⟨fun v r G1 H1 ρ1 ⟨b, e, q⟩ E1 r1 g1 => ?_, c.x⟩
  subst e
  cases r1
  exact ⟨b, rfl, (c.on g1).here E1 q (.bl _)⟩
theorem ev_if {tt : TT} (h : EvT J tt ρ fun b ρ1 => (b = true → EvE J ta ρ1 Φ) ∧ (b = false → EvE J tb ρ1 Φ)) : EvE J (tIf tt ta tb) ρ Φ := by
  intro O σ G H Q hn E c
  refine h O σ G H _ hn E ⟨fun b G1 H1 ρ1 ⟨h1, h2⟩ E1 g1 => ?_, c.x⟩
  cases b with
  | true => exact h1 rfl O σ G1 H1 Q hn E1 (c.on g1)
  | false => exact h2 rfl O σ G1 H1 Q hn E1 (c.on g1)
theorem ev_chain {f g : R2} {tc : TE} (h : EvE J ta ρ fun x ρ1 => EvE J tb ρ1 fun y ρ2 => Rd2 J f x y ρ2 fun r ρ3 => ∃ b, r = .sh (.bl b) ∧ (b = true → EvE J tc ρ3 fun z ρ4 => Rd2 J g y z ρ4 Φ) ∧ (b = false → Φ (.sh (.bl false)) ρ3)) : EvE J (tChain f g ta tb tc) ρ Φ := by
  intro O σ G H Q hn E c
  refine h O σ G H _ hn E ⟨fun v r G1 H1 ρ1 h1 E1 r1 g1 => ?_, c.x⟩
  refine h1 O σ G1 H1 _ hn E1 ⟨fun w q G2 H2 ρ2 h2 E2 r2 g2 => ?_, c.x.on g1⟩
  refine h2 O σ G2 H2 _ v w hn E2 (r1.mono g2) r2 ⟨fun u r3 G3 H3 ρ3 h3 E3 rv3 g3 => ?_, (c.x.on g1).on g2⟩
  obtain ⟨b, e, h4, h5⟩ := h3
  subst e
  cases rv3
  refine ⟨b, rfl, ?_⟩
  cases b with
  | true =>
    refine h4 rfl O σ G3 H3 _ hn E3 ⟨fun x rx G4 H4 ρ4 h6 E4 r4 g4 => ?_, ((c.x.on g1).on g2).on g3⟩
    exact h6 O σ G4 H4 Q w x hn E4 ((r2.mono g3).mono g4) r4 ((((c.on g1).on g2).on g3).on g4)
  | false => exact (((c.on g1).on g2).on g3).here E3 (h5 rfl) (.bl _)
/-! ### tests -/
theorem et_test {te : TE} {Φ : Bool → List U → Prop} (h : EvE J te ρ fun r ρ1 => ∃ b, r = .sh (.bl b) ∧ Φ b ρ1) : EvT J (tTest te) ρ Φ := by
  intro O σ G H Q hn E c
  refine h O σ G H _ hn E ⟨fun v r G1 H1 ρ1 ⟨b, e, q⟩ E1 r1 g1 => ?_, c.x⟩
  subst e
  cases r1
  exact ⟨b, rfl, c.v b G1 H1 ρ1 q E1 g1⟩
theorem et_b {te : TE} {Φ : Bool → List U → Prop} (h : EvE J te ρ fun r ρ1 => ∃ b, r = .sh (.bl b) ∧ Φ b ρ1) : EvT J (tB te) ρ Φ := by
  intro O σ G H Q hn E c
  refine h O σ G H _ hn E ⟨fun v r G1 H1 ρ1 ⟨b, e, q⟩ E1 r1 g1 => ?_, c.x⟩
  subst e
  cases r1
  exact ⟨b, rfl, c.v b G1 H1 ρ1 q E1 g1⟩
theorem et_and {t u : TT} {Φ : Bool → List U → Prop} (h : EvT J t ρ fun b ρ1 => (b = true → EvT J u ρ1 Φ) ∧ (b = false → Φ false ρ1)) : EvT J (tAnd t u) ρ Φ := by
  intro O σ G H Q hn E c
  refine h O σ G H _ hn E ⟨fun b G1 H1 ρ1 ⟨h1, h2⟩ E1 g1 => ?_, c.x⟩
  cases b with
  | true => exact h1 rfl O σ G1 H1 Q hn E1 ⟨fun b' G2 H2 ρ2 q E2 g2 => c.v b' G2 H2 ρ2 q E2 (g1.trans g2), c.x.on g1⟩
  | false => exact c.v false G1 H1 ρ1 (h2 rfl) E1 g1
theorem et_or {t u : TT} {Φ : Bool → List U → Prop} (h : EvT J t ρ fun b ρ1 => (b = true → Φ true ρ1) ∧ (b = false → EvT J u ρ1 Φ)) : EvT J (tOr t u) ρ Φ := by
  intro O σ G H Q hn E c
  refine h O σ G H _ hn E ⟨fun b G1 H1 ρ1 ⟨h1, h2⟩ E1 g1 => ?_, c.x⟩
  cases b with
  | false => exact h2 rfl O σ G1 H1 Q hn E1 ⟨fun b' G2 H2 ρ2 q E2 g2 => c.v b' G2 H2 ρ2 q E2 (g1.trans g2), c.x.on g1⟩
  | true => exact c.v true G1 H1 ρ1 (h1 rfl) E1 g1
theorem et_not {t : TT} {Φ : Bool → List U → Prop} (h : EvT J t ρ fun b ρ1 => Φ (!b) ρ1) : EvT J (tNot t) ρ Φ := by
  intro O σ G H Q hn E c
  exact h O σ G H _ hn E ⟨fun b G1 H1 ρ1 q E1 g1 => c.v (!b) G1 H1 ρ1 q E1 g1, c.x⟩
/-- both answers of a test -/
theorem spl_d {c A B : Prop} [Decidable c] (h1 : c → A) (h2 : ¬ c → B) : (decide c = true → A) ∧ (decide c = false → B) := ⟨fun h => h1 (of_decide_eq_true h), fun h => h2 (of_decide_eq_false h)⟩
theorem spl_nd {c A B : Prop} [Decidable c] (h1 : ¬ c → A) (h2 : c → B) : ((!decide c) = true → A) ∧ ((!decide c) = false → B) := ⟨fun h => h1 (by simpa using h), fun h => h2 (by simpa using h)⟩
theorem spl_t {b : Bool} {A B : Prop} (e : b = true) (h1 : A) : (b = true → A) ∧ (b = false → B) := ⟨fun _ => h1, fun h => by rw [e] at h; cases h⟩
theorem spl_f {b : Bool} {A B : Prop} (e : b = false) (h1 : B) : (b = true → A) ∧ (b = false → B) := ⟨(fun h => by rw [e] at h; cases h), fun _ => h1⟩
theorem spl_dt {c A B : Prop} [Decidable c] (h : c) (a : A) : (decide c = true → A) ∧ (decide c = false → B) := spl_d (fun _ => a) fun n => absurd h n
theorem spl_df {c A B : Prop} [Decidable c] (h : ¬ c) (b : B) : (decide c = true → A) ∧ (decide c = false → B) := spl_d (fun n => absurd n h) fun _ => b
theorem spl_ndt {c A B : Prop} [Decidable c] (h : ¬ c) (a : A) : ((!decide c) = true → A) ∧ ((!decide c) = false → B) := spl_nd (fun _ => a) fun n => absurd n h
theorem spl_ndf {c A B : Prop} [Decidable c] (h : c) (b : B) : ((!decide c) = true → A) ∧ ((!decide c) = false → B) := spl_nd (fun n => absurd h n) fun _ => b
theorem spl_n {b : Bool} {A B : Prop} (h : (b = true → B) ∧ (b = false → A)) : ((!b) = true → A) ∧ ((!b) = false → B) := ⟨fun e => h.2 (by simpa using e), fun e => h.1 (by simpa using e)⟩
end
end Tr
namespace Tr
open PySem L2 Vk
/-! ### statements -/
structure PD where
  nx : List U → Prop
  rt : R → List U → Prop
  bk : List U → Prop := fun _ => False
  ct : List U → Prop := fun _ => False
structure Sat (J : Jd) (O : Out) (G : Hp) (D0 : Ends) (D : PD) : Prop where
  nx : ∀ σ G' H' ρ', σ.length = J.n → Env J.K O G' H' σ ρ' → Same G G' → D.nx ρ' → D0.nx σ H'
  rt : ∀ v r σ G' H' ρ', σ.length = J.n → Env J.K O G' H' σ ρ' → Val J.K G' v r → Same G G' → D.rt r ρ' → D0.rt v H'
  bk : ∀ σ G' H' ρ', σ.length = J.n → Env J.K O G' H' σ ρ' → Same G G' → D.bk ρ' → D0.bk σ H'
  ct : ∀ σ G' H' ρ', σ.length = J.n → Env J.K O G' H' σ ρ' → Same G G' → D.ct ρ' → D0.ct σ H'
  x : XOk J O G
theorem Sat.on {J : Jd} {O : Out} {G G' : Hp} {D0 : Ends} {D : PD} (S : Sat J O G D0 D) (g : Same G G') : Sat J O G' D0 D :=
  ⟨fun σ G1 H1 ρ1 hn E g1 h => S.nx σ G1 H1 ρ1 hn E (g.trans g1) h, fun v r σ G1 H1 ρ1 hn E hv g1 h => S.rt v r σ G1 H1 ρ1 hn E hv (g.trans g1) h,
   fun σ G1 H1 ρ1 hn E g1 h => S.bk σ G1 H1 ρ1 hn E (g.trans g1) h, fun σ G1 H1 ρ1 hn E g1 h => S.ct σ G1 H1 ρ1 hn E (g.trans g1) h, S.x.on g⟩
def EvS (J : Jd) (ts : TS) (ρ : List U) (D : PD) : Prop := ∀ O σ G H D0, σ.length = J.n → Env J.K O G H σ ρ → Sat J O G D0 D → ts D0 σ H
/-- a target takes a value -/
def EvG (J : Jd) (g : TG) (r : R) (ρ : List U) (N : List U → Prop) : Prop := ∀ O σ G H v (Q : St → Hp → Prop), σ.length = J.n → Env J.K O G H σ ρ → Val J.K G v r →
  (∀ σ' G' H' ρ', σ'.length = J.n → Env J.K O G' H' σ' ρ' → Same G G' → N ρ' → Q σ' H') → XOk J O G → g v σ H Q
def EvGs (J : Jd) (g : TGs) (ts : List T) (ρ : List U) (N : List U → Prop) : Prop := ∀ O σ G H vs (Q : St → Hp → Prop), σ.length = J.n → Env J.K O G H σ ρ → RepL J.K G vs ts →
  (∀ σ' G' H' ρ', σ'.length = J.n → Env J.K O G' H' σ' ρ' → Same G G' → N ρ' → Q σ' H') → XOk J O G → g vs σ H Q
/-- less is said -/
inductive Wk : U → U → Prop
  | same {u : U} : Wk u u
  | no {u : U} : Wk u .no
  | nm {u : U} : Wk u .nm
inductive Wks : List U → List U → Prop
  | nil {ρ : List U} : Wks ρ []
  | cons {u w : U} {ρ ρ' : List U} : Wk u w → Wks ρ ρ' → Wks (u :: ρ) (w :: ρ')
section
variable {K : PySem.W.Frag} {J : Jd} {ρ ρ1 ρ2 : List U} {Φ : R → List U → Prop} {te ta tb : TE} {i j : Nat} {t t1 t2 u : T} {ts us : List T} {a : Addr} {x y z : Int} {D : PD} {N : List U → Prop}
theorem Wks.get : ∀ {ρ ρ' : List U} {i : Nat} {w : U}, Wks ρ ρ' → ρ'[i]? = some w → ∃ u, ρ[i]? = some u ∧ Wk u w
  | _, _, _, _, .nil, h => by simp at h
  | _, _, 0, _, .cons h _, e => by simp at e; subst e; exact ⟨_, rfl, h⟩
  | _, _, i + 1, _, .cons _ r, e => by
    obtain ⟨u, h1, h2⟩ := Wks.get (i := i) r (by simpa using e)
    exact ⟨u, by simpa using h1, h2⟩
theorem Wks.refl : ∀ (ρ : List U), Wks ρ ρ
  | [] => .nil
  | _ :: ρ => .cons .same (Wks.refl ρ)
theorem Wks.mem {a : Addr} : ∀ {ρ ρ' : List U}, Wks ρ ρ' → a ∈ own ρ' → a ∈ own ρ := fun {ρ ρ'} h m => by
  obtain ⟨i, w, hi, e⟩ := own_of m
  obtain ⟨u, h1, h2⟩ := h.get hi
  cases h2 with
  | same => exact own_mem h1 e
  | no => cases e
  | nm => cases e
theorem Env.wk {O : Out} {G H : Hp} {σ : List (Option V)} (E : Env K O G H σ ρ) (h : Wks ρ ρ1) (hl : σ.length ≤ ρ1.length) : Env K O G H σ ρ1 :=
  ⟨E.same, E.gg, E.keep, E.dom, E.nofrz, hl, (fun i w hi hs => by
    obtain ⟨u, h1, h2⟩ := h.get hi
    cases h2 with
    | same => exact E.at_ i _ h1 hs
    | no => trivial
    | nm => trivial), (fun i w hi => by
    obtain ⟨u, h1, h2⟩ := h.get hi
    cases h2 with
    | same => exact E.ob i _ h1
    | no => trivial
    | nm => trivial), fun a m => E.mine a (h.mem m), nodup_of_uniq (fun i j u w b hi hj eu ew => by
    obtain ⟨u', h1, h2⟩ := h.get hi
    obtain ⟨w', h3, h4⟩ := h.get hj
    cases h2 with
    | same =>
      cases h4 with
      | same => exact own_uniq E.nd h1 h3 eu ew
      | no => cases ew
      | nm => cases ew
    | no => cases eu
    | nm => cases eu) fun i w hi => by
    obtain ⟨u, h1, h2⟩ := h.get hi
    cases h2 with
    | same => exact own_nd E.nd h1
    | no => exact List.nodup_nil
    | nm => exact List.nodup_nil⟩
theorem es_norm {ts : TS} (e : ρ = ρ1) (h : EvS J ts ρ1 D) : EvS J ts ρ D := e ▸ h
theorem es_wk {ts : TS} (w : Wks ρ ρ1) (hl : J.n ≤ ρ1.length) (h : EvS J ts ρ1 D) : EvS J ts ρ D := fun O σ G H D0 hn E S => h O σ G H D0 hn (E.wk w (by omega)) S
/-- one's own object is a tree from here on -/
theorem es_frz {ts : TS} (h : ρ[i]? = some (.mu a t)) (e : ρ.set i (.sh t) = ρ1) (q : EvS J ts ρ1 D) : EvS J ts ρ D := fun O σ G H D0 hn E S => by
  obtain ⟨G', g, E', _⟩ := E.frz h
  subst e
  exact q O σ G' H D0 hn E' (S.on g)
theorem es_mono {ts : TS} {D' : PD} (h : EvS J ts ρ D) (q1 : ∀ ρ', D.nx ρ' → D'.nx ρ') (q2 : ∀ r ρ', D.rt r ρ' → D'.rt r ρ') (q3 : ∀ ρ', D.bk ρ' → D'.bk ρ') (q4 : ∀ ρ', D.ct ρ' → D'.ct ρ') : EvS J ts ρ D' := fun O σ G H D0 hn E S =>
  h O σ G H D0 hn E ⟨fun σ G1 H1 ρ1 hn E g1 h => S.nx σ G1 H1 ρ1 hn E g1 (q1 _ h), fun v r σ G1 H1 ρ1 hn E hv g1 h => S.rt v r σ G1 H1 ρ1 hn E hv g1 (q2 _ _ h),
   fun σ G1 H1 ρ1 hn E g1 h => S.bk σ G1 H1 ρ1 hn E g1 (q3 _ h), fun σ G1 H1 ρ1 hn E g1 h => S.ct σ G1 H1 ρ1 hn E g1 (q4 _ h), S.x⟩
theorem es_next (q : D.nx ρ) : EvS J tNext ρ D := fun O σ G H D0 hn E S => S.nx σ G H ρ hn E (fun _ _ z => z) q
theorem es_break (q : D.bk ρ) : EvS J tBreak ρ D := fun O σ G H D0 hn E S => S.bk σ G H ρ hn E (fun _ _ z => z) q
theorem es_cont (q : D.ct ρ) : EvS J tCont ρ D := fun O σ G H D0 hn E S => S.ct σ G H ρ hn E (fun _ _ z => z) q
theorem es_seq {t u : TS} (h : EvS J t ρ { D with nx := fun ρ' => EvS J u ρ' D }) : EvS J (tSeq t u) ρ D := fun O σ G H D0 hn E S =>
  h O σ G H { D0 with nx := u D0 } hn E ⟨fun σ' G1 H1 ρ1 hn E g1 q => q O σ' G1 H1 D0 hn E (S.on g1), S.rt, S.bk, S.ct, S.x⟩
/-- a block is cut: M holds between -/
theorem es_cut {t u : TS} (M : List U → Prop) (h : EvS J t ρ { D with nx := fun ρ' => ∃ ρ2, Wks ρ' ρ2 ∧ J.n ≤ ρ2.length ∧ M ρ2 }) (q : ∀ ρ', M ρ' → EvS J u ρ' D) : EvS J (C8.tCut t u) ρ D := by
  intro O σ G H D0 hn E S
  refine ⟨fun σ' H' => ∃ G' ρ', σ'.length = J.n ∧ Env J.K O G' H' σ' ρ' ∧ Same G G' ∧ M ρ', ?_, fun σ' H' hm => ?_⟩
  · exact h O σ G H { D0 with nx := fun σ' H' => ∃ G' ρ', σ'.length = J.n ∧ Env J.K O G' H' σ' ρ' ∧ Same G G' ∧ M ρ' } hn E
      ⟨fun σ' G1 H1 ρ1 hn E g1 ⟨ρ2, w, hl, m⟩ => ⟨G1, ρ2, hn, E.wk w (by omega), g1, m⟩, S.rt, S.bk, S.ct, S.x⟩
  · obtain ⟨G', ρ', hn', E', g', m⟩ := hm
    exact q ρ' m O σ' G' H' D0 hn' E' (S.on g')
theorem es_ret (h : EvE J te ρ D.rt) : EvS J (tRet te) ρ D := fun O σ G H D0 hn E S => h O σ G H D0.rt hn E ⟨fun v r G' H' ρ' q E' hv g => S.rt v r σ G' H' ρ' hn E' hv g q, S.x⟩
theorem es_retN (h : D.rt (.sh .non) ρ) : EvS J tRetN ρ D := fun O σ G H D0 hn E S => S.rt .non (.sh .non) σ G H ρ hn E (show Rep J.K G .non .non from .non) (fun _ _ z => z) h
theorem es_drop (h : EvE J te ρ fun _ ρ1 => J.n ≤ ρ1.length ∧ D.nx (ρ1.take J.n)) : EvS J (tDrop te) ρ D := fun O σ G H D0 hn E S =>
  h O σ G H _ hn E ⟨fun v r G' H' ρ' q E' hv g => S.nx σ G' H' _ hn (E'.cut (by omega)) g q.2, S.x⟩
theorem es_if {tc : TT} {t u : TS} (h : EvT J tc ρ fun b ρ1 => (b = true → EvS J t ρ1 D) ∧ (b = false → EvS J u ρ1 D)) : EvS J (tIfS tc t u) ρ D := by
  intro O σ G H D0 hn E S
  refine h O σ G H _ hn E ⟨fun b G1 H1 ρ1 ⟨h1, h2⟩ E1 g1 => ?_, S.x⟩
  cases b with
  | true => exact h1 rfl O σ G1 H1 D0 hn E1 (S.on g1)
  | false => exact h2 rfl O σ G1 H1 D0 hn E1 (S.on g1)
theorem es_asg {g : TG} (h : EvE J te ρ fun r ρ1 => EvG J g r ρ1 D.nx) : EvS J (tAsg te g) ρ D := by
  intro O σ G H D0 hn E S
  refine h O σ G H _ hn E ⟨fun v r G1 H1 ρ1 h1 E1 r1 g1 => ?_, S.x⟩
  exact h1 O σ G1 H1 v D0.nx hn E1 r1 (fun σ' G2 H2 ρ2 hn2 E2 g2 q => S.nx σ' G2 H2 ρ2 hn2 E2 (g1.trans g2) q) (S.x.on g1)
/-- the same, what is new staying one's own -/
theorem es_asgN {g : TG} (h : EvM J te ρ fun r ρ1 => EvG J g r ρ1 D.nx) : EvS J (tAsg te g) ρ D := es_asg h
/-! ### targets -/
theorem eg_name (e : (ρ.take J.n).set i (.sh t) = ρ1) (q : N ρ1) : EvG J (gName i) (.sh t) ρ N := by
  intro O σ G H v Q hn E hv c xo
  subst e
  exact c _ G H _ (by rw [List.length_set]; exact hn) ((E.cut (by omega)).put (i := i) (w := .sh t) rfl ⟨v, rfl, hv⟩) (fun _ _ z => z) q
theorem eg_move {u : U} (h : ρ[j]? = some u) (eu : u.ads.head? = some a) (hj : J.n ≤ j) (e : ((ρ.set j .no).set i u).take J.n = ρ1) (q : N ρ1) : EvG J (gName i) (.mr j a) ρ N := by
  intro O σ G H v Q hn E hv c xo
  subst e
  cases hv
  exact c _ G H _ (by rw [List.length_set]; exact hn) ((E.move (i := i) h eu (by omega)).cut (by rw [List.length_set]; omega)) (fun _ _ z => z) q
/-- one's own object under another name: a tree -/
theorem eg_fz {g : TG} {r : R} (f : Fz J.n r ρ t ρ1) (q : EvG J g (.sh t) ρ1 N) : EvG J g r ρ N := by
  intro O σ G H v Q hn E hv c xo
  obtain ⟨G', g', E', r'⟩ := f.ok hn E hv
  exact q O σ G' H v Q hn E' r' (fun σ' G2 H2 ρ2 hn2 E2 g2 q2 => c σ' G2 H2 ρ2 hn2 E2 (g'.trans g2) q2) (xo.on g')
theorem egs_nil (q : N ρ) : EvGs J gNil [] ρ N := by
  intro O σ G H vs Q hn E hv c xo
  cases hv
  exact ⟨rfl, c σ G H ρ hn E (fun _ _ z => z) q⟩
theorem egs_cons {g : TG} {gs : TGs} (h : EvG J g (.sh t) ρ fun ρ1 => EvGs J gs ts ρ1 N) : EvGs J (gCons g gs) (t :: ts) ρ N := by
  intro O σ G H vs Q hn E hv c xo
  cases hv with
  | @cons v vs _ _ h1 h2 =>
    refine ⟨v, vs, rfl, ?_⟩
    refine h O σ G H v _ hn E h1 (fun σ1 G1 H1 ρ1 hn1 E1 g1 q => ?_) xo
    exact q O σ1 G1 H1 vs Q hn1 E1 (h2.mono g1) (fun σ' G2 H2 ρ2 hn2 E2 g2 q2 => c σ' G2 H2 ρ2 hn2 E2 (g1.trans g2) q2) (xo.on g1)
theorem eg_tup {g : TGs} {k : Nat} (hk : ts.length = k) (h : EvGs J g ts ρ N) : EvG J (gTup J.K k g) (.sh (.tup ts)) ρ N := by
  intro O σ G H v Q hn E hv c xo
  cases hv with
  | tup hs r => exact ⟨_, _, rfl, Vk.Same.tup E.same hs, r.len.trans hk, h O σ G H _ Q hn E r c xo⟩
theorem eg_lst {g : TGs} {k : Nat} (hk : ts.length = k) (h : EvGs J g ts ρ N) : EvG J (gLst J.K k g) (.sh (.lst ts)) ρ N := by
  intro O σ G H v Q hn E hv c xo
  cases hv with
  | lst hs r => exact ⟨_, _, rfl, E.same.seq (SqL.of hs), r.len.trans hk, h O σ G H _ Q hn E r c xo⟩
/-- xs[k] = v -/
theorem eg_sub {to ti : TE} {r : R} (f : Fz J.n r ρ t ρ1) (h : EvE J to ρ1 fun x ρ2 => EvE J ti ρ2 fun y ρ3 => ∃ i a ts z k us ρ4, x = .mr i a ∧ y = .sh (.int z) ∧ ρ3[i]? = some (.mu a (.lst ts)) ∧ ixN ts.length z = some k ∧ ts.set k t = us ∧ J.n ≤ ρ3.length ∧ (ρ3.set i (.mu a (.lst us))).take J.n = ρ4 ∧ N ρ4) :
    EvG J (gSub to ti rSetL) r ρ N := by
  intro O σ G H v Q hn E hv c xo
  obtain ⟨G', g', E', r'⟩ := f.ok hn E hv
  refine h O σ G' H _ hn E' ⟨fun o ro G1 H1 ρ2 h1 E1 r1 g1 => ?_, xo.on g'⟩
  refine h1 O σ G1 H1 _ hn E1 ⟨fun y ry G2 H2 ρ3 ⟨i, a, ts, z, k, us, ρ4, e1, e2, hi, hk, eu, hl, e4, q⟩ E2 r2 g2 => ?_, (xo.on g').on g1⟩
  subst e1 e2 eu e4
  cases r1
  cases r2
  obtain ⟨_, vs, ev, rv⟩ := E2.ob i _ hi
  have rt := Rep.mono (g1.trans g2) r'
  refine ⟨a, vs, z, k, rfl, rfl, ev, by rw [rv.len]; exact hk, ?_⟩
  refine c σ G2 _ _ hn ((E2.write hi _ ?_).cut (by omega)) (g'.trans (g1.trans g2)) q
  exact ⟨_, upd_same, rv.set rt k⟩
/-! ### walks -/
/-- the walk J gives the trees ts, while all of G stands -/
structure WalkT (K : PySem.W.Frag) (G : Hp) (I : It) (ts : List T) : Prop where
  w : ∃ Y, Walk I ts.length (fun H => Same G H) Y ∧ ∀ (i : Nat) (G1 H : Hp) (x : V) (H' : Hp) (t : T), Same G G1 → Same G1 H → Y i H x H' → ts[i]? = some t →
    (H' = H ∧ Rep K G1 x t) ∨ (∃ p vs us, H p = none ∧ H' = upd H p (.tup vs) ∧ x = .ref p ∧ t = .tup us ∧ RepL K G1 vs us)
def EvI (J : Jd) (wi : TI) (ρ : List U) (Φ : List T → List U → Prop) : Prop := ∀ O σ G H (R : It → Hp → Prop), σ.length = J.n → Env J.K O G H σ ρ →
  (∀ ts I G' H' ρ', Φ ts ρ' → Env J.K O G' H' σ ρ' → Same G G' → WalkT J.K G' I ts → R I H') → XOk J O G → wi σ H R
theorem WalkT.of {G : Hp} {I : It} {vs : List V} (r : RepL K G vs ts) (w : Walk I vs.length (fun H => Same G H) (YAt vs)) : WalkT K G I ts := by
  rw [r.len] at w
  refine ⟨_, w, fun i G1 H x H' t g1 g2 y e => ?_⟩
  obtain ⟨e1, e2⟩ := y
  obtain ⟨t', e3, r'⟩ := r.getV e2
  rw [e] at e3
  cases e3
  exact .inl ⟨e1, Rep.mono g1 r'⟩
theorem ei_list (h : EvE J te ρ fun r ρ1 => ∃ t ts ρ2, Fz J.n r ρ1 t ρ2 ∧ (t = .lst ts ∨ t = .cl ts) ∧ Φ' ts ρ2) : EvI J (iList J.K te) ρ Φ' := by
  intro O σ G H R hn E c xo
  refine h O σ G H _ hn E ⟨fun v r G1 H1 ρ1 ⟨t, ts, ρ2, f, e, q⟩ E1 r1 g1 => ?_, xo⟩
  obtain ⟨G2, g2, E2, r2⟩ := f.ok hn E1 r1
  have go : ∀ {a : Addr} {vs : List V}, SqL J.K G2 a vs → RepL J.K G2 vs ts → ∃ a', V.ref a = .ref a' ∧ (∃ xs, SqL J.K H1 a' xs) ∧ R (Itl J.K a') H1 := fun {a vs} hs rl =>
    ⟨a, rfl, ⟨vs, E2.same.seq hs⟩, c ts _ G2 H1 ρ2 q E2 (g1.trans g2) (.of rl (walk_list.mono (fun H s => s.seq hs) fun _ _ _ _ _ _ y => y))⟩
  rcases e with rfl | rfl
  · cases r2 with
    | lst hs rl => exact go (SqL.of hs) rl
  · cases r2 with
    | cl hs rl => exact go hs rl
theorem ei_tup (h : EvE J te ρ fun r ρ1 => ∃ ts, r = .sh (.tup ts) ∧ Φ' ts ρ1) : EvI J (iTup J.K te) ρ Φ' := by
  intro O σ G H R hn E c xo
  refine h O σ G H _ hn E ⟨fun v r G1 H1 ρ1 ⟨ts, e, q⟩ E1 r1 g1 => ?_, xo⟩
  subst e
  cases r1 with
  | tup hs rl => exact ⟨_, rfl, ⟨_, Vk.Same.tup E1.same hs⟩, c ts _ G1 H1 ρ1 q E1 g1 (.of rl (walk_tup.mono (fun H s => Vk.Same.tup s hs) fun _ _ _ _ _ _ y => y))⟩
/-- a list or a tuple -/
theorem ei_seqL (h : EvI J (iList J.K te) ρ Φ') : EvI J (fun σ H R => iList J.K te σ H R ∨ iTup J.K te σ H R) ρ Φ' := fun O σ G H R hn E c xo => .inl (h O σ G H R hn E c xo)
theorem ei_seqT (h : EvI J (iTup J.K te) ρ Φ') : EvI J (fun σ H R => iList J.K te σ H R ∨ iTup J.K te σ H R) ρ Φ' := fun O σ G H R hn E c xo => .inr (h O σ G H R hn E c xo)
def rgT (lo : Int) (k : Nat) : List T := (List.range k).map fun i : Nat => T.int (lo + (i : Int))
theorem rgT_len (lo : Int) (k : Nat) : (rgT lo k).length = k := by simp [rgT]
theorem rgT_get {lo : Int} {k i : Nat} {t : T} (h : (rgT lo k)[i]? = some t) : i < k ∧ t = .int (lo + (i : Int)) := by
  have hl := (List.getElem?_eq_some_iff.mp h).1
  rw [rgT_len] at hl
  unfold rgT at h
  rw [List.getElem?_map, List.getElem?_range hl] at h
  exact ⟨hl, (Option.some.inj h).symm⟩
theorem WalkT.rg {G : Hp} {lo : Int} {k : Nat} : WalkT K G (Itr lo k) (rgT lo k) := by
  refine ⟨YFn fun i => .int (lo + i), ?_, fun i G1 H x H' t _ _ y e => ?_⟩
  · rw [rgT_len]
    exact walk_range.mono (fun _ _ => trivial) fun _ _ _ _ _ _ y => y
  · obtain ⟨_, rfl⟩ := rgT_get e
    obtain ⟨e1, e2⟩ := y
    exact .inl ⟨e1, e2 ▸ .int _⟩
theorem ei_range1 {tr : TA} (h : EvA J tr ρ fun rs ρ1 => ∃ z : Int, rs = [.sh (.int z)] ∧ -(2 ^ 62) ≤ z ∧ z < 2 ^ 62 ∧ Φ' (rgT 0 z.toNat) ρ1) : EvI J (iRng1 tr) ρ Φ' := by
  intro O σ G H R hn E c xo
  refine h O σ G H _ hn E ⟨fun vs rs G1 H1 ρ1 ⟨z, e, b0, b1, q⟩ E1 r1 g1 => ?_, xo⟩
  subst e
  cases r1 with
  | cons r r0 =>
    cases r0
    cases r
    exact ⟨z, rfl, b0, b1, c _ _ G1 H1 ρ1 q E1 g1 .rg⟩
theorem ei_range2 {tr : TA} (h : EvA J tr ρ fun rs ρ1 => ∃ y z : Int, rs = [.sh (.int y), .sh (.int z)] ∧ (-(2 ^ 62) ≤ y ∧ y < 2 ^ 62 ∧ -(2 ^ 62) ≤ z ∧ z < 2 ^ 62) ∧ Φ' (rgT y (z - y).toNat) ρ1) : EvI J (iRng2 tr) ρ Φ' := by
  intro O σ G H R hn E c xo
  refine h O σ G H _ hn E ⟨fun vs rs G1 H1 ρ1 ⟨y, z, e, b, q⟩ E1 r1 g1 => ?_, xo⟩
  subst e
  cases r1 with
  | cons r r0 =>
    cases r0 with
    | cons r' r1 =>
      cases r1
      cases r
      cases r'
      exact ⟨y, z, rfl, b, c _ _ G1 H1 ρ1 q E1 g1 .rg⟩
/-- for: I by the turn and what is known of the slots -/
theorem es_for {wi : TI} {g : TG} {tb : TS} (h : EvI J wi ρ fun ts ρ1 => J.n ≤ ρ1.length ∧ ∃ I : Nat → List U → Prop, I 0 (ρ1.take J.n) ∧
      (∀ (i : Nat) t ρ', ts[i]? = some t → I i ρ' → EvG J g (.sh t) ρ' fun ρ2 => EvS J tb ρ2 { nx := fun ρ3 => ∃ ρ4, Wks ρ3 ρ4 ∧ J.n ≤ ρ4.length ∧ I (i + 1) ρ4, rt := D.rt, bk := D.nx, ct := fun ρ3 => ∃ ρ4, Wks ρ3 ρ4 ∧ J.n ≤ ρ4.length ∧ I (i + 1) ρ4 }) ∧
      (∀ ρ', I ts.length ρ' → D.nx ρ')) : EvS J (tFor wi g tb) ρ D := by
  intro O σ G H D0 hn E S
  refine h O σ G H _ hn E (fun ts It G1 H1 ρ1 ⟨hl, I, h0, hs, hd⟩ E1 g1 ⟨Y, w, hy⟩ => ?_) S.x
  refine for_it w (fun i σ' H' => ∃ G' ρ', σ'.length = J.n ∧ Env J.K O G' H' σ' ρ' ∧ Same G1 G' ∧ I i ρ') ⟨G1, _, hn, E1.cut (by omega), fun _ _ z => z, h0⟩ (fun i σ' H' _ ⟨G', ρ', _, E', g', _⟩ => g'.trans E'.same) (fun i x σ' H' H2 hi ⟨G', ρ', hn', E', g', hI⟩ y => ?_) (fun σ' H' ⟨G', ρ', hn', E', g', hI⟩ => ?_)
  · obtain ⟨t, et⟩ := get_of_lt hi
    have nxt : ∀ σ3 G3 H3 ρ3, σ3.length = J.n → Env J.K O G3 H3 σ3 ρ3 → Same G' G3 → EvS J tb ρ3 { nx := fun ρ3 => ∃ ρ4, Wks ρ3 ρ4 ∧ J.n ≤ ρ4.length ∧ I (i + 1) ρ4, rt := D.rt, bk := D.nx, ct := fun ρ3 => ∃ ρ4, Wks ρ3 ρ4 ∧ J.n ≤ ρ4.length ∧ I (i + 1) ρ4 } →
        tb { D0 with nx := fun σ' H' => ∃ G' ρ', σ'.length = J.n ∧ Env J.K O G' H' σ' ρ' ∧ Same G1 G' ∧ I (i + 1) ρ', ct := fun σ' H' => ∃ G' ρ', σ'.length = J.n ∧ Env J.K O G' H' σ' ρ' ∧ Same G1 G' ∧ I (i + 1) ρ', bk := D0.nx } σ3 H3 := fun σ3 G3 H3 ρ3 hn3 E3 g3 q =>
      q O σ3 G3 H3 _ hn3 E3 ⟨fun σ4 G4 H4 ρ4 hn4 E4 g4 ⟨ρ5, wk, hl5, hI5⟩ => ⟨G4, ρ5, hn4, E4.wk wk (by omega), g'.trans (g3.trans g4), hI5⟩,
        fun v r σ4 G4 H4 ρ4 hn4 E4 hv g4 h4 => S.rt v r σ4 G4 H4 ρ4 hn4 E4 hv (g1.trans (g'.trans (g3.trans g4))) h4,
        fun σ4 G4 H4 ρ4 hn4 E4 g4 h4 => S.nx σ4 G4 H4 ρ4 hn4 E4 (g1.trans (g'.trans (g3.trans g4))) h4,
        fun σ4 G4 H4 ρ4 hn4 E4 g4 ⟨ρ5, wk, hl5, hI5⟩ => ⟨G4, ρ5, hn4, E4.wk wk (by omega), g'.trans (g3.trans g4), hI5⟩, S.x.on (g1.trans (g'.trans g3))⟩
    rcases hy i G' H' x H2 t g' E'.same y et with ⟨rfl, r⟩ | ⟨p, vs, us, np, rfl, rfl, rfl, r⟩
    · exact hs i t ρ' et hI O σ' G' H2 x _ hn' E' r (fun σ3 G3 H3 ρ3 hn3 E3 g3 q => nxt σ3 G3 H3 ρ3 hn3 E3 g3 q) (S.x.on (g1.trans g'))
    · obtain ⟨E2, g2⟩ := E'.alloc np (.tup vs)
      exact hs i _ ρ' et hI O σ' _ _ _ _ hn' E2 (show Rep J.K _ _ _ from .tup (SqT.of upd_same) (r.mono g2)) (fun σ3 G3 H3 ρ3 hn3 E3 g3 q => nxt σ3 G3 H3 ρ3 hn3 E3 (g2.trans g3) q) (S.x.on ((g1.trans g').trans g2))
  · exact S.nx σ' G' H' ρ' hn' E' (g1.trans g') (hd ρ' hI)
/-- while: I by a measure and what is known of the slots -/
theorem es_while {tc : TT} {tb : TS} (I : Nat → List U → Prop) {m0 : Nat} (h0 : I m0 ρ)
    (hs : ∀ m ρ', I m ρ' → EvT J tc ρ' fun b ρ1 => (b = true → EvS J tb ρ1 { nx := fun ρ3 => ∃ ρ4 m', m' < m ∧ Wks ρ3 ρ4 ∧ J.n ≤ ρ4.length ∧ I m' ρ4, rt := D.rt, bk := D.nx, ct := fun ρ3 => ∃ ρ4 m', m' < m ∧ Wks ρ3 ρ4 ∧ J.n ≤ ρ4.length ∧ I m' ρ4 }) ∧ (b = false → D.nx ρ1)) : EvS J (tWhile tc tb) ρ D := by
  intro O σ G H D0 hn E S
  refine ⟨fun m σ' H' => ∃ G' ρ', σ'.length = J.n ∧ Env J.K O G' H' σ' ρ' ∧ Same G G' ∧ I m ρ', ⟨m0, G, ρ, hn, E, fun _ _ z => z, h0⟩, ?_⟩
  rintro m σ1 H1 ⟨G1, ρ1, hn1, E1, g1, hI⟩
  refine hs m ρ1 hI O σ1 G1 H1 _ hn1 E1 ⟨fun b G2 H2 ρ2 ⟨h1, h2⟩ E2 g2 => ?_, S.x.on g1⟩
  cases b with
  | true =>
    refine ⟨fun σ' H' => ∃ m', m' < m ∧ ∃ G' ρ', σ'.length = J.n ∧ Env J.K O G' H' σ' ρ' ∧ Same G G' ∧ I m' ρ', fun σ' H' h => h, ?_⟩
    refine h1 rfl O σ1 G2 H2 _ hn1 E2 ⟨fun σ4 G4 H4 ρ4 hn4 E4 g4 ⟨ρ5, m', hm, wk, hl5, hI5⟩ => ⟨m', hm, G4, ρ5, hn4, E4.wk wk (by omega), g1.trans (g2.trans g4), hI5⟩,
        fun v r σ4 G4 H4 ρ4 hn4 E4 hv g4 h4 => S.rt v r σ4 G4 H4 ρ4 hn4 E4 hv (g1.trans (g2.trans g4)) h4,
        fun σ4 G4 H4 ρ4 hn4 E4 g4 h4 => S.nx σ4 G4 H4 ρ4 hn4 E4 (g1.trans (g2.trans g4)) h4,
        fun σ4 G4 H4 ρ4 hn4 E4 g4 ⟨ρ5, m', hm, wk, hl5, hI5⟩ => ⟨m', hm, G4, ρ5, hn4, E4.wk wk (by omega), g1.trans (g2.trans g4), hI5⟩, S.x.on (g1.trans g2)⟩
  | false => exact S.nx σ1 G2 H2 ρ2 hn1 E2 (g1.trans g2) (h2 rfl)
end
end Tr
namespace Tr
open PySem L2 Vk
/-! ### comprehensions -/
def wipeU : List Nat → List U → List U
  | [], ρ => ρ
  | v :: vs, ρ => (wipeU vs ρ).set v .no
/-- one's own objects of the first slots are the same -/
inductive Kps : Nat → List U → List U → Prop
  | z {ρ ρ' : List U} : Kps 0 ρ ρ'
  | nil {n : Nat} {ρ : List U} : Kps n [] ρ
  | same {n : Nat} {u : U} {ρ ρ' : List U} : Kps n ρ ρ' → Kps (n + 1) (u :: ρ) (u :: ρ')
  | skip {n : Nat} {u w : U} {ρ ρ' : List U} (h : u.ads = []) : Kps n ρ ρ' → Kps (n + 1) (u :: ρ) (w :: ρ')
theorem Kps.get : ∀ {n : Nat} {ρ ρ' : List U}, Kps n ρ ρ' → ∀ (i : Nat) (u : U), i < n → ρ[i]? = some u → u.ads ≠ [] → ρ'[i]? = some u
  | _, _, _, .z, i, u, h, _, _ => absurd h (Nat.not_lt_zero _)
  | _, _, _, .nil, i, u, _, e, _ => by simp at e
  | _, _, _, .same k, 0, u, _, e, _ => e
  | _, _, _, .same k, i + 1, u, h, e, a => by simpa using Kps.get k i u (by omega) (by simpa using e) a
  | _, _, _, .skip h0 k, 0, u, _, e, a => by simp at e; subst e; exact absurd h0 a
  | _, _, _, .skip h0 k, i + 1, u, h, e, a => by simpa using Kps.get k i u (by omega) (by simpa using e) a
section
variable {K : PySem.W.Frag} {J : Jd} {O : Out} {G H G' H' G4 H4 : Hp} {σ σ4 : List (Option V)} {ρ ρ1 ρ2 ρ4 : List U} {Φ : R → List U → Prop} {te ta tb : TE} {i j : Nat} {t t1 t2 u : T} {ts us : List T} {a : Addr} {x y z : Int}
/-- the same state, seen from here on -/
theorem Env.inner (E : Env K O G H σ ρ) : Env K ⟨G, H, fun b => b ∈ own ρ⟩ G H σ ρ :=
  ⟨E.same, fun _ _ z => z, fun _ _ e _ => e, fun _ n => n, fun _ _ _ e => e, E.len, E.at_, E.ob, fun a h => .inr h, E.nd⟩
theorem Env.wipe (E : Env K O G H σ ρ) : ∀ vs : List Nat, Env K O G H (wipe σ vs) (wipeU vs ρ)
  | [] => E
  | v :: vs => by
    have E1 := Env.wipe E vs
    show Env K O G H ((L2.wipe σ vs).set v none) ((wipeU vs ρ).set v .no)
    refine ⟨E1.same, E1.gg, E1.keep, E1.dom, E1.nofrz, by rw [List.length_set, List.length_set]; exact E1.len, fun k u hk hl => ?_, fun k u hk => ?_, fun b hb => E1.mine b (own_set_none (u := .no) rfl hb), nodup_set_none rfl E1.nd⟩
    · rw [List.length_set] at hl
      rcases get_setL hk with ⟨rfl, rfl⟩ | ⟨nk, hk2⟩
      · trivial
      · rw [List.getElem?_set_ne (Ne.symm nk)]
        exact E1.at_ k u hk2 hl
    · rcases get_setL hk with ⟨rfl, rfl⟩ | ⟨_, hk⟩
      · trivial
      · exact E1.ob k u hk
/-- back from an inner block -/
theorem Env.back {m : Nat} (E : Env K O G H σ ρ) (E4 : Env K ⟨G, H, fun b => b ∈ own (ρ.take m)⟩ G4 H4 σ4 ρ4) (h : ∀ (i : Nat) (u : U), i < m → ρ[i]? = some u → u.ads ≠ [] → ρ4[i]? = some u) : Env K O G4 H4 σ ρ := by
  refine E.step (as := own (ρ.take m)) E4.same E4.gg (fun b o e n => E4.keep b o e n) (fun b n => E4.dom b n) (fun b n na e => E4.nofrz b n na e) (fun a ha => (own_sub (List.take_sublist m ρ)).subset ha) rfl (fun i u hi hl => (E.at_ i u hi hl).mono E4.gg) fun i u hi => ?_
  by_cases ea : u.ads = []
  · have oo := E.ob i u hi
    cases u with
    | mu a t => cases ea
    | fd a => cases ea
    | dp a m =>
      have hd := oo.1
      rw [show m.ads = [] from ea] at hd
      cases hd
    | _ => trivial
  · by_cases c : i < m
    · exact E4.ob i u (h i u c hi ea)
    · refine (E.ob i u hi).keep E4.gg fun b eb => ?_
      have na : b ∉ own (ρ.take m) := fun hm => by
        obtain ⟨j, w, hj, ew⟩ := own_of hm
        rw [List.getElem?_take] at hj
        split at hj
        · rename_i cj
          exact c ((own_uniq E.nd hi hj eb ew) ▸ cj)
        · cases hj
      obtain ⟨⟨o, eo⟩, ng⟩ := E.there (own_mem hi eb)
      exact ⟨fun o' e' => E4.keep _ _ e' na, E4.nofrz _ (fun z => by have z2 : H b = none := z; rw [eo] at z2; cases z2) na ng⟩
/-- the target touches these slots only -/
def GOk (g : TG) (vs : List Nat) : Prop := ∀ (x : V) (σ : St) (H : Hp) (Q : St → Hp → Prop), g x σ H Q → g x σ H fun σ2 H2 => wipe σ2 vs = wipe σ vs ∧ Q σ2 H2
def GsOk (g : TGs) (vs : List Nat) : Prop := ∀ (xs : List V) (σ : St) (H : Hp) (Q : St → Hp → Prop), g xs σ H Q → g xs σ H fun σ2 H2 => wipe σ2 vs = wipe σ vs ∧ Q σ2 H2
theorem wipe_set {σ : St} {j : Nat} {x : Option V} : ∀ {vs : List Nat}, j ∈ vs → wipe (σ.set j x) vs = wipe σ vs
  | [], h => by cases h
  | v :: vs, h => by
    show (wipe (σ.set j x) vs).set v none = (wipe σ vs).set v none
    by_cases hm : j ∈ vs
    · rw [wipe_set hm]
    · rcases List.mem_cons.mp h with rfl | h
      · have e : ∀ {vs : List Nat}, j ∉ vs → wipe (σ.set j x) vs = (wipe σ vs).set j x := by
          intro vs
          induction vs with
          | nil => intro _; rfl
          | cons w vs ih =>
            intro hn
            show (wipe (σ.set j x) vs).set w none = ((wipe σ vs).set w none).set j x
            have nw : j ≠ w := fun e => hn (by rw [e]; exact List.mem_cons_self ..)
            rw [ih (fun m => hn (List.mem_cons_of_mem _ m)), List.set_comm _ _ nw]
        rw [e hm, List.set_set]
      · exact absurd h hm
theorem gok_name {j : Nat} {vs : List Nat} (h : j ∈ vs) : GOk (gName j) vs := fun x σ H Q q => ⟨wipe_set h, q⟩
theorem gsok_nil {vs : List Nat} : GsOk gNil vs := fun xs σ H Q ⟨e, q⟩ => ⟨e, rfl, q⟩
def GMono (g : TG) : Prop := ∀ (x : V) (σ : St) (H : Hp) (Q Q' : St → Hp → Prop), (∀ σ2 H2, Q σ2 H2 → Q' σ2 H2) → g x σ H Q → g x σ H Q'
theorem gmono_name {j : Nat} : GMono (gName j) := fun x σ H Q Q' h q => h _ _ q
theorem gsok_cons {g : TG} {gs : TGs} {vs : List Nat} (m : GMono g) (h : GOk g vs) (hs : GsOk gs vs) : GsOk (gCons g gs) vs := fun xs σ H Q ⟨v, r, e, q⟩ =>
  ⟨v, r, e, m _ _ _ _ _ (fun σ2 H2 ⟨e2, q2⟩ => by
    refine (?_ : gs r σ2 H2 _)
    have := hs r σ2 H2 Q q2
    rw [e2] at this
    exact this) (h v σ H _ q)⟩
theorem gok_tup {k : Nat} {gs : TGs} {vs : List Nat} (hs : GsOk gs vs) : GOk (gTup K k gs) vs := fun x σ H Q ⟨a, xs, e, s, l, q⟩ => ⟨a, xs, e, s, l, hs xs σ H Q q⟩
theorem wipe_wipe (σ : St) : ∀ vs ws : List Nat, (∀ v ∈ vs, v ∈ ws) → wipe (wipe σ vs) ws = wipe σ ws
  | [], _, _ => rfl
  | v :: vs, ws, h => by
    show wipe ((wipe σ vs).set v none) ws = wipe σ ws
    rw [wipe_set (h v (List.mem_cons_self ..)), wipe_wipe σ vs ws fun w hw => h w (List.mem_cons_of_mem _ hw)]
theorem set_last {ρ : List U} {u w : U} : (ρ ++ [u]).set ρ.length w = ρ ++ [w] := by
  induction ρ with
  | nil => rfl
  | cons x ρ ih => exact congrArg (x :: ·) ih
theorem get_last {ρ : List U} {u : U} : (ρ ++ [u])[ρ.length]? = some u := by
  rw [List.getElem?_append_right (Nat.le_refl _), Nat.sub_self]
  rfl
theorem et_yes {Φ : Bool → List U → Prop} (q : Φ true ρ) : EvT J tYes ρ Φ := fun O σ G H Q hn E c => c.v true G H ρ q E fun _ _ z => z
theorem small_acc {n m : Nat} (h : n < m) (hm : m ≤ 100000) : n < sizeLine := by
  have := sizeLine_eq
  omega
@[reducible] def Jd.q (J : Jd) : Jd := ⟨J.K, J.n, J.W, fun _ _ => False⟩
theorem xok_q {O : Out} {G : Hp} : XOk J.q O G := fun cls d σ G' H' ρ' x _ _ _ _ q => q.elim
/-- [e for g in wi if tt] -/
theorem evm_lc {wi : TI} {g : TG} {tt : TT} {vs : List Nat} (gk : GOk g vs)
    (h : EvI J wi ρ fun ts ρ1 => J.n ≤ ρ1.length ∧ ts.length ≤ 100000 ∧ ∃ I : Nat → List T → Prop, I 0 [] ∧
      (∀ (i : Nat) t acc, ts[i]? = some t → I i acc → EvG J.q g (.sh t) (wipeU vs (ρ1.take J.n)) fun ρ2 => EvT J.q tt ρ2 fun b ρ3 =>
        (b = true → EvE J.q te ρ3 fun r ρ4 => ∃ u ρ5, Fz J.n r ρ4 u ρ5 ∧ Kps J.n ρ1 ρ5 ∧ I (i + 1) (acc ++ [u])) ∧ (b = false → Kps J.n ρ1 ρ3 ∧ I (i + 1) acc)) ∧
      ∀ acc, I ts.length acc → ∀ p, Φ (.mr ρ1.length p) (ρ1 ++ [.mu p (.lst acc)])) : EvM J (tLc wi g tt te vs) ρ Φ := by
  intro O σ G H Q hn E c
  refine h O σ G H _ hn E (fun ts It G1 H1 ρ1 ⟨hl, h5, I, h0, hs, hd⟩ E1 g1 ⟨Y, w, hy⟩ => ?_) c.x
  intro D hD
  have gD : G1 D = none := E1.same.free hD
  refine lc_it (H1 := H1) (D := D) (Qd := fun H' => Q (.ref D) H') w (fun i H' => ∃ G' acc, Env J.K O G' H' σ (ρ1 ++ [.mu D (.lst acc)]) ∧ Same G1 G' ∧ acc.length ≤ i ∧ I i acc) ⟨G1, [], E1.push (u := .mu D (.lst [])) (same_new hD _) hD rfl ⟨gD, [], upd_same, .nil⟩, fun _ _ z => z, Nat.le_refl _, h0⟩
    (fun i H' _ ⟨G', acc, E', g', _⟩ => g'.trans E'.same) (fun i x H' H2 hi ⟨G', acc, E', g', hacc, hI⟩ y => ?_) (fun H' ⟨G', acc, E', g', hacc, hI⟩ => ?_)
  · obtain ⟨t, et⟩ := get_of_lt hi
    -- the state within
    have take_eq : (ρ1 ++ [U.mu D (.lst acc)]).take J.n = ρ1.take J.n := List.take_append_of_le_length hl
    have inn : ∀ {Gx Hx : Hp} (Ex : Env J.K O Gx Hx σ (ρ1 ++ [.mu D (.lst acc)])), Env J.K ⟨Gx, Hx, fun b => b ∈ own ((ρ1 ++ [U.mu D (.lst acc)]).take J.n)⟩ Gx Hx (wipe σ vs) (wipeU vs (ρ1.take J.n)) := fun {Gx Hx} Ex => by
      have e1 := ((Ex.cut (m := J.n) (by omega)).inner).wipe vs
      rw [take_eq] at e1 ⊢
      exact e1
    have hnw : (wipe σ vs).length = J.n := by rw [wipe_length]; exact hn
    have go : ∀ {Gx Hx : Hp} {x : V}, Env J.K O Gx Hx σ (ρ1 ++ [.mu D (.lst acc)]) → Same G1 Gx → Rep J.K Gx x t → g x (wipe σ vs) Hx fun σ2 H2 => wipe σ2 vs = wipe σ vs ∧ tt σ2 H2 fun b H3 =>
        if b = true then te σ2 H3 fun y H4 => ∃ acc, H4 D = some (.lst acc) ∧ acc.length < sizeLine ∧ (∃ G' acc', Env J.K O G' (upd H4 D (.lst (acc ++ [y]))) σ (ρ1 ++ [.mu D (.lst acc')]) ∧ Same G1 G' ∧ acc'.length ≤ i + 1 ∧ I (i + 1) acc')
        else (∃ G' acc, Env J.K O G' H3 σ (ρ1 ++ [.mu D (.lst acc)]) ∧ Same G1 G' ∧ acc.length ≤ i + 1 ∧ I (i + 1) acc) := fun {Gx Hx x} Ex gx rx => by
      have q1 := hs i t acc et hI _ (wipe σ vs) Gx Hx x (fun σ2 H2 => tt σ2 H2 fun b H3 =>
        if b = true then te σ2 H3 fun y H4 => ∃ acc, H4 D = some (.lst acc) ∧ acc.length < sizeLine ∧ (∃ G' acc', Env J.K O G' (upd H4 D (.lst (acc ++ [y]))) σ (ρ1 ++ [.mu D (.lst acc')]) ∧ Same G1 G' ∧ acc'.length ≤ i + 1 ∧ I (i + 1) acc')
        else (∃ G' acc, Env J.K O G' H3 σ (ρ1 ++ [.mu D (.lst acc)]) ∧ Same G1 G' ∧ acc.length ≤ i + 1 ∧ I (i + 1) acc)) hnw (inn Ex) rx (fun σ2 G2 H2 ρ2 hn2 E2 g2 q2 => ?_) xok_q
      · have q3 := gk x (wipe σ vs) Hx _ q1
        rw [wipe_wipe σ vs vs fun v hv => hv] at q3
        exact q3
      · refine q2 _ σ2 G2 H2 _ hn2 E2 ⟨fun b G3 H3 ρ3 ⟨qt, qf⟩ E3 g3 => ?_, xok_q⟩
        have kp : ∀ {Gz Hz : Hp} {ρz : List U}, Env J.K ⟨Gx, Hx, fun b => b ∈ own ((ρ1 ++ [U.mu D (.lst acc)]).take J.n)⟩ Gz Hz σ2 ρz → Kps J.n ρ1 ρz → Env J.K O Gz Hz σ (ρ1 ++ [.mu D (.lst acc)]) := fun {Gz Hz ρz} Ez kz =>
          Ex.back (m := J.n) Ez fun k u hk hu ha => by
            rw [List.getElem?_append_left (by omega)] at hu
            exact kz.get k u hk hu ha
        cases b with
        | false =>
          obtain ⟨k3, hI3⟩ := qf rfl
          exact ⟨G3, acc, kp E3 k3, gx.trans (g2.trans g3), by omega, hI3⟩
        | true =>
          refine qt rfl _ σ2 G3 H3 _ hn2 E3 ⟨fun y r G4 H4 ρ4 ⟨u, ρ5, f, k5, hI5⟩ E4 ry g4 => ?_, xok_q⟩
          obtain ⟨G5, g5, E5, r5⟩ := f.ok hn2 E4 ry
          have Eo := kp E5 k5
          obtain ⟨_, av, eav, rav⟩ := Eo.ob ρ1.length _ get_last
          refine ⟨av, eav, by rw [rav.len]; exact small_acc (m := i + 1) (by omega) (by omega), G5, acc ++ [u], ?_, gx.trans (g2.trans (g3.trans (g4.trans g5))), by rw [List.length_append]; show acc.length + 1 ≤ i + 1; omega, hI5⟩
          have Ew := Eo.write (t' := .lst (acc ++ [u])) get_last (.lst (av ++ [y])) ⟨_, upd_same, rav.app (.one r5)⟩
          rw [set_last] at Ew
          exact Ew
    rcases hy i G' H' x H2 t g' ((E'.cut (m := ρ1.length) (by omega)).same) y et with ⟨rfl, r⟩ | ⟨p, ws, us, np, rfl, rfl, rfl, r⟩
    · exact go E' g' r
    · obtain ⟨Ea, ga⟩ := E'.alloc np (.tup ws)
      exact go Ea (g'.trans ga) (.tup (SqT.of upd_same) (r.mono ga))
  · exact c.v _ _ G' H' _ (hd acc hI D) E' rfl (g1.trans g')
end
end Tr
namespace Tr
open PySem L2 Vk
section
variable {K : PySem.W.Frag} {J : Jd} {ρ ρ1 ρ2 : List U} {Φ : R → List U → Prop} {te ta tb : TE} {i j k : Nat} {t t1 t2 u : T} {ts us : List T} {a b : Addr} {x y z : Int}
/-! ### comprehensions, simple ones -/
/-- one value for each item, told by its place -/
theorem ev_lc {wi : TI} {g : TG} {vs : List Nat} {f : Nat → T} (gk : GOk g vs)
    (h : EvI J wi ρ fun ts ρ1 => J.n ≤ ρ1.length ∧ ts.length ≤ 100000 ∧
      (∀ (i : Nat) t, ts[i]? = some t → EvG J.q g (.sh t) (wipeU vs (ρ1.take J.n)) fun ρ2 => EvE J.q te ρ2 fun r ρ4 => ∃ ρ5, Fz J.n r ρ4 (f i) ρ5 ∧ Kps J.n ρ1 ρ5) ∧
      Φ (.sh (.lst ((List.range ts.length).map f))) ρ1) : EvE J (tLc wi g tYes te vs) ρ Φ := by
  refine ev_fz (evm_lc gk ?_)
  intro O σ G H R hn E c xo
  refine h O σ G H R hn E (fun ts I G1 H1 ρ1 ⟨hl, h5, hs, q⟩ E1 g1 w => ?_) xo
  refine c ts I G1 H1 ρ1 ⟨hl, h5, fun i acc => acc = (List.range i).map f, rfl, fun i t acc et e => ?_, fun acc e p => ?_⟩ E1 g1 w
  · subst e
    refine fun O σ G H v Q hn E hv c xo => hs i t et O σ G H v Q hn E hv (fun σ' G' H' ρ2 hn' E' g' q2 => c σ' G' H' ρ2 hn' E' g' (et_yes ⟨fun _ => ev_mono q2 fun r ρ4 ⟨ρ5, f5, k5⟩ => ⟨f i, ρ5, f5, k5, by dsimp only; rw [List.range_succ, List.map_append]; rfl⟩, fun z => by cases z⟩)) xo
  · subst e
    exact ⟨_, ρ1, .new rfl hl, q⟩
/-- the same, a new list of one's own -/
theorem evm_lcN {wi : TI} {g : TG} {vs : List Nat} {f : Nat → T} (gk : GOk g vs)
    (h : EvI J wi ρ fun ts ρ1 => J.n ≤ ρ1.length ∧ ts.length ≤ 100000 ∧
      (∀ (i : Nat) t, ts[i]? = some t → EvG J.q g (.sh t) (wipeU vs (ρ1.take J.n)) fun ρ2 => EvE J.q te ρ2 fun r ρ4 => ∃ ρ5, Fz J.n r ρ4 (f i) ρ5 ∧ Kps J.n ρ1 ρ5) ∧
      ∀ p, Φ (.mr ρ1.length p) (ρ1 ++ [.mu p (.lst ((List.range ts.length).map f))])) : EvM J (tLc wi g tYes te vs) ρ Φ := by
  refine evm_lc gk ?_
  intro O σ G H R hn E c xo
  refine h O σ G H R hn E (fun ts I G1 H1 ρ1 ⟨hl, h5, hs, q⟩ E1 g1 w => ?_) xo
  refine c ts I G1 H1 ρ1 ⟨hl, h5, fun i acc => acc = (List.range i).map f, rfl, fun i t acc et e => ?_, fun acc e p => ?_⟩ E1 g1 w
  · subst e
    refine fun O σ G H v Q hn E hv c xo => hs i t et O σ G H v Q hn E hv (fun σ' G' H' ρ2 hn' E' g' q2 => c σ' G' H' ρ2 hn' E' g' (et_yes ⟨fun _ => ev_mono q2 fun r ρ4 ⟨ρ5, f5, k5⟩ => ⟨f i, ρ5, f5, k5, by dsimp only; rw [List.range_succ, List.map_append]; rfl⟩, fun z => by cases z⟩)) xo
  · subst e
    exact q p
/-- values that are not told, with a property each -/
theorem ev_lcP {wi : TI} {g : TG} {vs : List Nat} (P : Nat → T → Prop) (gk : GOk g vs)
    (h : EvI J wi ρ fun ts ρ1 => J.n ≤ ρ1.length ∧ ts.length ≤ 100000 ∧
      (∀ (i : Nat) t, ts[i]? = some t → EvG J.q g (.sh t) (wipeU vs (ρ1.take J.n)) fun ρ2 => EvE J.q te ρ2 fun r ρ4 => ∃ u ρ5, Fz J.n r ρ4 u ρ5 ∧ Kps J.n ρ1 ρ5 ∧ P i u) ∧
      ∀ us, us.length = ts.length → (∀ (i : Nat) u, us[i]? = some u → P i u) → Φ (.sh (.lst us)) ρ1) : EvE J (tLc wi g tYes te vs) ρ Φ := by
  refine ev_fz (evm_lc gk ?_)
  intro O σ G H R hn E c xo
  refine h O σ G H R hn E (fun ts I G1 H1 ρ1 ⟨hl, h5, hs, q⟩ E1 g1 w => ?_) xo
  refine c ts I G1 H1 ρ1 ⟨hl, h5, fun i acc => acc.length = i ∧ ∀ (j : Nat) u, acc[j]? = some u → P j u, ⟨rfl, fun j u e => by simp at e⟩, fun i t acc et e => ?_, fun acc e p => ?_⟩ E1 g1 w
  · refine fun O σ G H v Q hn E hv c xo => hs i t et O σ G H v Q hn E hv (fun σ' G' H' ρ2 hn' E' g' q2 => c σ' G' H' ρ2 hn' E' g' (et_yes ⟨fun _ => ev_mono q2 fun r ρ4 ⟨u, ρ5, f5, k5, p5⟩ => ⟨u, ρ5, f5, k5, ?_, fun j w ew => ?_⟩, fun z => by cases z⟩)) xo
    · rw [List.length_append, e.1]
      rfl
    · by_cases cj : j < acc.length
      · rw [List.getElem?_append_left cj] at ew
        exact e.2 j w ew
      · rw [List.getElem?_append_right (by omega)] at ew
        cases q : j - acc.length with
        | zero =>
          rw [q] at ew
          have : u = w := Option.some.inj ew
          subst this
          have : j = i := by have := e.1; omega
          subst this
          exact p5
        | succ m => rw [q] at ew; simp at ew
  · exact ⟨_, ρ1, .new rfl hl, q acc e.1 e.2⟩
theorem evm_lcP {wi : TI} {g : TG} {vs : List Nat} (P : Nat → T → Prop) (gk : GOk g vs)
    (h : EvI J wi ρ fun ts ρ1 => J.n ≤ ρ1.length ∧ ts.length ≤ 100000 ∧
      (∀ (i : Nat) t, ts[i]? = some t → EvG J.q g (.sh t) (wipeU vs (ρ1.take J.n)) fun ρ2 => EvE J.q te ρ2 fun r ρ4 => ∃ u ρ5, Fz J.n r ρ4 u ρ5 ∧ Kps J.n ρ1 ρ5 ∧ P i u) ∧
      ∀ us, us.length = ts.length → (∀ (i : Nat) u, us[i]? = some u → P i u) → ∀ p, Φ (.mr ρ1.length p) (ρ1 ++ [.mu p (.lst us)])) : EvM J (tLc wi g tYes te vs) ρ Φ := by
  refine evm_lc gk ?_
  intro O σ G H R hn E c xo
  refine h O σ G H R hn E (fun ts I G1 H1 ρ1 ⟨hl, h5, hs, q⟩ E1 g1 w => ?_) xo
  refine c ts I G1 H1 ρ1 ⟨hl, h5, fun i acc => acc.length = i ∧ ∀ (j : Nat) u, acc[j]? = some u → P j u, ⟨rfl, fun j u e => by simp at e⟩, fun i t acc et e => ?_, fun acc e p => ?_⟩ E1 g1 w
  · refine fun O σ G H v Q hn E hv c xo => hs i t et O σ G H v Q hn E hv (fun σ' G' H' ρ2 hn' E' g' q2 => c σ' G' H' ρ2 hn' E' g' (et_yes ⟨fun _ => ev_mono q2 fun r ρ4 ⟨u, ρ5, f5, k5, p5⟩ => ⟨u, ρ5, f5, k5, ?_, fun j w ew => ?_⟩, fun z => by cases z⟩)) xo
    · rw [List.length_append, e.1]
      rfl
    · by_cases cj : j < acc.length
      · rw [List.getElem?_append_left cj] at ew
        exact e.2 j w ew
      · rw [List.getElem?_append_right (by omega)] at ew
        cases q : j - acc.length with
        | zero =>
          rw [q] at ew
          have : u = w := Option.some.inj ew
          subst this
          have : j = i := by have := e.1; omega
          subst this
          exact p5
        | succ m => rw [q] at ew; simp at ew
  · exact q acc e.1 e.2 p
/-- with a test: what is kept is told by the place -/
theorem ev_lcF {wi : TI} {g : TG} {tt : TT} {vs : List Nat} {f : Nat → T} (c : Nat → Bool) (gk : GOk g vs)
    (h : EvI J wi ρ fun ts ρ1 => J.n ≤ ρ1.length ∧ ts.length ≤ 100000 ∧
      (∀ (i : Nat) t, ts[i]? = some t → EvG J.q g (.sh t) (wipeU vs (ρ1.take J.n)) fun ρ2 => EvT J.q tt ρ2 fun b ρ3 => b = c i ∧ (c i = true → EvE J.q te ρ3 fun r ρ4 => ∃ ρ5, Fz J.n r ρ4 (f i) ρ5 ∧ Kps J.n ρ1 ρ5) ∧ Kps J.n ρ1 ρ3) ∧
      Φ (.sh (.lst (((List.range ts.length).filter c).map f))) ρ1) : EvE J (tLc wi g tt te vs) ρ Φ := by
  refine ev_fz (evm_lc gk ?_)
  intro O σ G H R hn E cc xo
  refine h O σ G H R hn E (fun ts I G1 H1 ρ1 ⟨hl, h5, hs, q⟩ E1 g1 w => ?_) xo
  refine cc ts I G1 H1 ρ1 ⟨hl, h5, fun i acc => acc = ((List.range i).filter c).map f, rfl, fun i t acc et e => ?_, fun acc e p => ?_⟩ E1 g1 w
  · subst e
    refine fun O σ G H v Q hn E hv c3 xo => hs i t et O σ G H v Q hn E hv (fun σ' G' H' ρ2 hn' E' g' q2 => c3 σ' G' H' ρ2 hn' E' g' ?_) xo
    refine fun O σ G H Q hn E c4 => q2 O σ G H Q hn E ⟨fun b G' H' ρ3 ⟨eb, q3, k3⟩ E' g' => c4.v b G' H' ρ3 ⟨fun hb => ?_, fun hb => ⟨k3, ?_⟩⟩ E' g', c4.x⟩
    · refine ev_mono (q3 (eb ▸ hb)) fun r ρ4 ⟨ρ5, f5, k5⟩ => ⟨f i, ρ5, f5, k5, ?_⟩
      dsimp only
      rw [List.range_succ, List.filter_append, List.map_append]
      rw [show List.filter c [i] = [i] by simp [← eb, hb]]
      rfl
    · dsimp only
      rw [List.range_succ, List.filter_append, List.map_append]
      rw [show List.filter c [i] = [] by simp [← eb, hb]]
      rw [List.map_nil, List.append_nil]
  · subst e
    exact ⟨_, ρ1, .new rfl hl, q⟩
theorem eg_norm {g : TG} {r : R} {N : List U → Prop} (e : ρ = ρ1) (h : EvG J g r ρ1 N) : EvG J g r ρ N := e ▸ h
/-! ### None -/
def isN : T → Bool
  | .non => true
  | _ => false
theorem isN_ok {G : Hp} {v : V} (h : Rep K G v t) : decide (v = .non) = isN t := by
  cases h <;> simp [isN]
theorem rd_isN (q : Φ (.sh (.bl (isN t))) ρ) : Rd2 J (fun x y H Q => y = .non ∧ Q (.bl (decide (x = .non))) H) (.sh t) (.sh .non) ρ Φ := by
  intro O σ G H Q v w hn E hv hw c
  cases hw
  exact ⟨rfl, by rw [isN_ok hv]; exact c.here E q (.bl _)⟩
theorem rd_notN (q : Φ (.sh (.bl (!isN t))) ρ) : Rd2 J (fun x y H Q => y = .non ∧ Q (.bl (!decide (x = .non))) H) (.sh t) (.sh .non) ρ Φ := by
  intro O σ G H Q v w hn E hv hw c
  cases hw
  exact ⟨rfl, by rw [isN_ok hv]; exact c.here E q (.bl _)⟩
/-! ### isinstance -/
def tyN : T → Option String
  | .non => some "NoneType"
  | .bl _ => some "bool"
  | .int _ => some "int"
  | .str _ => some "str"
  | .lst _ => some "list"
  | .cl _ => some "list"
  | .tup _ => some "tuple"
  | .dk _ => some "dict"
  | .dt _ => some "dict"
  | _ => none
theorem tyx {G H : Hp} {v : V} {n : String} (h : Rep K G v t) (s : Same G H) (e : tyN t = some n) : TyX K H v (.type n) := by
  cases h with
  | non => cases e; exact .base .non
  | bl b => cases e; exact .base (.bl b)
  | int i => cases e; exact .base (.int i)
  | str x => cases e; exact .base (.str x)
  | lst h _ => cases e; exact .base (.lst (s _ _ h))
  | cl h _ =>
    cases e
    rcases h with (h | ⟨o, h⟩) | ⟨o, its, m, h, hc, _⟩
    · exact .base (.lst (s _ _ h))
    · exact .base (.frz (s _ _ h))
    · exact .kList h hc
  | tup h _ =>
    cases e
    rcases h with (h | ⟨o, h⟩) | ⟨o, its, m, h, hc, _⟩
    · exact .base (.tup (s _ _ h))
    · exact .fTuple (s _ _ h)
    · exact .kTuple h hc
  | dk h _ _ => cases e; exact .base (.dK (s _ _ h))
  | dt h _ _ => cases e; exact .base (.dT (s _ _ h))
  | _ => cases e
theorem rl_isi {n m : String} {r : Bool} (e : tyN t = some n) (h : kitB n m = some r) (q : Φ (.sh (.bl r)) ρ) : RdL J (rIsi J.K) [.sh t, .sh (.ty m)] ρ Φ := by
  intro O σ G H Q vs hn E hv c
  cases hv with
  | cons h1 h2 =>
    cases h2 with
    | cons h3 h4 =>
      cases h4
      cases h3
      exact ⟨_, _, _, _, r, rfl, .ty m, tyx h1 E.same e, kit_ty h, c.here E q (.bl _)⟩
theorem rl_isim {n m : String} {r : Bool} (hr : ρ[i]? = some (.mu a (.lst ts))) (h : kitB "list" m = some r) (q : Φ (.sh (.bl r)) ρ) : RdL J (rIsi J.K) [.mr i a, .sh (.ty m)] ρ Φ := by
  intro O σ G H Q vs hn E hv c
  cases hv with
  | cons h1 h2 =>
    cases h2 with
    | cons h3 h4 =>
      cases h4
      cases h3
      cases h1
      obtain ⟨_, vs, e1, _⟩ := E.ob i _ hr
      exact ⟨_, _, _, _, r, rfl, .ty m, .base (.lst e1), kit_ty h, c.here E q (.bl _)⟩
theorem ev_ty {m : String} (q : Φ (.sh (.ty m)) ρ) : EvE J (tC (.ty m)) ρ Φ := fun O σ G H Q hn E c => c.here E q (show Rep J.K G _ _ from .ty m)
theorem ev_obj {C : Addr} (q : Φ (.sh (.obj C)) ρ) : EvE J (tC (.ref C)) ρ Φ := fun O σ G H Q hn E c => c.here E q (show Rep J.K G _ _ from .obj C)
/-! ### one's own list is changed -/
theorem ev_bm {Ty : String} {f : V → List V → Hp → VK → Prop} {to : TE} {tr : TA} (h : EvE J to ρ fun x ρ1 => (∀ O σ G H v, Env J.K O G H σ ρ1 → Val J.K G v x → tyV J.K Ty v H) ∧ EvA J tr ρ1 fun rs ρ2 => RdM J f x rs ρ2 Φ) : EvE J (tBM J.K Ty f to tr) ρ Φ := by
  intro O σ G H Q hn E c
  refine h O σ G H _ hn E ⟨fun v r G1 H1 ρ1 ⟨ty, h1⟩ E1 r1 g1 => ⟨ty O σ G1 H1 v E1 r1, ?_⟩, c.x⟩
  refine h1 O σ G1 H1 _ hn E1 ⟨fun vs rs G2 H2 ρ2 h2 E2 r2 g2 => ?_, c.x.on g1⟩
  exact h2 O σ G2 H2 Q v vs hn E2 (r1.mono g2) r2 ((c.on g1).on g2)
theorem ev_bm0 {Ty : String} {f : V → List V → Hp → VK → Prop} {to : TE} (h : EvE J to ρ fun x ρ1 => (∀ O σ G H v, Env J.K O G H σ ρ1 → Val J.K G v x → tyV J.K Ty v H) ∧ RdM J f x [] ρ1 Φ) : EvE J (tBM0 J.K Ty f to) ρ Φ := by
  intro O σ G H Q hn E c
  refine h O σ G H _ hn E ⟨fun v r G1 H1 ρ1 ⟨ty, h1⟩ E1 r1 g1 => ⟨ty O σ G1 H1 v E1 r1, ?_⟩, c.x⟩
  exact h1 O σ G1 H1 Q v [] hn E1 r1 .nil (c.on g1)
theorem ty_mu (hr : ρ[i]? = some (.mu a (.lst ts))) : ∀ O σ G H v, Env K O G H σ ρ → Val K G v (.mr i a) → tyV K "list" v H := fun O σ G H v E hv => by
  cases hv
  obtain ⟨_, vs, e1, _⟩ := E.ob i _ hr
  exact .inl ⟨rfl, vs, SqL.of e1⟩
theorem ty_lst : ∀ O σ G H v, Env K O G H σ ρ → Val K G v (.sh (.lst ts)) → tyV K "list" v H := fun O σ G H v E hv => by
  cases hv with
  | lst h r => exact .inl ⟨rfl, _, SqL.of (E.same _ _ h)⟩
theorem ty_str {s : Str} : ∀ O σ G H v, Env K O G H σ ρ → Val K G v (.sh (.str s)) → tyV K "str" v H := fun O σ G H v E hv => by
  cases hv
  rfl
theorem ty_dk {ks : List (Key × T)} : ∀ O σ G H v, Env K O G H σ ρ → Val K G v (.sh (.dk ks)) → tyV K "dict" v H := fun O σ G H v E hv => by
  cases hv with
  | dk h e r => exact .inr (.inr (.inl ⟨rfl, .inl ⟨_, E.same _ _ h⟩⟩))
theorem ty_mdk {ks : List (Key × T)} (hr : ρ[i]? = some (.mu a (.dk ks))) : ∀ O σ G H v, Env K O G H σ ρ → Val K G v (.mr i a) → tyV K "dict" v H := fun O σ G H v E hv => by
  cases hv
  obtain ⟨_, vs, e1, _⟩ := E.ob i _ hr
  exact .inr (.inr (.inl ⟨rfl, .inl ⟨_, e1⟩⟩))
theorem ty_mdt {ks : List (List Key × T)} (hr : ρ[i]? = some (.mu a (.dt ks))) : ∀ O σ G H v, Env K O G H σ ρ → Val K G v (.mr i a) → tyV K "dict" v H := fun O σ G H v E hv => by
  cases hv
  obtain ⟨_, vs, e1, _⟩ := E.ob i _ hr
  exact .inr (.inr (.inl ⟨rfl, .inr ⟨_, e1⟩⟩))
theorem rm_append {r : R} (f : Fz J.n r ρ t ρ1) (hr : ρ1[i]? = some (.mu a (.lst ts))) (hl : ts.length < 100000) (q : Φ (.sh .non) (ρ1.set i (.mu a (.lst (ts ++ [t]))))) : RdM J rAppend (.mr i a) [r] ρ Φ := by
  intro O σ G H Q v vs hn E hv hvs c
  cases hv
  cases hvs with
  | cons h1 h2 =>
    cases h2
    obtain ⟨G', g', E', r'⟩ := f.ok hn E h1
    obtain ⟨_, xs, e1, rx⟩ := E'.ob i _ hr
    refine ⟨a, xs, _, rfl, rfl, e1, by rw [rx.len]; exact small_acc hl (Nat.le_refl _), ?_⟩
    exact c.v _ (.sh .non) G' _ _ q (E'.write hr _ ⟨_, upd_same, rx.app (.one r')⟩) .non g'
theorem rm_insert {r : R} (f : Fz J.n r ρ t ρ1) (hr : ρ1[i]? = some (.mu a (.lst ts))) (hl : ts.length < 100000) (z0 : 0 ≤ z) (z1 : z ≤ ts.length) (q : Φ (.sh .non) (ρ1.set i (.mu a (.lst (ts.take z.toNat ++ [t] ++ ts.drop z.toNat))))) :
    RdM J (fun x vs H Q => ∃ (l : Addr) (xs : List V) (i : Int) (y : V), x = .ref l ∧ vs = [.int i, y] ∧ H l = some (.lst xs) ∧ xs.length < sizeLine ∧ 0 ≤ i ∧ i < 2 ^ 63 ∧ Q .non (upd H l (.lst (xs.take i.toNat ++ [y] ++ xs.drop i.toNat)))) (.mr i a) [.sh (.int z), r] ρ Φ := by
  intro O σ G H Q v vs hn E hv hvs c
  cases hv
  cases hvs with
  | cons h1 h2 =>
    cases h1
    cases h2 with
    | cons h3 h4 =>
      cases h4
      obtain ⟨G', g', E', r'⟩ := f.ok hn E h3
      obtain ⟨_, xs, e1, rx⟩ := E'.ob i _ hr
      refine ⟨a, xs, z, _, rfl, rfl, e1, by rw [rx.len]; exact small_acc hl (Nat.le_refl _), z0, by omega, ?_⟩
      exact c.v _ (.sh .non) G' _ _ q (E'.write hr _ ⟨_, upd_same, ((rx.take _).app (.one r')).app (rx.drop _)⟩) .non g'
theorem rm_extend {r : R} (f : Fz J.n r ρ (.lst us) ρ1) (hr : ρ1[i]? = some (.mu a (.lst ts))) (hl : ts.length + us.length ≤ 100000) (q : Φ (.sh .non) (ρ1.set i (.mu a (.lst (ts ++ us))))) : RdM J rExtend (.mr i a) [r] ρ Φ := by
  intro O σ G H Q v vs hn E hv hvs c
  cases hv
  cases hvs with
  | cons h1 h2 =>
    cases h2
    obtain ⟨G', g', E', r'⟩ := f.ok hn E h1
    obtain ⟨_, xs, e1, rx⟩ := E'.ob i _ hr
    cases r' with
    | lst h3 r3 =>
      refine ⟨a, _, xs, _, rfl, rfl, e1, E'.same _ _ h3, by rw [rx.len, r3.len, sizeLine_eq]; omega, ?_⟩
      exact c.v _ (.sh .non) G' _ _ q (E'.write hr _ ⟨_, upd_same, rx.app r3⟩) .non g'
/-! ### rows joined, cut -/
theorem rd_cat {r q : R} (f1 : Fz J.n r ρ (.lst ts) ρ1) (f2 : Fz J.n q ρ1 (.lst us) ρ2) (hl : ts.length + us.length ≤ 100000) (h : Φ (.sh (.lst (ts ++ us))) ρ2) : Rd2 J rCat r q ρ Φ := by
  intro O σ G H Q v w hn E hv hw c
  obtain ⟨G1, g1, E1, r1⟩ := f1.ok hn E hv
  obtain ⟨G2, g2, E2, r2⟩ := f2.ok hn E1 (hw.mono g1)
  have r1 := Rep.mono g2 r1
  cases r1 with
  | lst h1 l1 =>
    cases r2 with
    | lst h2 l2 =>
      refine ⟨_, _, _, _, rfl, rfl, E2.same _ _ h1, E2.same _ _ h2, by rw [l1.len, l2.len, sizeLine_eq]; omega, fun p np => ?_⟩
      exact (c.on (g1.trans g2)).lst E2 np (l1.app l2) h
def cutT (xs : List T) (lo hi : Option Int) : List T := (xs.drop (HT.sIx xs.length 0 lo)).take (HT.sIx xs.length xs.length hi - HT.sIx xs.length 0 lo)
theorem RepL.cut {G : Hp} {vs : List V} (r : RepL K G vs ts) (lo hi : Option Int) : RepL K G (cutV vs lo hi) (cutT ts lo hi) := by
  unfold cutV cutT
  rw [r.len]
  exact (r.drop _).take _
/-- parts of a slice -/
def EvO (J : Jd) (to : TO) (ρ : List U) (Φ : Option Int → List U → Prop) : Prop := ∀ O σ G H (Q : Option Int → Hp → Prop), σ.length = J.n → Env J.K O G H σ ρ → (∀ o G' H' ρ', Φ o ρ' → Env J.K O G' H' σ ρ' → Same G G' → Q o H') → XOk J O G → to σ H Q
theorem eo_none {Φ : Option Int → List U → Prop} (q : Φ none ρ) : EvO J tNoPart ρ Φ := fun O σ G H Q hn E c xo => c none G H ρ q E fun _ _ z => z
theorem eo_some {Φ : Option Int → List U → Prop} (h : EvE J te ρ fun r ρ1 => ∃ z : Int, r = .sh (.int z) ∧ Φ (some z) ρ1) : EvO J (tPart te) ρ Φ := by
  intro O σ G H Q hn E c xo
  refine h O σ G H _ hn E ⟨fun v r G1 H1 ρ1 ⟨z, e, q⟩ E1 r1 g1 => ?_, xo⟩
  subst e
  cases r1
  exact ⟨z, rfl, c _ G1 H1 ρ1 q E1 g1⟩
theorem ev_sl {f : V → Option Int → Option Int → Hp → VK → Prop} {tl th : TO} (h : EvE J te ρ fun r ρ1 => EvO J tl ρ1 fun lo ρ2 => EvO J th ρ2 fun hi ρ3 => Rd1 J (fun x => f x lo hi) r ρ3 Φ) : EvE J (tSl f te tl th) ρ Φ := by
  intro O σ G H Q hn E c
  refine h O σ G H _ hn E ⟨fun v r G1 H1 ρ1 h1 E1 r1 g1 => ?_, c.x⟩
  refine h1 O σ G1 H1 _ hn E1 (fun lo G2 H2 ρ2 h2 E2 g2 => ?_) (c.x.on g1)
  refine h2 O σ G2 H2 _ hn E2 (fun hi G3 H3 ρ3 h3 E3 g3 => ?_) ((c.x.on g1).on g2)
  exact h3 O σ G3 H3 Q v hn E3 ((r1.mono g2).mono g3) (((c.on g1).on g2).on g3)
theorem rd_slL {lo hi : Option Int} (e : u = .lst ts ∨ u = .cl ts) (q : Φ (.sh (.lst (cutT ts lo hi))) ρ) : Rd1 J (fun x => rSlL J.K x lo hi) (.sh u) ρ Φ := by
  intro O σ G H Q v hn E hv c
  rcases e with rfl | rfl
  · cases hv with
    | lst h r => exact ⟨_, _, rfl, SqL.of (E.same _ _ h), fun p np => c.lst E np (r.cut lo hi) q⟩
  · cases hv with
    | cl h r => exact ⟨_, _, rfl, E.same.seq h, fun p np => c.lst E np (r.cut lo hi) q⟩
theorem rd_slm {lo hi : Option Int} (hr : ρ[i]? = some (.mu a (.lst ts))) (q : Φ (.sh (.lst (cutT ts lo hi))) ρ) : Rd1 J (fun x => rSlL J.K x lo hi) (.mr i a) ρ Φ := by
  intro O σ G H Q v hn E hv c
  cases hv
  obtain ⟨_, xs, e1, rx⟩ := E.ob i _ hr
  exact ⟨_, _, rfl, SqL.of e1, fun p np => c.lst E np (rx.cut lo hi) q⟩
theorem rd_slT {lo hi : Option Int} (nw : ¬ (HT.sIx ts.length 0 lo = 0 ∧ HT.sIx ts.length ts.length hi = ts.length)) (q : Φ (.sh (.tup (cutT ts lo hi))) ρ) : Rd1 J (fun x => rSlT J.K x lo hi) (.sh (.tup ts)) ρ Φ := by
  intro O σ G H Q v hn E hv c
  cases hv with
  | tup h r => exact ⟨_, _, rfl, Vk.Same.tup E.same h, by rw [r.len]; exact nw, fun p np => c.tup E np (r.cut lo hi) q⟩
end
end Tr
namespace Tr
open PySem L2 Vk
/-! ### promises -/
/-- how a parameter is handed over: a tree, one's own object, a feed -/
inductive PK | pu | mt | fe
inductive ArgsOk (K : PySem.W.Frag) (G H : Hp) : List PK → List V → List T → List Addr → Prop
  | nil : ArgsOk K G H [] [] [] []
  | pu {ks vs ts as} {v : V} {t : T} : Rep K G v t → ArgsOk K G H ks vs ts as → ArgsOk K G H (.pu :: ks) (v :: vs) (t :: ts) as
  | mt {ks vs ts as} {a : Addr} {t : T} : G a = none → MRep K G H a t → ArgsOk K G H ks vs ts as → ArgsOk K G H (.mt :: ks) (.ref a :: vs) (t :: ts) (a :: as)
  | fe {ks vs ts as} {a : Addr} : G a = none → Fd H a → ArgsOk K G H ks vs ts as → ArgsOk K G H (.fe :: ks) (.ref a :: vs) (.non :: ts) (a :: as)
inductive OutsOk (K : PySem.W.Frag) (G H : Hp) : List PK → List Addr → List T → Prop
  | nil : OutsOk K G H [] [] []
  | pu {ks as us} : OutsOk K G H ks as us → OutsOk K G H (.pu :: ks) as us
  | mt {ks as us} {a : Addr} {u : T} : G a = none → MRep K G H a u → OutsOk K G H ks as us → OutsOk K G H (.mt :: ks) (a :: as) (u :: us)
  | fe {ks as us} {a : Addr} : G a = none → Fd H a → OutsOk K G H ks as us → OutsOk K G H (.fe :: ks) (a :: as) us
/-- what a def leaves of its caller's heap -/
structure Fr (G H G' H' : Hp) (as : List Addr) : Prop where
  g : Same G G'
  h : Same G' H'
  keep : ∀ b o, H b = some o → b ∉ as → H' b = some o
  dom : ∀ b, H b ≠ none → H' b ≠ none
  nofrz : ∀ b, H b ≠ none → b ∉ as → G b = none → G' b = none
/-- what is handed over is asked by Wp: of the trees, what is wanted of the answer (and of the objects that were one's own), what is wanted of an exception -/
abbrev WpT := List T → (T → List T → Prop) → (Xc → Prop) → Prop
def spW (K : PySem.W.Frag) (ks : List PK) (Wp : WpT) : Sp := fun vs H Q E => ∃ G ts as Φ Ψ, Same G H ∧ ArgsOk K G H ks vs ts as ∧ as.Nodup ∧ Wp ts Φ Ψ ∧
  (∀ v t us G' H', Φ t us → Fr G H G' H' as → Rep K G' v t → OutsOk K G' H' ks as us → Q v H') ∧ ∀ cls d x G' H', Ψ x → Fr G H G' H' as → XRep K G' cls d x → E cls d H'
/-- the answer is an object of one's own -/
def spN (K : PySem.W.Frag) (ks : List PK) (Wp : WpT) : Sp := fun vs H Q E => ∃ G ts as Φ Ψ, Same G H ∧ ArgsOk K G H ks vs ts as ∧ as.Nodup ∧ Wp ts Φ Ψ ∧
  (∀ p t us G' H', Φ t us → Fr G H G' H' as → H p = none → G' p = none → MRep K G' H' p t → OutsOk K G' H' ks as us → Q (.ref p) H') ∧ ∀ cls d x G' H', Ψ x → Fr G H G' H' as → XRep K G' cls d x → E cls d H'
/-- how many are no trees -/
def nAd : List PK → Nat
  | [] => 0
  | .pu :: ks => nAd ks
  | _ :: ks => nAd ks + 1
def initU : List PK → List Addr → List T → List U
  | .pu :: ks, as, t :: ts => .sh t :: initU ks as ts
  | .mt :: ks, a :: as, t :: ts => .mu a t :: initU ks as ts
  | .fe :: ks, a :: as, _ :: ts => .fd a :: initU ks as ts
  | _, _, _ => []
/-- the objects handed over, at the end -/
def FinU : List PK → List Addr → List U → (List T → Prop) → Prop
  | .pu :: ks, as, _ :: ρ, k => FinU ks as ρ k
  | .mt :: ks, a :: as, u :: ρ, k => ∃ t, u = .mu a t ∧ FinU ks as ρ fun us => k (t :: us)
  | .fe :: ks, a :: as, u :: ρ, k => u = .fd a ∧ FinU ks as ρ k
  | [], [], _, k => k []
  | _, _, _, _ => False
section
variable {K : PySem.W.Frag} {J : Jd} {O : Out} {G H G' H' : Hp} {σ : List (Option V)} {ρ ρ1 ρ2 : List U} {Φ : R → List U → Prop} {te ta tb : TE} {i j k n : Nat} {t t1 t2 u : T} {ts us : List T} {a b : Addr} {as : List Addr} {x y z : Int} {ks : List PK} {vs : List V}
theorem as0 {as : List Addr} (h : as.length = 0) : as = [] := List.length_eq_zero_iff.mp h
theorem as1 {as : List Addr} (h : as.length = 1) : ∃ a, as = [a] := by
  match as, h with
  | [a], _ => exact ⟨a, rfl⟩
theorem as2 {as : List Addr} (h : as.length = 2) : ∃ a b, as = [a, b] := by
  match as, h with
  | [a, b], _ => exact ⟨a, b, rfl⟩
theorem bl_t {b : Bool} {Φ : T → List T → Prop} {us : List T} (e : b = true) (q : Φ (.bl true) us) : Φ (.bl b) us := e ▸ q
theorem bl_f {b : Bool} {Φ : T → List T → Prop} {us : List T} (e : b = false) (q : Φ (.bl false) us) : Φ (.bl b) us := e ▸ q
theorem tr_e {t u : T} {Φ : T → List T → Prop} {us : List T} (e : t = u) (q : Φ u us) : Φ t us := e ▸ q
theorem ArgsOk.len (h : ArgsOk K G H ks vs ts as) : vs.length = ks.length ∧ ts.length = ks.length := by
  induction h with
  | nil => exact ⟨rfl, rfl⟩
  | pu _ _ ih => exact ⟨congrArg (· + 1) ih.1, congrArg (· + 1) ih.2⟩
  | mt _ _ _ ih => exact ⟨congrArg (· + 1) ih.1, congrArg (· + 1) ih.2⟩
  | fe _ _ _ ih => exact ⟨congrArg (· + 1) ih.1, congrArg (· + 1) ih.2⟩
theorem ArgsOk.alen (h : ArgsOk K G H ks vs ts as) : as.length = nAd ks := by
  induction h with
  | nil => rfl
  | pu _ _ ih => exact ih
  | mt _ _ _ ih => exact congrArg (· + 1) ih
  | fe _ _ _ ih => exact congrArg (· + 1) ih
theorem ArgsOk.ilen (h : ArgsOk K G H ks vs ts as) : (initU ks as ts).length = ks.length := by
  induction h with
  | nil => rfl
  | pu _ _ ih => exact congrArg (· + 1) ih
  | mt _ _ _ ih => exact congrArg (· + 1) ih
  | fe _ _ _ ih => exact congrArg (· + 1) ih
theorem ArgsOk.own (h : ArgsOk K G H ks vs ts as) : Tr.own (initU ks as ts) = as := by
  induction h with
  | nil => rfl
  | pu _ _ ih => exact ih
  | mt _ _ _ ih => exact congrArg (_ :: ·) ih
  | fe _ _ _ ih => exact congrArg (_ :: ·) ih
theorem ArgsOk.slot (h : ArgsOk K G H ks vs ts as) : ∀ (i : Nat) (u : U), (initU ks as ts)[i]? = some u → SlotV K G (vs.map some)[i]? u ∧ ObjU K G H u := by
  induction h with
  | nil => intro i u e; simp [initU] at e
  | pu r _ ih =>
    intro i u e
    cases i with
    | zero => cases e; exact ⟨⟨_, rfl, r⟩, trivial⟩
    | succ i => exact ih i u e
  | mt g m _ ih =>
    intro i u e
    cases i with
    | zero => cases e; exact ⟨rfl, g, m⟩
    | succ i => exact ih i u e
  | fe g m _ ih =>
    intro i u e
    cases i with
    | zero => cases e; exact ⟨rfl, g, m⟩
    | succ i => exact ih i u e
/-- nothing is known of the other slots -/
inductive Blank : List U → Prop
  | nil : Blank []
  | no {ρ : List U} : Blank ρ → Blank (.no :: ρ)
  | nm {ρ : List U} : Blank ρ → Blank (.nm :: ρ)
theorem Blank.get : ∀ {ρ : List U}, Blank ρ → ∀ (i : Nat) (u : U), ρ[i]? = some u → u = .no ∨ u = .nm
  | _, .nil, i, u, e => by simp at e
  | _, .no h, 0, u, e => by simp at e; exact .inl e.symm
  | _, .nm h, 0, u, e => by simp at e; exact .inr e.symm
  | _, .no h, i + 1, u, e => h.get i u (by simpa using e)
  | _, .nm h, i + 1, u, e => h.get i u (by simpa using e)
theorem Blank.own : ∀ {ρ : List U}, Blank ρ → own ρ = []
  | _, .nil => rfl
  | _, .no h => by show Tr.own (.no :: _) = []; rw [own_cons]; exact Blank.own h
  | _, .nm h => by show Tr.own (.nm :: _) = []; rw [own_cons]; exact Blank.own h
/-- the state at the start of a def -/
theorem Env.start {rest : List U} {N : List Str} (s : Same G H) (h : ArgsOk K G H ks vs ts as) (nd : as.Nodup) (hb : Blank rest) (hl : ks.length + rest.length = N.length) : Env K ⟨G, H, fun b => b ∈ as⟩ G H (L2.start N vs) (initU ks as ts ++ rest) := by
  have l1 := h.len.1
  have l2 := h.ilen
  have ls : (L2.start N vs).length = N.length := by
    unfold L2.start
    rw [List.length_append, List.length_map, List.length_replicate]
    omega
  have eo : Tr.own (initU ks as ts ++ rest) = as := by rw [own_app, h.own, hb.own, List.append_nil]
  refine ⟨s, fun _ _ z => z, fun _ _ e _ => e, fun _ n => n, fun _ _ _ e => e, by rw [ls, List.length_append]; omega, fun i u e hi => ?_, fun i u e => ?_, fun a ha => .inr (by rw [eo] at ha; exact ha), by rw [eo]; exact nd⟩
  · by_cases c : i < (initU ks as ts).length
    · rw [List.getElem?_append_left c] at e
      unfold L2.start
      rw [List.getElem?_append_left (by rw [List.length_map]; omega)]
      exact (h.slot i u e).1
    · rw [List.getElem?_append_right (by omega)] at e
      rcases hb.get _ _ e with rfl | rfl <;> trivial
  · by_cases c : i < (initU ks as ts).length
    · rw [List.getElem?_append_left c] at e
      exact (h.slot i u e).2
    · rw [List.getElem?_append_right (by omega)] at e
      rcases hb.get _ _ e with rfl | rfl <;> trivial
/-- what stands of the objects that were handed over -/
theorem fin_outs : ∀ {ks : List PK} {as : List Addr} {ρ : List U} {k : List T → Prop}, (∀ u ∈ ρ, ObjU K G H u) → FinU ks as ρ k → ∃ us, k us ∧ OutsOk K G H ks as us
  | [], [], _, k, _, h => ⟨[], h, .nil⟩
  | [], a :: as, _, k, _, h => False.elim (by simpa [FinU] using h)
  | .pu :: ks, as, u :: ρ, k, ho, h => by
    obtain ⟨us, q, o⟩ := fin_outs (ks := ks) (fun u m => ho u (List.mem_cons_of_mem _ m)) h
    exact ⟨us, q, .pu o⟩
  | .pu :: ks, as, [], k, ho, h => False.elim (by simpa [FinU] using h)
  | .mt :: ks, a :: as, u :: ρ, k, ho, h => by
    obtain ⟨t, e, h⟩ := h
    subst e
    obtain ⟨us, q, o⟩ := fin_outs (ks := ks) (fun u m => ho u (List.mem_cons_of_mem _ m)) h
    obtain ⟨g, m⟩ := ho (.mu a t) (List.mem_cons_self ..)
    exact ⟨t :: us, q, .mt g m o⟩
  | .mt :: ks, [], ρ, k, ho, h => False.elim (by simpa [FinU] using h)
  | .mt :: ks, _ :: _, [], k, ho, h => False.elim (by simpa [FinU] using h)
  | .fe :: ks, a :: as, u :: ρ, k, ho, h => by
    obtain ⟨e, h⟩ := h
    subst e
    obtain ⟨us, q, o⟩ := fin_outs (ks := ks) (fun u m => ho u (List.mem_cons_of_mem _ m)) h
    obtain ⟨g, m⟩ := ho (.fd a) (List.mem_cons_self ..)
    exact ⟨us, q, .fe g m o⟩
  | .fe :: ks, [], ρ, k, ho, h => False.elim (by simpa [FinU] using h)
  | .fe :: ks, _ :: _, [], k, ho, h => False.elim (by simpa [FinU] using h)
theorem fin_at : ∀ {ks : List PK} {as : List Addr} {ρ : List U} {k : List T → Prop}, FinU ks as ρ k → ∀ a ∈ as, ∃ (j : Nat) (u : U), j < ks.length ∧ ρ[j]? = some u ∧ a ∈ u.ads
  | [], [], _, k, _, a, m => by cases m
  | [], a :: as, _, k, h, b, m => False.elim (by simpa [FinU] using h)
  | .pu :: ks, as, u :: ρ, k, h, b, m => by
    obtain ⟨j, w, hj, e, ew⟩ := fin_at (ks := ks) h b m
    exact ⟨j + 1, w, by show j + 1 < ks.length + 1; omega, by simpa using e, ew⟩
  | .pu :: ks, as, [], k, h, b, m => False.elim (by simpa [FinU] using h)
  | .mt :: ks, a :: as, u :: ρ, k, h, b, m => by
    obtain ⟨t, e, h⟩ := h
    subst e
    rcases List.mem_cons.mp m with rfl | m
    · exact ⟨0, _, Nat.succ_pos _, rfl, List.mem_singleton.mpr rfl⟩
    · obtain ⟨j, w, hj, e, ew⟩ := fin_at (ks := ks) h b m
      exact ⟨j + 1, w, by show j + 1 < ks.length + 1; omega, by simpa using e, ew⟩
  | .mt :: ks, [], ρ, k, h, b, m => by cases m
  | .mt :: ks, _ :: _, [], k, h, b, m => False.elim (by simpa [FinU] using h)
  | .fe :: ks, a :: as, u :: ρ, k, h, b, m => by
    obtain ⟨e, h⟩ := h
    subst e
    rcases List.mem_cons.mp m with rfl | m
    · exact ⟨0, _, Nat.succ_pos _, rfl, List.mem_singleton.mpr rfl⟩
    · obtain ⟨j, w, hj, e, ew⟩ := fin_at (ks := ks) h b m
      exact ⟨j + 1, w, by show j + 1 < ks.length + 1; omega, by simpa using e, ew⟩
  | .fe :: ks, [], ρ, k, h, b, m => by cases m
  | .fe :: ks, _ :: _, [], k, h, b, m => False.elim (by simpa [FinU] using h)
theorem Env.fr (E : Env K ⟨G, H, fun b => b ∈ as⟩ G' H' σ ρ) : Fr G H G' H' as := ⟨E.gg, E.same, E.keep, E.dom, E.nofrz⟩
theorem Env.obs (E : Env K O G H σ ρ) : ∀ u ∈ ρ, ObjU K G H u := fun u m => by
  obtain ⟨i, hi⟩ := List.getElem?_of_mem m
  exact E.ob i u hi
/-- a def's body shown: its promise -/
theorem run_W {N : List Str} {n : Nat} {Wp : WpT} {rest : List U} {tS : TS} {H : Hp} {Q : VK} {E : XK} (hN : N.length = n) (hb : Blank rest) (hl : ks.length + rest.length = n)
    (h : ∀ ts as Φ Ψ, ts.length = ks.length → as.length = nAd ks → Wp ts Φ Ψ → EvS ⟨K, n, fun cls d _ H => E cls d H, fun x _ => Ψ x⟩ tS (initU ks as ts ++ rest) { nx := fun ρ => FinU ks as ρ (Φ .non), rt := fun r ρ => ∃ t ρ', Fz n r ρ t ρ' ∧ FinU ks as ρ' (Φ t) })
    (hs : spW K ks Wp vs H Q E) : tS { nx := fun _ H' => Q .non H', rt := Q } (L2.start N vs) H := by
  subst hN
  obtain ⟨G, ts, as, Φ, Ψ, s, ha, nd, w, hq, hx⟩ := hs
  have ls : (L2.start N vs).length = N.length := by
    have l1 := ha.len.1
    unfold L2.start
    rw [List.length_append, List.length_map, List.length_replicate]
    omega
  refine h ts as Φ Ψ ha.len.2 ha.alen w ⟨G, H, fun b => b ∈ as⟩ _ G H _ ls (Env.start s ha nd hb hl) ⟨fun σ G' H' ρ' hn E' g' f => ?_, fun v r σ G' H' ρ' hn E' hv g' ⟨t, ρ2, f, q⟩ => ?_, fun _ _ _ _ _ _ _ z => z.elim, fun _ _ _ _ _ _ _ z => z.elim, fun cls d σ G' H' ρ' x hn E' g' r q => hx cls d x G' H' q E'.fr r⟩
  · obtain ⟨us, q, o⟩ := fin_outs E'.obs f
    exact hq _ .non us G' H' q E'.fr .non o
  · obtain ⟨G2, g2, E2, r2⟩ := f.ok hn E' hv
    obtain ⟨us, q2, o⟩ := fin_outs E2.obs q
    exact hq v t us G2 H' q2 E2.fr r2 o
theorem len_W {ps : List Str} {Wp : WpT} {H : Hp} {Q : VK} {E : XK} (hl : ks.length = ps.length) (hs : spW K ks Wp vs H Q E) : vs.length = ps.length := by
  obtain ⟨G, ts, as, Φ, Ψ, s, ha, _⟩ := hs
  rw [ha.len.1, hl]
theorem len_N {ps : List Str} {Wp : WpT} {H : Hp} {Q : VK} {E : XK} (hl : ks.length = ps.length) (hs : spN K ks Wp vs H Q E) : vs.length = ps.length := by
  obtain ⟨G, ts, as, Φ, Ψ, s, ha, _⟩ := hs
  rw [ha.len.1, hl]
/-- the same, the answer one's own -/
theorem run_N {N : List Str} {n : Nat} {Wp : WpT} {rest : List U} {tS : TS} {H : Hp} {Q : VK} {E : XK} (hN : N.length = n) (hb : Blank rest) (hl : ks.length + rest.length = n)
    (h : ∀ ts as Φ Ψ, ts.length = ks.length → as.length = nAd ks → Wp ts Φ Ψ → EvS ⟨K, n, fun cls d _ H => E cls d H, fun x _ => Ψ x⟩ tS (initU ks as ts ++ rest) { nx := fun _ => False, rt := fun r ρ => ∃ i p t, r = .mr i p ∧ ks.length ≤ i ∧ ρ[i]? = some (.mu p t) ∧ FinU ks as ρ (Φ t) })
    (hs : spN K ks Wp vs H Q E) : tS { nx := fun _ H' => Q .non H', rt := Q } (L2.start N vs) H := by
  subst hN
  obtain ⟨G, ts, as, Φ, Ψ, s, ha, nd, w, hq, hx⟩ := hs
  have ls : (L2.start N vs).length = N.length := by
    have l1 := ha.len.1
    unfold L2.start
    rw [List.length_append, List.length_map, List.length_replicate]
    omega
  refine h ts as Φ Ψ ha.len.2 ha.alen w ⟨G, H, fun b => b ∈ as⟩ _ G H _ ls (Env.start s ha nd hb hl) ⟨fun σ G' H' ρ' hn E' g' f => f.elim, fun v r σ G' H' ρ' hn E' hv g' ⟨i, p, t, e, hki, hi, f⟩ => ?_, fun _ _ _ _ _ _ _ z => z.elim, fun _ _ _ _ _ _ _ z => z.elim, fun cls d σ G' H' ρ' x hn E' g' r q => hx cls d x G' H' q E'.fr r⟩
  subst e
  cases hv
  obtain ⟨us, q, o⟩ := fin_outs E'.obs f
  obtain ⟨gp, mp⟩ := E'.ob i _ hi
  have np : p ∉ as := fun m => by
    obtain ⟨j, u, hj, ej, eu⟩ := fin_at f p m
    have := own_uniq E'.nd ej hi eu (List.mem_singleton.mpr rfl)
    omega
  refine hq p t us G' H' q E'.fr ?_ gp mp o
  exact (E'.mine p (own_mem hi (List.mem_singleton.mpr rfl))).elim id fun z => absurd z np
/-! ### a promise used -/
inductive ArgR (n : Nat) : List PK → List R → List U → List T → List Addr → List Nat → List (Nat × Addr) → List U → Prop
  | nil {ρ : List U} : ArgR n [] [] ρ [] [] [] [] ρ
  | pu {ks rs ρ ρ1 ρ2 ts as is js} {r : R} {t : T} : Fz n r ρ t ρ1 → ArgR n ks rs ρ1 ts as is js ρ2 → ArgR n (.pu :: ks) (r :: rs) ρ (t :: ts) as is js ρ2
  | mt {ks rs ρ ρ2 ts as is js} {i : Nat} {a : Addr} {t : T} : ArgR n ks rs ρ ts as is js ρ2 → ρ2[i]? = some (.mu a t) → ArgR n (.mt :: ks) (.mr i a :: rs) ρ (t :: ts) (a :: as) (i :: is) ((i, a) :: js) ρ2
  | fe {ks rs ρ ρ2 ts as is js} {i : Nat} {a : Addr} : ArgR n ks rs ρ ts as is js ρ2 → ρ2[i]? = some (.fd a) → ArgR n (.fe :: ks) (.mr i a :: rs) ρ (.non :: ts) (a :: as) (i :: is) js ρ2
/-- one's own objects behind the call -/
def updU : List U → List (Nat × Addr) → List T → List U
  | ρ, (i, a) :: js, u :: us => updU (ρ.set i (.mu a u)) js us
  | ρ, _, _ => ρ
theorem ArgR.ok {rs : List R} {is : List Nat} {js : List (Nat × Addr)} (h : ArgR n ks rs ρ ts as is js ρ2) (hn : σ.length = n) : ∀ {G : Hp} {vs : List V}, Env K O G H σ ρ → ValL K G vs rs → ∃ G', Same G G' ∧ Env K O G' H σ ρ2 ∧ ArgsOk K G' H ks vs ts as := by
  induction h with
  | nil =>
    intro G vs E hv
    cases hv
    exact ⟨G, fun _ _ z => z, E, .nil⟩
  | pu f _ ih =>
    intro G vs E hv
    cases hv with
    | cons h1 h2 =>
      obtain ⟨G1, g1, E1, r1⟩ := f.ok hn E h1
      obtain ⟨G2, g2, E2, a2⟩ := ih E1 (h2.mono g1)
      exact ⟨G2, g1.trans g2, E2, .pu (r1.mono g2) a2⟩
  | mt _ hi ih =>
    intro G vs E hv
    cases hv with
    | cons h1 h2 =>
      cases h1
      obtain ⟨G2, g2, E2, a2⟩ := ih E h2
      obtain ⟨ng, m⟩ := E2.ob _ _ hi
      exact ⟨G2, g2, E2, .mt ng m a2⟩
  | fe _ hi ih =>
    intro G vs E hv
    cases hv with
    | cons h1 h2 =>
      cases h1
      obtain ⟨G2, g2, E2, a2⟩ := ih E h2
      obtain ⟨ng, m⟩ := E2.ob _ _ hi
      exact ⟨G2, g2, E2, .fe ng m a2⟩
/-- the places of what is handed over -/
theorem ArgR.at_ {rs : List R} {is : List Nat} {js : List (Nat × Addr)} (h : ArgR n ks rs ρ ts as is js ρ2) : ∀ (m : Nat) (i : Nat), is[m]? = some i → ∃ u a, ρ2[i]? = some u ∧ a ∈ u.ads ∧ as[m]? = some a := by
  induction h with
  | nil => intro m i e; simp at e
  | pu _ _ ih => exact ih
  | mt _ hi ih =>
    intro m i e
    cases m with
    | zero => cases e; exact ⟨_, _, hi, List.mem_singleton.mpr rfl, rfl⟩
    | succ m => exact ih m i e
  | fe _ hi ih =>
    intro m i e
    cases m with
    | zero => cases e; exact ⟨_, _, hi, List.mem_singleton.mpr rfl, rfl⟩
    | succ m => exact ih m i e
theorem ArgR.len {rs : List R} {is : List Nat} {js : List (Nat × Addr)} (h : ArgR n ks rs ρ ts as is js ρ2) : is.length = as.length := by
  induction h with
  | nil => rfl
  | pu _ _ ih => exact ih
  | mt _ _ ih => exact congrArg (· + 1) ih
  | fe _ _ ih => exact congrArg (· + 1) ih
theorem ArgR.nodup {rs : List R} {is : List Nat} {js : List (Nat × Addr)} (h : ArgR n ks rs ρ ts as is js ρ2) (nd : is.Nodup) (no : (own ρ2).Nodup) : as.Nodup := by
  refine List.pairwise_iff_getElem.mpr fun m1 m2 l1 l2 hlt e => ?_
  have l := h.len
  obtain ⟨i1, e1⟩ := get_of_lt (xs := is) (i := m1) (by omega)
  obtain ⟨i2, e2⟩ := get_of_lt (xs := is) (i := m2) (by omega)
  obtain ⟨u1, a1, h1, h2, h3⟩ := h.at_ m1 i1 e1
  obtain ⟨u2, a2, h4, h5, h6⟩ := h.at_ m2 i2 e2
  rw [List.getElem?_eq_getElem l1] at h3
  rw [List.getElem?_eq_getElem l2] at h6
  have ea : a1 = a2 := by
    rw [← Option.some.inj h3, ← Option.some.inj h6]
    exact e
  subst ea
  have ei : i1 = i2 := own_uniq no h1 h4 h2 h5
  subst ei
  have q := List.pairwise_iff_getElem.mp nd m1 m2 (by omega) (by omega) hlt
  rw [List.getElem?_eq_getElem (by omega)] at e1 e2
  exact q ((Option.some.inj e1).trans (Option.some.inj e2).symm)
theorem ArgR.mem {rs : List R} {is : List Nat} {js : List (Nat × Addr)} (h : ArgR n ks rs ρ ts as is js ρ2) : ∀ a ∈ as, a ∈ own ρ2 := fun a ha => by
  obtain ⟨m, hm⟩ := List.getElem?_of_mem ha
  have l := h.len
  obtain ⟨i, e⟩ := get_of_lt (xs := is) (i := m) (by have := lt_of_get hm; omega)
  obtain ⟨u, a', h1, h2, h3⟩ := h.at_ m i e
  rw [hm] at h3
  cases h3
  exact own_mem h1 h2
theorem ArgR.outs {rs : List R} {is : List Nat} {js : List (Nat × Addr)} (h : ArgR n ks rs ρ ts as is js ρ2) : ∀ {us : List T}, OutsOk K G' H' ks as us → us.length = js.length ∧
    ∀ a ∈ as, (G' a = none ∧ Fd H' a ∧ ∃ i : Nat, ρ2[i]? = some (.fd a)) ∨ (∃ (i : Nat) (t u : T), ((i, a), u) ∈ js.zip us ∧ G' a = none ∧ MRep K G' H' a u ∧ ρ2[i]? = some (.mu a t)) := by
  induction h with
  | nil =>
    intro us o
    cases o
    exact ⟨rfl, fun a ha => by cases ha⟩
  | pu _ _ ih =>
    intro us o
    cases o with
    | pu o => exact ih o
  | mt _ hi ih =>
    intro us o
    cases o with
    | mt ng m o =>
      obtain ⟨l, q⟩ := ih o
      refine ⟨congrArg (· + 1) l, fun a ha => ?_⟩
      rcases List.mem_cons.mp ha with rfl | ha
      · exact .inr ⟨_, _, _, List.mem_cons_self .., ng, m, hi⟩
      · exact (q a ha).elim .inl fun ⟨i, t, u, z, r⟩ => .inr ⟨i, t, u, List.mem_cons_of_mem _ z, r⟩
  | fe _ hi ih =>
    intro us o
    cases o with
    | fe ng m o =>
      obtain ⟨l, q⟩ := ih o
      refine ⟨l, fun a ha => ?_⟩
      rcases List.mem_cons.mp ha with rfl | ha
      · exact .inl ⟨ng, m, _, hi⟩
      · exact q a ha
theorem Env.after (E : Env K O G H σ ρ) (f : Fr G H G' H' as) (has : ∀ a ∈ as, a ∈ own ρ) (had : ρ1.map U.ads = ρ.map U.ads) (ho : ∀ (i : Nat) (u : U) a, ρ1[i]? = some u → a ∈ u.ads → a ∈ as → ObjU K G' H' u)
    (hk : ∀ (i : Nat) (u : U), ρ1[i]? = some u → (∀ a, a ∈ u.ads → a ∉ as) → ρ[i]? = some u) : Env K O G' H' σ ρ1 := by
  refine E.step (as := as) f.h f.g f.keep f.dom f.nofrz has had (fun i u hi hl => ?_) fun i u hi => ?_
  · by_cases ea : ∃ a, a ∈ u.ads ∧ a ∈ as
    · obtain ⟨a, ea, ha⟩ := ea
      have e : (ρ1.map U.ads)[i]? = (ρ.map U.ads)[i]? := by rw [had]
      rw [List.getElem?_map, List.getElem?_map, hi] at e
      cases q : ρ[i]? with
      | none => rw [q] at e; cases e
      | some w =>
        rw [q] at e
        have e2 : u.ads = w.ads := Option.some.inj e
        exact (E.at_ i w q hl).ad (E.ob i w q) (ho i u a hi ea ha) e2 (fun z => by rw [z] at ea; cases ea)
    · exact (E.at_ i u (hk i u hi fun a h1 h2 => ea ⟨a, h1, h2⟩) hl).mono f.g
  · by_cases ea : ∃ a, a ∈ u.ads ∧ a ∈ as
    · obtain ⟨a, ea, ha⟩ := ea
      exact ho i u a hi ea ha
    · have hu := hk i u hi fun a h1 h2 => ea ⟨a, h1, h2⟩
      refine (E.ob i u hu).keep f.g fun b eb => ?_
      have c : b ∉ as := fun h => ea ⟨b, eb, h⟩
      obtain ⟨⟨o, eo⟩, ng⟩ := E.there (own_mem hu eb)
      exact ⟨fun o' e' => f.keep _ _ e' c, f.nofrz _ (by rw [eo]; simp) c ng⟩
/-- behind a call to which no object of one's own was handed, but for feeds -/
theorem Env.after0 {rs : List R} {is : List Nat} {us : List T} (E : Env K O G H σ ρ2) (h : ArgR n ks rs ρ ts as is [] ρ2) (f : Fr G H G' H' as) (o : OutsOk K G' H' ks as us) : us = [] ∧ Env K O G' H' σ ρ2 := by
  obtain ⟨l, q⟩ := h.outs o
  refine ⟨List.length_eq_zero_iff.mp l, E.after f h.mem rfl (fun i u a hi ea ha => ?_) fun i u hi _ => hi⟩
  rcases q a ha with ⟨ng, m, i2, e2⟩ | ⟨i2, t, u2, z, _⟩
  · have := own_uniq E.nd hi e2 ea (List.mem_singleton.mpr rfl)
    subst this
    rw [hi] at e2
    cases e2
    exact ⟨ng, m⟩
  · simp at z
/-- one was -/
theorem Env.after1 {rs : List R} {is : List Nat} {us : List T} {m : Nat} {c : Addr} (E : Env K O G H σ ρ2) (h : ArgR n ks rs ρ ts as is [(m, c)] ρ2) (f : Fr G H G' H' as) (o : OutsOk K G' H' ks as us) (hc : c ∈ as) : ∃ u, us = [u] ∧ Env K O G' H' σ (ρ2.set m (.mu c u)) := by
  obtain ⟨l, q⟩ := h.outs o
  obtain ⟨u, rfl⟩ : ∃ u, us = [u] := by
    match us, l with
    | [u], _ => exact ⟨u, rfl⟩
  refine ⟨u, rfl, ?_⟩
  have hm : ∃ t, ρ2[m]? = some (.mu c t) ∧ G' c = none ∧ MRep K G' H' c u ∨ (G' c = none ∧ Fd H' c ∧ ∃ i : Nat, ρ2[i]? = some (.fd c)) := by
    rcases q c hc with z | ⟨i2, t, u2, z, ng, mr, hi⟩
    · exact ⟨.non, .inr z⟩
    · simp at z
      obtain ⟨⟨rfl, _⟩, rfl⟩ := z
      exact ⟨t, .inl ⟨hi, ng, mr⟩⟩
  have hj : ∃ t, ρ2[m]? = some (.mu c t) := by
    have gen : ∀ {ks : List PK} {rs : List R} {ρ : List U} {ts : List T} {as : List Addr} {is : List Nat} {js : List (Nat × Addr)} {ρ2 : List U}, ArgR n ks rs ρ ts as is js ρ2 → ∀ i a, (i, a) ∈ js → ∃ t, ρ2[i]? = some (.mu a t) := by
      intro ks rs ρ ts as is js ρ2 h
      induction h with
      | nil => intro i a e; cases e
      | pu _ _ ih => exact ih
      | mt _ hi ih =>
        intro i a e
        rcases List.mem_cons.mp e with e | e
        · cases e; exact ⟨_, hi⟩
        · exact ih i a e
      | fe _ _ ih => exact ih
    exact gen h m c (List.mem_cons_self ..)
  obtain ⟨t0, ht0⟩ := hj
  have hmr : G' c = none ∧ MRep K G' H' c u := by
    obtain ⟨t, z | ⟨_, _, i, hi⟩⟩ := hm
    · exact z.2
    · have := own_uniq E.nd ht0 hi (List.mem_singleton.mpr rfl) (List.mem_singleton.mpr rfl)
      subst this
      rw [ht0] at hi
      cases hi
  refine E.after f h.mem (ad_set ht0 rfl) (fun i w a hi ea ha => ?_) fun i w hi hna => ?_
  · rcases get_set ht0 hi with ⟨rfl, rfl⟩ | ⟨ni, hi⟩
    · obtain rfl := mem_one ea
      exact hmr
    · rename_i hi0
      rcases q a ha with ⟨ng, mm, i2, e2⟩ | ⟨i2, t, u2, z, ng, mr, h2⟩
      · have := own_uniq E.nd hi e2 ea (List.mem_singleton.mpr rfl)
        subst this
        rw [hi] at e2
        cases e2
        exact ⟨ng, mm⟩
      · simp at z
        obtain ⟨⟨rfl, rfl⟩, rfl⟩ := z
        exact absurd (own_uniq E.nd hi h2 ea (List.mem_singleton.mpr rfl)) ni
  · rcases get_set ht0 hi with ⟨rfl, rfl⟩ | ⟨_, hi⟩
    · exact absurd hc (hna c (List.mem_singleton.mpr rfl))
    · exact hi
/-- calls -/
theorem spe_W {Wp : WpT} {rs : List R} {is : List Nat} {Ψ : Xc → List U → Prop} (ha : ArgR J.n ks rs ρ ts as is [] ρ2) (hi : is.Nodup) (w : Wp ts (fun t _ => Φ (.sh t) ρ2) (fun _ => False)) : SpE J (spW J.K ks Wp) rs ρ Φ Ψ := by
  intro O σ G H Q E vs hn En hv c hx
  obtain ⟨G1, g1, E1, a1⟩ := ha.ok hn En hv
  refine ⟨G1, ts, as, _, _, E1.same, a1, ha.nodup hi E1.nd, w, fun v t us G' H' q f r o => ?_, fun cls d x G' H' q f r => q.elim⟩
  obtain ⟨eu, E2⟩ := E1.after0 ha f o
  exact c.v v (.sh t) G' H' ρ2 q E2 r (g1.trans f.g)
/-- one's own object is handed over -/
theorem spe_W1 {Wp : WpT} {rs : List R} {is : List Nat} {Ψ : Xc → List U → Prop} {m : Nat} {p : Addr} (ha : ArgR J.n ks rs ρ ts as is [(m, p)] ρ2) (hp : p ∈ as) (hi : is.Nodup) (w : Wp ts (fun t us => ∀ u, us = [u] → Φ (.sh t) (ρ2.set m (.mu p u))) (fun _ => False)) : SpE J (spW J.K ks Wp) rs ρ Φ Ψ := by
  intro O σ G H Q E vs hn En hv c hx
  obtain ⟨G1, g1, E1, a1⟩ := ha.ok hn En hv
  refine ⟨G1, ts, as, _, _, E1.same, a1, ha.nodup hi E1.nd, w, fun v t us G' H' q f r o => ?_, fun cls d x G' H' q f r => q.elim⟩
  obtain ⟨u, eu, E2⟩ := E1.after1 ha f o hp
  exact c.v v (.sh t) G' H' _ (q u eu) E2 r (g1.trans f.g)
/-- an exception may come; trees alone are handed over -/
theorem spe_X {Wp : WpT} {rs : List R} {Ψ : Xc → List U → Prop} (ha : ArgR J.n ks rs ρ ts [] [] [] ρ2) (w : Wp ts (fun t _ => Φ (.sh t) ρ2) (fun x => Ψ x ρ2)) : SpE J (spW J.K ks Wp) rs ρ Φ Ψ := by
  intro O σ G H Q E vs hn En hv c hx
  obtain ⟨G1, g1, E1, a1⟩ := ha.ok hn En hv
  refine ⟨G1, ts, [], _, _, E1.same, a1, List.nodup_nil, w, fun v t us G' H' q f r o => ?_, fun cls d x G' H' q f r => ?_⟩
  · obtain ⟨eu, E2⟩ := E1.after0 ha f o
    exact c.v v (.sh t) G' H' ρ2 q E2 r (g1.trans f.g)
  · exact hx cls d G' H' ρ2 x (E1.after f (fun a h => by cases h) rfl (fun i u a _ _ h => by cases h) fun i u h _ => h) (g1.trans f.g) r q
/-- the answer is one's own -/
theorem spe_N {Wp : WpT} {rs : List R} {is : List Nat} {Ψ : Xc → List U → Prop} (ha : ArgR J.n ks rs ρ ts as is [] ρ2) (hi : is.Nodup) (w : Wp ts (fun t _ => ∀ p, Φ (.mr ρ2.length p) (ρ2 ++ [.mu p t])) (fun _ => False)) : SpE J (spN J.K ks Wp) rs ρ Φ Ψ := by
  intro O σ G H Q E vs hn En hv c hx
  obtain ⟨G1, g1, E1, a1⟩ := ha.ok hn En hv
  refine ⟨G1, ts, as, _, _, E1.same, a1, ha.nodup hi E1.nd, w, fun p t us G' H' q f np gp m o => ?_, fun cls d x G' H' q f r => q.elim⟩
  obtain ⟨eu, E2⟩ := E1.after0 ha f o
  refine c.v _ (.mr ρ2.length p) G' H' _ (q p) ?_ rfl (g1.trans f.g)
  have no : p ∉ own ρ2 := fun h => E1.ne h np rfl
  have e1 : own [U.mu p t] = [p] := rfl
  have hl : ∀ {i : Nat} {w : U}, (ρ2 ++ [U.mu p t])[i]? = some w → ρ2[i]? = some w ∨ (ρ2.length ≤ i ∧ w = .mu p t) := fun {i w} hi => by
    by_cases c : i < ρ2.length
    · rw [List.getElem?_append_left c] at hi
      exact .inl hi
    · rw [List.getElem?_append_right (by omega)] at hi
      cases q : i - ρ2.length with
      | zero =>
        rw [q] at hi
        exact .inr ⟨by omega, (Option.some.inj hi).symm⟩
      | succ k =>
        rw [q] at hi
        simp at hi
  refine ⟨E2.same, E2.gg, E2.keep, E2.dom, E2.nofrz, (by rw [List.length_append]; exact Nat.le_trans E2.len (Nat.le_add_right _ _)), fun i w hi h => ?_, fun i w hi => ?_, fun a h => ?_, ?_⟩
  · rcases hl hi with hi | ⟨hi, _⟩
    · exact E2.at_ i w hi h
    · have := E2.len
      omega
  · rcases hl hi with hi | ⟨_, rfl⟩
    · exact E2.ob i w hi
    · exact ⟨gp, m⟩
  · rw [own_app] at h
    rcases List.mem_append.mp h with h | h
    · exact E2.mine a h
    · rw [e1] at h
      rw [List.mem_singleton.mp h]
      cases q : O.H p with
      | none => exact .inl rfl
      | some u => exact absurd np (E1.dom p (by rw [q]; simp))
  · rw [own_app, e1]
    exact List.nodup_append.mpr ⟨E2.nd, by simp, fun x hx y hy e => no (by rw [List.mem_singleton.mp hy] at e; exact e ▸ hx)⟩
/-! ### the draws -/
theorem spe_take {Ψ : Xc → List U → Prop} (hf : ρ[i]? = some (.fd a)) (z0 : 0 < z) (z1 : z < 1073741824) (q : ∀ m : Nat, (m : Int) < z → Φ (.sh (.int (m : Int))) ρ) : SpE J spTake [.mr i a, .sh (.int z)] ρ Φ Ψ := by
  intro O σ G H Q E vs hn En hv c hx
  cases hv with
  | cons h1 h2 =>
    cases h1
    cases h2 with
    | cons h3 h4 =>
      cases h4
      cases h3
      obtain ⟨ng, fa⟩ := En.ob i _ hf
      refine ⟨a, z, rfl, fa, z0, z1, fun r H' r0 r1 s => ?_⟩
      obtain ⟨m, rfl⟩ := Int.eq_ofNat_of_zero_le r0
      exact c.v _ (.sh (.int (m : Int))) G H' ρ (q m r1) (En.draw hf s) (.int _) fun _ _ z => z
theorem spe_feed {Ψ : Xc → List U → Prop} (q : ∀ p, Φ (.mr ρ.length p) (ρ ++ [.fd p])) : SpE J spFeed [.sh (.int z)] ρ Φ Ψ := by
  intro O σ G H Q E vs hn En hv c hx
  cases hv with
  | cons h1 h2 =>
    cases h2
    cases h1
    exact ⟨z, rfl, fun p H' s np fp => c.v _ (.mr ρ.length p) G H' _ (q p) (En.push (u := .fd p) s np rfl ⟨En.same.free np, fp⟩) rfl fun _ _ z => z⟩
theorem spe_cell {Ψ : Xc → List U → Prop} {ns : List Int} (z0 : 0 ≤ z) (z1 : z < 1000) (q : ∀ m : Int, Φ (.sh (.int m)) ρ) : SpE J (spCellv J.K) [.sh (.cl (ns.map T.int)), .sh (.int z)] ρ Φ Ψ := by
  intro O σ G H Q E vs hn En hv c hx
  cases hv with
  | cons h1 h2 =>
    cases h2 with
    | cons h3 h4 =>
      cases h4
      cases h3
      obtain ⟨b, rfl, hs⟩ := Rep.lints h1 (.inr rfl)
      exact ⟨b, ns, z, rfl, En.same.seq hs, z0, z1, fun m => c.here En (q m) (.int m)⟩
/-! ### the law -/
theorem law_start {N : List Str} {n : Nat} {rest : List U} {tS : TS} {H : Hp} {Q : VK} {ns : List Int} (hN : N.length = n) (hb : Blank rest) (hl : 1 + rest.length = n) (hS : SqL K H a (ns.map V.int)) (hq : ∀ H', Q (.bl true) H')
    (h : EvS ⟨K, n, fun _ _ _ _ => False, fun _ _ => False⟩ tS (.sh (.cl (ns.map T.int)) :: rest) { nx := fun _ => False, rt := fun r _ => r = .sh (.bl true) }) : tS { nx := fun _ H' => Q .non H', rt := Q } (L2.start N [.ref a]) H := by
  subst hN
  have ha : ArgsOk K H H [.pu] [.ref a] [.cl (ns.map T.int)] [] := .pu (.cl hS (RepL.of_ints ns)) .nil
  have ls : (L2.start N [V.ref a]).length = N.length := by
    unfold L2.start
    rw [List.length_append, List.length_map, List.length_replicate]
    show 1 + _ = _
    have : ([V.ref a] : List V).length = 1 := rfl
    omega
  refine h ⟨H, H, fun b => b ∈ ([] : List Addr)⟩ _ H H _ ls (Env.start (fun _ _ z => z) ha List.nodup_nil hb hl) ⟨fun σ G' H' ρ' hn E' g' f => f.elim, fun v r σ G' H' ρ' hn E' hv g' e => ?_, fun _ _ _ _ _ _ _ z => z.elim, fun _ _ _ _ _ _ _ z => z.elim, fun cls d σ G' H' ρ' x hn E' g' r q => q.elim⟩
  subst e
  cases hv
  exact hq H'
end
end Tr
namespace Tr
open PySem L2 Vk
/-- the place of a name in a row of names -/
def fidx : List Str → Str → Option Nat
  | [], _ => none
  | g :: gs, f => if f = g then some 0 else (fidx gs f).map (· + 1)
theorem fidx_look {α : Type} : ∀ {fs : List (Str × α)} {f : Str} {i : Nat} {x : α}, fidx (fs.map Prod.fst) f = some i → (fs.map Prod.snd)[i]? = some x → fs.lookup f = some x
  | [], f, i, x, h, e => by simp at e
  | (g, y) :: fs, f, i, x, h, e => by
    have h : (if f = g then some 0 else (fidx (fs.map Prod.fst) f).map (· + 1)) = some i := h
    by_cases c : f = g
    · rw [if_pos c] at h
      cases h
      have e2 : y = x := by simpa using e
      subst e2
      simp [List.lookup, c]
    · rw [if_neg c] at h
      cases q : fidx (fs.map Prod.fst) f with
      | none => rw [q] at h; cases h
      | some j =>
        rw [q] at h
        cases h
        have hb : (f == g) = false := beq_eq_false_iff_ne.mpr c
        simp only [List.lookup, hb]
        exact fidx_look q (by simpa using e)
theorem putF_new {α : Type} {f : Str} {v : V} : ∀ {fs : List (Str × V)}, fidx (fs.map Prod.fst) f = none → putF f v fs = fs ++ [(f, v)]
  | [], _ => rfl
  | (g, y) :: fs, h => by
    have h : (if f = g then some 0 else (fidx (fs.map Prod.fst) f).map (· + 1)) = none := h
    by_cases c : f = g
    · rw [if_pos c] at h; cases h
    · rw [if_neg c] at h
      have q : fidx (fs.map Prod.fst) f = none := by
        cases q : fidx (fs.map Prod.fst) f with
        | none => rfl
        | some j => rw [q] at h; cases h
      show (if g = f then (g, v) :: fs else (g, y) :: putF f v fs) = (g, y) :: (fs ++ [(f, v)])
      rw [if_neg (Ne.symm c), putF_new (α := α) q]
theorem putF_old {f : Str} {v : V} : ∀ {fs : List (Str × V)} {i : Nat}, fidx (fs.map Prod.fst) f = some i → putF f v fs = fs.set i (f, v)
  | [], i, h => by cases h
  | (g, y) :: fs, i, h => by
    have h : (if f = g then some 0 else (fidx (fs.map Prod.fst) f).map (· + 1)) = some i := h
    by_cases c : f = g
    · rw [if_pos c] at h
      cases h
      show (if g = f then (g, v) :: fs else (g, y) :: putF f v fs) = (f, v) :: fs
      rw [if_pos c.symm, c]
    · rw [if_neg c] at h
      cases q : fidx (fs.map Prod.fst) f with
      | none => rw [q] at h; cases h
      | some j =>
        rw [q] at h
        cases h
        show (if g = f then (g, v) :: fs else (g, y) :: putF f v fs) = (g, y) :: fs.set j (f, v)
        rw [if_neg (Ne.symm c), putF_old q]
section
variable {K : PySem.W.Frag} {J : Jd} {O : Out} {G H G' H' : Hp} {σ : List (Option V)} {ρ ρ1 ρ2 : List U} {Φ : R → List U → Prop} {te ta tb : TE} {i j k n : Nat} {t t1 t2 u : T} {ts us : List T} {a b C : Addr} {gs : List (Str × T)} {f : Str} {D : PD}
theorem RepL.fld {fs : List (Str × V)} (e : fs.map Prod.fst = gs.map Prod.fst) (r : RepL K G (fs.map Prod.snd) (gs.map Prod.snd)) (h : fidx (gs.map Prod.fst) f = some i) (ht : (gs.map Prod.snd)[i]? = some t) : ∃ v, fs.lookup f = some v ∧ Rep K G v t := by
  obtain ⟨v, hv, rv⟩ := r.get ht
  exact ⟨v, fidx_look (by rw [e]; exact h) hv, rv⟩
/-- x.f, an attribute -/
theorem ev_fld (h : EvE J te ρ fun r ρ1 => ∃ C gs i t, (r = .sh (.ins C gs) ∨ ∃ j a, r = .mr j a ∧ ρ1[j]? = some (.mu a (.ins C gs))) ∧ Cls J.K C ∧ NoAttr J.K C f ∧ fidx (gs.map Prod.fst) f = some i ∧ (gs.map Prod.snd)[i]? = some t ∧ Φ (.sh t) ρ1) : EvE J (tFld J.K te f) ρ Φ := by
  intro O σ G H Q hn E c
  refine h O σ G H _ hn E ⟨fun v r G1 H1 ρ1 ⟨C, gs, i, t, e, cl, na, hi, ht, q⟩ E1 r1 g1 => ?_, c.x⟩
  rcases e with rfl | ⟨j, a, rfl, hj⟩
  · cases r1 with
    | ins h1 e1 rl =>
      obtain ⟨v, hv, rv⟩ := rl.fld e1 hi ht
      exact ⟨_, C, _, _, v, rfl, E1.same _ _ h1, cl, na, hv, (c.on g1).here E1 q rv⟩
  · cases r1
    obtain ⟨_, dx, fs, h1, e1, rl⟩ := E1.ob j _ hj
    obtain ⟨v, hv, rv⟩ := rl.fld e1 hi ht
    exact ⟨_, C, _, _, v, rfl, h1, cl, na, hv, (c.on g1).here E1 q rv⟩
theorem ev_fldS (h : EvE J te ρ fun r ρ1 => ∃ C gs i t, r = .sh (.ins C gs) ∧ Cls J.K C ∧ NoAttr J.K C f ∧ fidx (gs.map Prod.fst) f = some i ∧ (gs.map Prod.snd)[i]? = some t ∧ Φ (.sh t) ρ1) : EvE J (tFld J.K te f) ρ Φ :=
  ev_fld (ev_mono h fun r ρ1 ⟨C, gs, i, t, e, q⟩ => ⟨C, gs, i, t, .inl e, q⟩)
/-- x.f = v, x one's own, the attribute new -/
theorem es_fldN {tv to : TE} (h : EvE J tv ρ fun r ρ1 => ∃ t ρ2, Fz J.n r ρ1 t ρ2 ∧ EvE J to ρ2 fun o ρ3 => ∃ j a C gs ρ4, o = .mr j a ∧ ρ3[j]? = some (.mu a (.ins C gs)) ∧ Cls J.K C ∧ NoAttr J.K C f ∧ fidx (gs.map Prod.fst) f = none ∧ gs.length < 900 ∧ J.n ≤ ρ3.length ∧
      (ρ3.set j (.mu a (.ins C (gs ++ [(f, t)])))).take J.n = ρ4 ∧ D.nx ρ4) : EvS J (sFld J.K to tv f) ρ D := by
  intro O σ G H D0 hn E S
  refine h O σ G H _ hn E ⟨fun v r G1 H1 ρ1 ⟨t, ρ2, fz, h2⟩ E1 r1 g1 => ?_, S.x⟩
  obtain ⟨G2, g2, E2, r2⟩ := fz.ok hn E1 r1
  refine h2 O σ G2 H1 _ hn E2 ⟨fun w o G3 H3 ρ3 ⟨j, a, C, gs, ρ4, e, hj, cl, na, hi, hl, hn3, e4, q⟩ E3 r3 g3 => ?_, S.x.on (g1.trans g2)⟩
  subst e e4
  cases r3
  obtain ⟨_, dx, fs, h1, e1, rl⟩ := E3.ob j _ hj
  have ll : fs.length = gs.length := by have := congrArg List.length e1; simpa using this
  refine ⟨a, C, dx, fs, rfl, h1, cl, na, by omega, ?_⟩
  refine S.nx σ G3 _ _ hn ((E3.write hj _ ?_).cut (by rw [hn]; exact Nat.le_refl _)) (g1.trans (g2.trans g3)) q
  refine ⟨dx, _, upd_same, ?_, ?_⟩
  · rw [putF_new (α := Nat) (by rw [e1]; exact hi), List.map_append, List.map_append, e1]
    rfl
  · rw [putF_new (α := Nat) (by rw [e1]; exact hi), List.map_append, List.map_append]
    exact rl.app (.one (Rep.mono g3 r2))
/-- .. the attribute there already -/
theorem es_fldO {tv to : TE} (h : EvE J tv ρ fun r ρ1 => ∃ t ρ2, Fz J.n r ρ1 t ρ2 ∧ EvE J to ρ2 fun o ρ3 => ∃ j a C gs i, o = .mr j a ∧ ρ3[j]? = some (.mu a (.ins C gs)) ∧ Cls J.K C ∧ NoAttr J.K C f ∧ fidx (gs.map Prod.fst) f = some i ∧ gs.length < 900 ∧ J.n ≤ ρ3.length ∧
      D.nx ((ρ3.set j (.mu a (.ins C (gs.set i (f, t))))).take J.n)) : EvS J (sFld J.K to tv f) ρ D := by
  intro O σ G H D0 hn E S
  refine h O σ G H _ hn E ⟨fun v r G1 H1 ρ1 ⟨t, ρ2, fz, h2⟩ E1 r1 g1 => ?_, S.x⟩
  obtain ⟨G2, g2, E2, r2⟩ := fz.ok hn E1 r1
  refine h2 O σ G2 H1 _ hn E2 ⟨fun w o G3 H3 ρ3 ⟨j, a, C, gs, i, e, hj, cl, na, hi, hl, hn3, q⟩ E3 r3 g3 => ?_, S.x.on (g1.trans g2)⟩
  subst e
  cases r3
  obtain ⟨_, dx, fs, h1, e1, rl⟩ := E3.ob j _ hj
  have ll : fs.length = gs.length := by have := congrArg List.length e1; simpa using this
  refine ⟨a, C, dx, fs, rfl, h1, cl, na, by omega, ?_⟩
  refine S.nx σ G3 _ _ hn ((E3.write hj _ ?_).cut (by rw [hn]; exact Nat.le_refl _)) (g1.trans (g2.trans g3)) q
  refine ⟨dx, _, upd_same, ?_, ?_⟩
  · rw [putF_old (by rw [e1]; exact hi), List.map_set, List.map_set, e1]
  · rw [putF_old (by rw [e1]; exact hi), List.map_set, List.map_set]
    exact rl.set (Rep.mono g3 r2) i
/-- x.f, a property -/
theorem ev_prop {sp : Sp} (h : EvE J te ρ fun r ρ1 => ∃ gs, r = .sh (.ins C gs) ∧ SpE J sp [r] ρ1 Φ (fun _ _ => False)) : EvE J (tProp C sp [] E0 te) ρ Φ := by
  intro O σ G H Q hn E c
  refine h O σ G H _ hn E ⟨fun v r G1 H1 ρ1 ⟨gs, e, q⟩ E1 r1 g1 => ?_, c.x⟩
  subst e
  cases r1 with
  | ins h1 e1 rl =>
    exact ⟨_, _, _, rfl, E1.same _ _ h1, q O σ G1 H1 Q E0 _ hn E1 (.cons (show Val J.K G1 _ (.sh _) from .ins h1 e1 rl) .nil) (c.on g1) fun _ _ _ _ _ _ _ _ _ z => z.elim⟩
/-- x.m(..), a method -/
theorem ev_meth {sp : Sp} {m : Str} {tr : TA} (h : EvE J te ρ fun r ρ1 => ∃ gs, r = .sh (.ins C gs) ∧ fidx (gs.map Prod.fst) m = none ∧ EvA J tr ρ1 fun rs ρ2 => SpE J sp (r :: rs) ρ2 Φ (fun _ _ => False)) : EvE J (tMeth C m sp [] E0 te tr) ρ Φ := by
  have lk : ∀ {fs : List (Str × V)}, fidx (fs.map Prod.fst) m = none → fs.lookup m = none := by
    intro fs
    induction fs with
    | nil => intro _; rfl
    | cons p fs ih =>
      obtain ⟨g, y⟩ := p
      intro h
      have h : (if m = g then some 0 else (fidx (fs.map Prod.fst) m).map (· + 1)) = none := h
      by_cases c : m = g
      · rw [if_pos c] at h; cases h
      · rw [if_neg c] at h
        have hb : (m == g) = false := beq_eq_false_iff_ne.mpr c
        simp only [List.lookup, hb]
        refine ih ?_
        cases q : fidx (fs.map Prod.fst) m with
        | none => rfl
        | some j => rw [q] at h; cases h
  intro O σ G H Q hn E c
  refine h O σ G H _ hn E ⟨fun v r G1 H1 ρ1 ⟨gs, e, hm, q⟩ E1 r1 g1 => ?_, c.x⟩
  subst e
  cases r1 with
  | ins h1 e1 rl =>
    refine ⟨_, _, _, rfl, E1.same _ _ h1, lk (by rw [e1]; exact hm), ?_⟩
    refine q O σ G1 H1 _ hn E1 ⟨fun vs rs G2 H2 ρ2 h2 E2 r2 g2 => ?_, c.x.on g1⟩
    rw [List.append_nil]
    exact h2 O σ G2 H2 Q E0 _ hn E2 (.cons ((show Val J.K G1 _ (.sh _) from .ins h1 e1 rl).mono g2) r2) ((c.on g1).on g2) fun _ _ _ _ _ _ _ _ _ z => z.elim
/-- C(..) -/
theorem ev_make {ks : List PK} {Wp : WpT} {tr : TA} (h : EvA J tr ρ fun rs ρ1 => ∃ ts ρ2, ArgR J.n ks rs ρ1 ts [] [] [] ρ2 ∧ J.n ≤ ρ2.length ∧ Wp (.ins C [] :: ts) (fun t us => t = .non ∧ ∀ u, us = [u] → Φ (.sh u) ρ2) (fun _ => False)) : EvE J (tMake C (spW J.K (.mt :: ks) Wp) [] E0 tr) ρ Φ := by
  intro O σ G H Q hn E c
  refine h O σ G H _ hn E ⟨fun vs rs G1 H1 ρ1 ⟨ts, ρ2, ha, hl, w⟩ E1 r1 g1 => ?_, c.x⟩
  obtain ⟨G2, g2, E2, a2⟩ := ha.ok hn E1 r1
  intro x dx hx hdx ne
  rw [List.append_nil]
  have s1 : Same H1 (upd (upd H1 dx (.own x)) x (.ins C dx [])) := (same_new hdx _).trans (same_new (by rw [upd_ne ne.symm]; exact hx) _)
  have E3 := E2.push (u := .mu x (.ins C [])) s1 hx rfl ⟨E2.same.free hx, dx, [], upd_same, rfl, .nil⟩
  have a3 : ArgsOk J.K G2 (upd (upd H1 dx (.own x)) x (.ins C dx [])) ks vs ts [] := by
    have gen : ∀ {ks : List PK} {vs : List V} {ts : List T} {as : List Addr}, ArgsOk J.K G2 H1 ks vs ts as → as = [] → ArgsOk J.K G2 (upd (upd H1 dx (.own x)) x (.ins C dx [])) ks vs ts as := by
      intro ks vs ts as h
      induction h with
      | nil => intro _; exact .nil
      | pu r _ ih => intro e; exact .pu r (ih e)
      | mt _ _ _ _ => intro e; cases e
      | fe _ _ _ _ => intro e; cases e
    exact gen a2 rfl
  refine ⟨G2, .ins C [] :: ts, [x], _, _, E3.same, .mt (E2.same.free hx) ⟨dx, [], upd_same, rfl, .nil⟩ a3, by simp, w, fun v t us G' H' q f r o => ?_, fun cls d x G' H' q f r => q.elim⟩
  cases o with
  | @mt _ _ us0 _ u gx m o =>
    have e0 : us0 = [] := by
      have gen : ∀ {ks : List PK} {us : List T} {as : List Addr}, OutsOk J.K G' H' ks as us → as = [] → us = [] := by
        intro ks us as h
        induction h with
        | nil => intro _; rfl
        | pu _ ih => exact ih
        | mt _ _ _ _ => intro e; cases e
        | fe _ _ _ _ => intro e; cases e
      exact gen o rfl
    subst e0
    obtain ⟨et, q⟩ := q
    subst et
    cases r
    refine ⟨rfl, ?_⟩
    have hx0 : (ρ2 ++ [U.mu x (.ins C [])])[ρ2.length]? = some (.mu x (.ins C [])) := get_last
    have E4 : Env J.K O G' H' σ (ρ2 ++ [.mu x u]) := by
      refine E3.after (ρ1 := ρ2 ++ [.mu x u]) f (fun a ha => by rw [List.mem_singleton.mp ha]; exact own_mem hx0 (List.mem_singleton.mpr rfl)) (by rw [List.map_append, List.map_append]; rfl) (fun i w a hi ea ha => ?_) fun i w hi hna => ?_
      · rw [← set_last (u := .mu x (.ins C []))] at hi
        rcases get_set hx0 hi with ⟨rfl, rfl⟩ | ⟨ni, hi⟩
        · exact ⟨gx, m⟩
        · rw [List.mem_singleton.mp ha] at ea
          exact absurd (own_uniq E3.nd hi hx0 ea (List.mem_singleton.mpr rfl)) ni
      · rw [← set_last (u := .mu x (.ins C []))] at hi
        rcases get_set hx0 hi with ⟨rfl, rfl⟩ | ⟨_, hi⟩
        · exact absurd (List.mem_singleton.mpr rfl) (hna x (List.mem_singleton.mpr rfl))
        · exact hi
    obtain ⟨G5, g5, E5, r5⟩ := Fz.ok (v := .ref x) (.new rfl hl) hn E4 rfl
    exact c.v _ (.sh u) G5 H' ρ2 (q u rfl) E5 r5 (g1.trans (g2.trans (f.g.trans g5)))
end
end Tr
namespace Tr
open PySem PySem.Spec PyProof.Rows L2 Vk
/-! ### readings with the written part by its name -/
/-- a list or a tuple, as the value shows -/
def iSeq (K : PySem.W.Frag) (te : TE) : TI := fun σ H R => te σ H fun x H1 => ∃ a, x = .ref a ∧ (((∃ xs, SqL K H1 a xs) ∧ R (Itl K a) H1) ∨ ((∃ xs, SqT K H1 a xs) ∧ R (Itt K a) H1))
section
variable {X : Cx} {K : PySem.W.Frag}
theorem pi_row {tg e : Expr} {te : TE} (he : PE X e te) : PI X tg e (iSeq X.K te) := by
  constructor
  intro pn st sl Hw Rw Iv hw
  apply thn (he.run pn st sl Hw _ Iv hw)
  rintro val st1 ⟨x, H1, I1, rx, a, ex, hh⟩
  subst ex
  cases rx
  have fp : ∀ b ∈ [st1.heap.objs.size], FpOk X pn H1 b := fun b hb => by
    rw [List.mem_singleton.mp hb]
    exact I1.fpOk (Nat.le_refl _) (I1.hok.fresh (Nat.le_refl _))
  have kp : ∀ {o' : Obj}, Inv X pn sl H1 { st1 with heap := st1.heap.push o', toks := st1.toks } := fun {o'} => I1.kept fun b o e => Heap.get?_push_of_some _ e
  rcases hh with ⟨⟨xs, hq⟩, q⟩ | ⟨⟨xs, hq⟩, q⟩
  · obtain ⟨its, rv, p, hz⟩ := I1.list hq
    exact wpAny_pyIter_list p.isList ⟨_, _, _, _, H1, rfl, kp, turn_list a _, ⟨_, Heap.get?_push_size _ rfl, rfl, rfl⟩, fp, q⟩
  · obtain ⟨its, rv, p, hz⟩ := I1.tuple hq
    exact wpAny_pyIter_tuple (show st1.heap.IsTuple a its.toArray from p) ⟨_, _, _, _, H1, rfl, kp, turn_tuple a _, ⟨_, Heap.get?_push_size _ rfl, rfl, rfl⟩, fp, q⟩
theorem pe_lcK {e : Expr} {wi : TI} {g : TG} {tt : TT} {te : TE} {vs ws : List Nat} (h : PE X e (tLc wi g tt te ws)) (hv : ws = vs := by rfl) : PE X e (tLc wi g tt te vs) := hv ▸ h
theorem ps_lcK {st : Stmt} {wi : TI} {g : TG} {tt : TT} {te : TE} {vs ws : List Nat} {g2 : TG} (h : PS X st (tAsg (tLc wi g tt te ws) g2)) (hv : ws = vs := by rfl) : PS X st (tAsg (tLc wi g tt te vs) g2) := hv ▸ h
theorem pi_seqK {tg e : Expr} {te : TE} (he : PE X e te) (hk : X.K = K := by rfl) : PI X tg e (iSeq K te) := hk ▸ pi_row he
theorem pi_listK {tg e : Expr} {te : TE} (he : PE X e te) (hk : X.K = K := by rfl) : PI X tg e (iList K te) := hk ▸ pi_list he
theorem pi_tupK {tg e : Expr} {te : TE} (he : PE X e te) (hk : X.K = K := by rfl) : PI X tg e (iTup K te) := hk ▸ pi_tup he
theorem pe_fldK {e : Expr} {f : Str} {pos : Pos} {ta : TE} (he : PE X e ta) (hb : attributeBase e f X.env (eval e X.env) = eval e X.env := by rfl) (hk : X.K = K := by rfl) : PE X (.Attribute e f pos) (tFld K ta f) := hk ▸ pe_fld he hb
theorem ps_fldK {o value : Expr} {f : Str} {pos pos' : Pos} {ta tv : TE} (ha : PE X o ta) (hv : PE X value tv) (hs : swapsWith value (some (.Attribute o f pos')) pos.line X.env = pure false := by rfl) (hk : X.K = K := by rfl) : PS X (.Assign [.Attribute o f pos'] value pos) (sFld K ta tv f) := hk ▸ ps_fld ha hv hs
theorem pg_tupK {pos : Pos} {es : List Expr} {k : Nat} {t : TGs} {n : Nat} (hc : X.calm = true) (h : PGs X es t)
    (hn : (assignEach es X.env).length = n := by rfl) (hst : (assignEach es X.env).findIdx? (·.1) = none := by rfl) (hk : X.K = K := by rfl) : PG X (.Tuple es k pos) (gTup K n t) := hk ▸ pg_tup hc h hn hst
theorem pg_lstK {pos : Pos} {es : List Expr} {k : Nat} {t : TGs} {n : Nat} (hc : X.calm = true) (h : PGs X es t)
    (hn : (assignEach es X.env).length = n := by rfl) (hst : (assignEach es X.env).findIdx? (·.1) = none := by rfl) (hk : X.K = K := by rfl) : PG X (.Tuple es k pos) (gLst K n t) := hk ▸ pg_lst hc h hn hst
theorem pe_bmK {o e : Expr} {es : List Expr} {to : TE} {t : TA} {name : Str} {apos cpos : Pos} {T id : String} {r : V → List V → Hp → VK → Prop} (pa : PlainAttrs T) (slot : Slot T name id) (hty : typeOf (.builtin id) = pure (.type "method_descriptor")) (hm : MtR X id r) (ho : PE X o to) (ha : PA X (e :: es) t)
    (hbase : attributeBase o name X.env (eval o X.env) = eval o X.env := by rfl)
    (hfew : ((backTo cpos (starEach (e :: es) X.env)).all (fun x => !x.1) && (backToKw cpos (keywordEach [] X.env)).all (fun x => x.1.isSome)
      && decide ((e :: es).length + ([] : List Keyword).length + (if ([] : List Keyword).isEmpty then 0 else 1) < 30)) = true := by rfl)
    (hline : (apos.endLine == cpos.line) = true := by rfl) (hs : starEach (e :: es) X.env = (false, eval e X.env) :: starEach es X.env := by rfl) (hplain : (backTo cpos (starEach es X.env)).any (·.1) = false := by rfl) (hk : X.K = K := by rfl) :
    PE X (.Call (.Attribute o name apos) (e :: es) [] cpos) (tBM K T r to t) := hk ▸ pe_bm pa slot hty hm ho ha hbase hfew hline hs hplain
theorem pe_bm0K {o : Expr} {to : TE} {name : Str} {apos cpos : Pos} {T id : String} {r : V → List V → Hp → VK → Prop} (pa : PlainAttrs T) (slot : Slot T name id) (hty : typeOf (.builtin id) = pure (.type "method_descriptor")) (hm : MtR X id r) (ho : PE X o to)
    (hbase : attributeBase o name X.env (eval o X.env) = eval o X.env := by rfl) (hline : (apos.endLine == cpos.line) = true := by rfl) (hk : X.K = K := by rfl) : PE X (.Call (.Attribute o name apos) [] [] cpos) (tBM0 K T r to) := hk ▸ pe_bm0 pa slot hty hm ho hbase hline
end
section
variable {J : Jd} {ρ : List U} {te : TE} {Φ : List T → List U → Prop}
/-- a walk over a row, whatever it is -/
theorem ei_row (h : EvE J te ρ fun r ρ1 => ∃ t ts ρ2, Fz J.n r ρ1 t ρ2 ∧ t.row = some ts ∧ Φ ts ρ2) : EvI J (iSeq J.K te) ρ Φ := by
  intro O σ G H R hn E c xo
  refine h O σ G H _ hn E ⟨fun v r G1 H1 ρ1 ⟨t, ts, ρ2, f, e, q⟩ E1 r1 g1 => ?_, xo⟩
  obtain ⟨G2, g2, E2, r2⟩ := f.ok hn E1 r1
  obtain ⟨a, vs, rfl, hs, rl⟩ := Rep.row r2 e
  refine ⟨a, rfl, ?_⟩
  rcases hs with hs | hs
  · exact .inl ⟨⟨vs, E2.same.seq hs⟩, c ts _ G2 H1 ρ2 q E2 (g1.trans g2) (.of rl (walk_list.mono (fun H s => s.seq hs) fun _ _ _ _ _ _ y => y))⟩
  · exact .inr ⟨⟨vs, Vk.Same.tup E2.same hs⟩, c ts _ G2 H1 ρ2 q E2 (g1.trans g2) (.of rl (walk_tup.mono (fun H s => Vk.Same.tup s hs) fun _ _ _ _ _ _ y => y))⟩
end
end Tr
namespace Tr
open PySem L2 Vk
@[reducible] def crewT (C : Addr) (r : Rows) : T := .ins C [("height", .int (r.h : Int)), ("seats", .tup (nt r.seats)), ("leanings", .tup (r.lean.map fun row => .tup (nt row)))]
@[reducible] def rowsT (r : Rows) : T := .lst [.int (r.h : Int), .lst (nt r.seats), .lst (r.lean.map fun row => .lst (nt row))]
@[reducible] def spotT (s : Spot) : T := .tup [.tup (nt s.d), .tup (nt s.c), .tup (nt s.p)]
@[reducible] def spotL (s : Spot) : T := .lst [.lst (nt s.d), .lst (nt s.c), .lst (nt s.p)]
theorem atI_nt {ns : List Nat} {k : Nat} {z : Int} (h : k < ns.length) (e : z = (k : Int) := by first | rfl | omega) : atI (nt ns) z = some (T.int ((gt ns k : Nat) : Int)) := atI_eq e (nt_get (gt_get h))
theorem atI_map {α : Type} {xs : List α} {f : α → T} {k : Nat} {z : Int} {x : α} (h : xs[k]? = some x) (e : z = (k : Int) := by first | rfl | omega) : atI (xs.map f) z = some (f x) := atI_eq e (by rw [List.getElem?_map, h]; rfl)
theorem get_map {α : Type} {xs : List α} {f : α → T} {k : Nat} {t : T} (h : (xs.map f)[k]? = some t) : ∃ x, xs[k]? = some x ∧ t = f x := by
  rw [List.getElem?_map] at h
  cases q : xs[k]? with
  | none => rw [q] at h; cases h
  | some x => rw [q] at h; exact ⟨x, rfl, (Option.some.inj h).symm⟩
theorem get_nt {ns : List Nat} {k : Nat} {t : T} (h : (nt ns)[k]? = some t) : k < ns.length ∧ t = .int ((gt ns k : Nat) : Int) := by
  obtain ⟨x, hx, rfl⟩ := get_map h
  exact ⟨lt_of_get hx, by rw [gt_of hx]⟩
theorem ixN_lt {n k : Nat} {z : Int} (h : k < n) (e : z = (k : Int) := by first | rfl | omega) : ixN n z = some k := by
  subst e
  unfold ixN
  rw [if_pos (by omega), if_pos (by omega), Int.toNat_natCast]
theorem int_eq {a b : Int} (h : a = b) : T.int a = T.int b := congrArg T.int h
end Tr
namespace Tr
open PySem L2 Vk
section
variable {K : PySem.W.Frag} {J : Jd} {ρ ρ1 ρ2 : List U} {Φ : R → List U → Prop} {te ta tb : TE} {i j k n : Nat} {t t1 t2 u : T} {ts us : List T} {a b : Addr} {x y z : Int} {D : PD}
/-! ### ends -/
theorem eg_sh {g : TG} {N : List U → Prop} (e : t = u) (h : EvG J g (.sh u) ρ N) : EvG J g (.sh t) ρ N := e ▸ h
theorem eg_int {g : TG} {N : List U → Prop} (e : x = y) (h : EvG J g (.sh (.int y)) ρ N) : EvG J g (.sh (.int x)) ρ N := e ▸ h

theorem end_t {b : Bool} (e : b = true) (k : Kps n ρ1 ρ) : ∃ ρ5, Fz n (.sh (.bl b)) ρ (.bl true) ρ5 ∧ Kps n ρ1 ρ5 := ⟨_, e ▸ .sh, k⟩
theorem end_s (e : t = u) (k : Kps n ρ1 ρ) : ∃ ρ5, Fz n (.sh t) ρ u ρ5 ∧ Kps n ρ1 ρ5 := ⟨_, e ▸ .sh, k⟩
theorem rl_allT (e : ∀ t ∈ ts, t = .bl true) (q : Φ (.sh (.bl true)) ρ) : RdL J (rAll J.K) [.sh (.lst ts)] ρ Φ := by
  refine rl_all (bs := List.replicate ts.length true) ?_ ?_
  · rw [List.map_replicate]
    exact List.eq_replicate_iff.mpr ⟨rfl, e⟩
  · rw [show (List.replicate ts.length true).all id = true by simp]
    exact q
theorem mem_const {α β : Type} {c : β} {xs : List α} : ∀ t ∈ xs.map (fun _ => c), t = c := fun t h => by
  obtain ⟨_, _, e⟩ := List.mem_map.mp h
  exact e.symm
theorem mem_of_prop {ts : List T} {P : T → Prop} (h : ∀ (i : Nat) u, ts[i]? = some u → P u) : ∀ t ∈ ts, P t := fun t m => by
  obtain ⟨i, hi⟩ := List.getElem?_of_mem m
  exact h i t hi
theorem get_map_range {α : Type} {n i : Nat} {f : Nat → α} {t : α} (h : ((List.range n).map f)[i]? = some t) : i < n ∧ t = f i := by
  rw [List.getElem?_map] at h
  by_cases c : i < n
  · rw [List.getElem?_range c] at h
    exact ⟨c, (Option.some.inj h).symm⟩
  · rw [List.getElem?_eq_none (by simp; omega)] at h
    cases h
theorem map_range_get {α β : Type} {xs : List α} {f : Nat → β} {g : α → β} (h : ∀ (i : Nat) x, xs[i]? = some x → f i = g x) : (List.range xs.length).map f = xs.map g := by
  refine List.ext_getElem? fun i => ?_
  by_cases c : i < xs.length
  · obtain ⟨x, hx⟩ := get_of_lt c
    rw [List.getElem?_map, List.getElem?_map, List.getElem?_range c, hx]
    exact congrArg some (h i x hx)
  · rw [List.getElem?_eq_none (by simp; omega), List.getElem?_eq_none (by simp; omega)]
theorem map_range_nt {ns : List Nat} {f : Nat → T} (h : ∀ i, i < ns.length → f i = .int ((gt ns i : Nat) : Int)) : (List.range ns.length).map f = nt ns := map_range_get fun i x hx => by rw [h i (lt_of_get hx), gt_of hx]
/-- range(0, n), its numbers -/
theorem rg0 {k : Nat} : rgT 0 k = nt (List.range k) := by
  unfold rgT nt
  exact List.map_congr_left fun i _ => by rw [Int.zero_add]
theorem rgT_get0 {k i : Nat} {t : T} (h : (rgT 0 k)[i]? = some t) : i < k ∧ t = .int (i : Int) := by
  obtain ⟨h1, h2⟩ := rgT_get h
  rw [Int.zero_add] at h2
  exact ⟨h1, h2⟩
/-- (x,) * n -/
theorem rd_repZ (ne : ts ≠ []) (hs : ts.length ≤ 1000) (z1 : 1 ≤ z) (z2 : z ≤ 1000) (q : Φ (.sh (.tup (List.replicate z.toNat ts).flatten)) ρ) : Rd2 J (rRepZ J.K) (.sh (.tup ts)) (.sh (.int z)) ρ Φ := by
  intro O σ G H Q v w hn E hv hw c
  cases hw
  have hv2 : Rep J.K G v (.tup ts) := hv
  cases hv with
  | tup h r =>
    by_cases c1 : z = 1
    · subst c1
      have e : (List.replicate (1 : Int).toNat ts).flatten = ts := by
        show (List.replicate 1 ts).flatten = ts
        simp
      rw [e] at q
      exact .inl ⟨_, _, rfl, rfl, Vk.Same.tup E.same h, c.here E q hv2⟩
    · refine .inr ⟨_, z, _, rfl, rfl, Vk.Same.tup E.same h, fun e => ne ?_, by omega, z2, by rw [r.len]; exact hs, fun p np => c.tup E np ?_ q⟩
      · have := r.len
        rw [e] at this
        exact List.length_eq_zero_iff.mp this.symm
      · have gen : ∀ m : Nat, RepL J.K G (List.replicate m _).flatten (List.replicate m ts).flatten := fun m => by
          induction m with
          | zero => exact .nil
          | succ m ih =>
            rw [List.replicate_succ, List.replicate_succ, List.flatten_cons, List.flatten_cons]
            exact r.app ih
        exact gen _
theorem rep_nt {n m : Nat} {z : Int} (h : z.toNat = n) : (List.replicate z.toNat [T.int (m : Int)]).flatten = nt (List.replicate n m) := by
  rw [h]
  unfold nt
  rw [List.map_replicate]
  induction n generalizing z with
  | zero => rfl
  | succ n ih => rw [List.replicate_succ, List.replicate_succ, List.flatten_cons, ih (z := n) (by omega)]; rfl
theorem rep_nt0 {n : Nat} {z : Int} (h : z.toNat = n) : (List.replicate z.toNat [T.int 0]).flatten = nt (List.replicate n 0) := rep_nt (m := 0) h
theorem ixN_nt {ns : List Nat} {k : Nat} {z : Int} (h : k < ns.length) (e : z = (k : Int) := by first | rfl | omega) : ixN (nt ns).length z = some k := ixN_lt (by rw [nt_len]; exact h) e
theorem fold_take {r : Rows} {ns : List Nat} {s t : Spot} {g : List Nat} {i : Nat} (h : i < g.length) : foldF r ns s (g.take (i + 1)) t = stepF r ns s (foldF r ns s (g.take i) t) (gt g i) := by
  unfold foldF
  rw [List.take_add_one, gt_get h, List.foldl_append]
  rfl
theorem Wks.consE {ρ ρ1 : List U} {t u : T} (e : t = u) (h : Wks ρ ρ1) : Wks (.sh t :: ρ) (.sh u :: ρ1) := .cons (e ▸ .same) h
theorem bl_e {b c : Bool} {Φ : T → List T → Prop} {us : List T} (e : b = c) (q : Φ (.bl c) us) : Φ (.bl b) us := e ▸ q
theorem dec_nat0 {a : Nat} : decide ((a : Int) = 0) = decide (a = 0) := decide_eq_decide.mpr (by omega)
theorem dec_nat1 {a : Nat} : decide ((a : Int) = 1) = decide (a = 1) := decide_eq_decide.mpr (by omega)
theorem fdiv_nat {a b : Nat} : Int.fdiv (a : Int) (b : Int) = ((a / b : Nat) : Int) := by rw [Int.fdiv_eq_ediv_of_nonneg _ (by omega)]; exact (Int.natCast_ediv a b).symm
theorem fmod_nat {a b : Nat} : Int.fmod (a : Int) (b : Int) = ((a % b : Nat) : Int) := by rw [Int.fmod_eq_emod_of_nonneg _ (by omega)]; exact (Int.natCast_emod a b).symm
theorem dec_nat {a b : Nat} : decide ((a : Int) = (b : Int)) = decide (a = b) := decide_eq_decide.mpr (by omega)
end
end Tr
namespace Tr
open PySem L2 Vk
/-! ### lists of one's own objects -/
section
variable {K : PySem.W.Frag} {J : Jd} {O : Out} {G H G' H' G4 H4 : Hp} {σ σ4 : List (Option V)} {ρ ρ1 ρ2 ρ4 : List U} {Φ : R → List U → Prop} {te ta tb : TE} {i j n : Nat} {t t1 t2 : T} {u : U} {ts us : List T} {a p : Addr} {x y z : Int} {N : List U → Prop}
/-- an object of one's own is put behind -/
theorem Env.adopt (E : Env K O G H σ ρ) (eu : u.ads = [p]) (np : p ∉ own ρ) (hm : O.H p = none ∨ O.own p) (ob : ObjU K G H u) : Env K O G H σ (ρ ++ [u]) := by
  have e1 : own [u] = [p] := by
    rw [own_cons, eu]
    rfl
  have hl : ∀ {i : Nat} {w : U}, (ρ ++ [u])[i]? = some w → ρ[i]? = some w ∨ (ρ.length ≤ i ∧ w = u) := fun {i w} hi => by
    by_cases c : i < ρ.length
    · rw [List.getElem?_append_left c] at hi
      exact .inl hi
    · rw [List.getElem?_append_right (by omega)] at hi
      cases q : i - ρ.length with
      | zero =>
        rw [q] at hi
        exact .inr ⟨by omega, (Option.some.inj hi).symm⟩
      | succ k =>
        rw [q] at hi
        simp at hi
  refine ⟨E.same, E.gg, E.keep, E.dom, E.nofrz, (by rw [List.length_append]; exact Nat.le_trans E.len (Nat.le_add_right _ _)), fun i w hi h => ?_, fun i w hi => ?_, fun a h => ?_, ?_⟩
  · rcases hl hi with hi | ⟨hi, _⟩
    · exact E.at_ i w hi h
    · have := E.len
      omega
  · rcases hl hi with hi | ⟨_, rfl⟩
    · exact E.ob i w hi
    · exact ob
  · rw [own_app] at h
    rcases List.mem_append.mp h with h | h
    · exact E.mine a h
    · rw [e1] at h
      rw [List.mem_singleton.mp h]
      exact hm
  · rw [own_app, e1]
    exact List.nodup_append.mpr ⟨E.nd, by simp, fun x hx y hy e => np (by rw [List.mem_singleton.mp hy] at e; exact e ▸ hx)⟩
/-- the slot i points to the temp j: it is the temp's name from here on -/
theorem Env.claim {v : U} (E : Env K O G H σ ρ) (hi : ρ[i]? = some (.sh (.obj p))) (h : ρ[j]? = some v) (ev : v.ads = [p]) (hj : σ.length ≤ j) : Env K O G H σ ((ρ.set j .no).set i v) := by
  refine ⟨E.same, E.gg, E.keep, E.dom, E.nofrz, (by rw [List.length_set, List.length_set]; exact E.len), fun k w hk hl => ?_, fun k w hk => ?_, fun b hb => E.mine b (own_move h b hb), nodup_of_uniq (fun k l x y b hk hl ex ey => ?_) fun k x hk => ?_⟩
  · rcases get_setL hk with ⟨rfl, rfl⟩ | ⟨nk, hk⟩
    · obtain ⟨x, ex, rx⟩ := E.at_ _ _ hi hl
      cases rx
      exact (SlotV.hd (E.ob _ _ h) (r := p) (by rw [ev]; rfl)).mpr ex
    · rcases get_setL hk with ⟨rfl, rfl⟩ | ⟨_, hk⟩
      · trivial
      · exact E.at_ k w hk hl
  · rcases get_setL hk with ⟨rfl, rfl⟩ | ⟨nk, hk⟩
    · exact E.ob _ _ h
    · rcases get_setL hk with ⟨rfl, rfl⟩ | ⟨_, hk⟩
      · trivial
      · exact E.ob k w hk
  · rcases get_setL hk with ⟨rfl, rfl⟩ | ⟨nk, hk⟩
    · rcases get_setL hl with ⟨rfl, rfl⟩ | ⟨nl, hl⟩
      · rfl
      · rcases get_setL hl with ⟨rfl, rfl⟩ | ⟨nl2, hl⟩
        · cases ey
        · exact absurd (own_uniq E.nd hl h ey ex) nl2
    · rcases get_setL hk with ⟨rfl, rfl⟩ | ⟨nk2, hk2⟩
      · cases ex
      · rcases get_setL hl with ⟨rfl, rfl⟩ | ⟨nl, hl⟩
        · exact absurd (own_uniq E.nd hk2 h ex ey) nk2
        · rcases get_setL hl with ⟨rfl, rfl⟩ | ⟨nl2, hl⟩
          · cases ey
          · exact own_uniq E.nd hk2 hl ex ey
  · rcases get_setL hk with ⟨_, rfl⟩ | ⟨_, hk⟩
    · exact own_nd E.nd h
    · rcases get_setL hk with ⟨_, rfl⟩ | ⟨_, hk⟩
      · exact List.nodup_nil
      · exact own_nd E.nd hk
def mus (f : Nat → T) (ps : List Addr) : List U := ps.mapIdx fun i p => .mu p (f i)
theorem mus_app {f : Nat → T} {ps : List Addr} {p : Addr} : mus f (ps ++ [p]) = mus f ps ++ [.mu p (f ps.length)] := by
  unfold mus
  rw [List.mapIdx_append]
  simp
/-- [e for g in wi], each e a new object of one's own -/
theorem evm_lcO {wi : TI} {g : TG} {vs : List Nat} {f : Nat → T} (gk : GOk g vs)
    (h : EvI J wi ρ fun ts ρ1 => J.n ≤ ρ1.length ∧ ts.length ≤ 100000 ∧
      (∀ (i : Nat) t, ts[i]? = some t → EvG J.q g (.sh t) (wipeU vs (ρ1.take J.n)) fun ρ2 => EvE J.q te ρ2 fun r ρ4 => ∃ p ρ5, r = .mr ρ5.length p ∧ ρ4 = ρ5 ++ [.mu p (f i)] ∧ J.n ≤ ρ5.length ∧ Kps J.n ρ1 ρ5) ∧
      ∀ D ps, ps.length = ts.length → Φ (.mr ρ1.length D) (ρ1 ++ .mu D (.lst (ps.map T.obj)) :: mus f ps)) : EvM J (tLc wi g tYes te vs) ρ Φ := by
  intro O σ G H Q hn E c
  refine h O σ G H _ hn E (fun ts It G1 H1 ρ1 ⟨hl, h5, hs, hd⟩ E1 g1 ⟨Y, w, hy⟩ => ?_) c.x
  intro D hD
  have gD : G1 D = none := E1.same.free hD
  refine lc_it (H1 := H1) (D := D) (Qd := fun H' => Q (.ref D) H') w (fun i H' => ∃ G' ps, Env J.K O G' H' σ (ρ1 ++ .mu D (.lst (ps.map T.obj)) :: mus f ps) ∧ Same G1 G' ∧ ps.length = i) ⟨G1, [], E1.push (u := .mu D (.lst [])) (same_new hD _) hD rfl ⟨gD, [], upd_same, .nil⟩, fun _ _ z => z, rfl⟩
    (fun i H' _ ⟨G', ps, E', g', _⟩ => g'.trans E'.same) (fun i x H' H2 hi ⟨G', ps, E', g', hps⟩ y => ?_) (fun H' ⟨G', ps, E', g', hps⟩ => ?_)
  · obtain ⟨t, et⟩ := get_of_lt hi
    have take_eq : (ρ1 ++ U.mu D (.lst (ps.map T.obj)) :: mus f ps).take J.n = ρ1.take J.n := List.take_append_of_le_length hl
    have inn : ∀ {Gx Hx : Hp} (Ex : Env J.K O Gx Hx σ (ρ1 ++ .mu D (.lst (ps.map T.obj)) :: mus f ps)), Env J.K ⟨Gx, Hx, fun b => b ∈ own ((ρ1 ++ U.mu D (.lst (ps.map T.obj)) :: mus f ps).take J.n)⟩ Gx Hx (wipe σ vs) (wipeU vs (ρ1.take J.n)) := fun {Gx Hx} Ex => by
      have e1 := ((Ex.cut (m := J.n) (by omega)).inner).wipe vs
      rw [take_eq] at e1 ⊢
      exact e1
    have hnw : (wipe σ vs).length = J.n := by rw [wipe_length]; exact hn
    have go : ∀ {Gx Hx : Hp} {x : V}, Env J.K O Gx Hx σ (ρ1 ++ .mu D (.lst (ps.map T.obj)) :: mus f ps) → Same G1 Gx → Rep J.K Gx x t → g x (wipe σ vs) Hx fun σ2 H2 => wipe σ2 vs = wipe σ vs ∧ tYes σ2 H2 fun b H3 =>
        if b = true then te σ2 H3 fun y H4 => ∃ acc, H4 D = some (.lst acc) ∧ acc.length < sizeLine ∧ (∃ G' ps', Env J.K O G' (upd H4 D (.lst (acc ++ [y]))) σ (ρ1 ++ .mu D (.lst (ps'.map T.obj)) :: mus f ps') ∧ Same G1 G' ∧ ps'.length = i + 1)
        else (∃ G' ps', Env J.K O G' H3 σ (ρ1 ++ .mu D (.lst (ps'.map T.obj)) :: mus f ps') ∧ Same G1 G' ∧ ps'.length = i + 1) := fun {Gx Hx x} Ex gx rx => by
      have q1 := hs i t et _ (wipe σ vs) Gx Hx x (fun σ2 H2 => tYes σ2 H2 fun b H3 =>
        if b = true then te σ2 H3 fun y H4 => ∃ acc, H4 D = some (.lst acc) ∧ acc.length < sizeLine ∧ (∃ G' ps', Env J.K O G' (upd H4 D (.lst (acc ++ [y]))) σ (ρ1 ++ .mu D (.lst (ps'.map T.obj)) :: mus f ps') ∧ Same G1 G' ∧ ps'.length = i + 1)
        else (∃ G' ps', Env J.K O G' H3 σ (ρ1 ++ .mu D (.lst (ps'.map T.obj)) :: mus f ps') ∧ Same G1 G' ∧ ps'.length = i + 1)) hnw (inn Ex) rx (fun σ2 G2 H2 ρ2 hn2 E2 g2 q2 => ?_) xok_q
      · have q3 := gk x (wipe σ vs) Hx _ q1
        rw [wipe_wipe σ vs vs fun v hv => hv] at q3
        exact q3
      · refine q2 _ σ2 G2 H2 _ hn2 E2 ⟨fun y r G4 H4 ρ4 ⟨p, ρ5, er, e4, hl5, k5⟩ E4 ry g4 => ?_, xok_q⟩
        subst er e4
        cases ry
        have ne_u : ∀ {k : Nat} {w : U}, ρ5[k]? = some w → p ∉ w.ads := fun {k w} hk ew => by
          have h1 : (ρ5 ++ [U.mu p (f i)])[k]? = some w := by rw [List.getElem?_append_left (lt_of_get hk)]; exact hk
          have h2 : (ρ5 ++ [U.mu p (f i)])[ρ5.length]? = some (.mu p (f i)) := get_last
          have := own_uniq E4.nd h1 h2 ew (List.mem_singleton.mpr rfl)
          have := lt_of_get hk
          omega
        have Eo : Env J.K O G4 H4 σ (ρ1 ++ .mu D (.lst (ps.map T.obj)) :: mus f ps) := Ex.back (m := J.n) E4 fun k u hk hu ha => by
          rw [List.getElem?_append_left (by omega)] at hu
          rw [List.getElem?_append_left (by omega)]
          exact k5.get k u hk hu ha
        have pown : p ∈ own (ρ5 ++ [U.mu p (f i)]) := own_mem get_last (List.mem_singleton.mpr rfl)
        have hx : Hx p = none := by
          rcases E4.mine p pown with h | h
          · exact h
          · exfalso
            obtain ⟨k, w, hk, ew⟩ := own_of h
            rw [List.getElem?_take] at hk
            split at hk
            · rename_i ck
              rw [List.getElem?_append_left (by omega)] at hk
              exact ne_u (k5.get k w ck hk (fun z => by rw [z] at ew; cases ew)) ew
            · cases hk
        have npo : p ∉ own (ρ1 ++ U.mu D (.lst (ps.map T.obj)) :: mus f ps) := fun h => Ex.ne h hx rfl
        have hO : O.H p = none := by
          cases q : O.H p with
          | none => rfl
          | some o => exact absurd hx (Ex.dom p (by rw [q]; simp))
        have Ea := Eo.adopt (u := .mu p (f i)) rfl npo (.inl hO) (E4.ob _ _ get_last)
        have eD : ((ρ1 ++ U.mu D (.lst (ps.map T.obj)) :: mus f ps) ++ [U.mu p (f i)])[ρ1.length]? = some (.mu D (.lst (ps.map T.obj))) := by
          rw [List.append_assoc, List.getElem?_append_right (Nat.le_refl _), Nat.sub_self]
          rfl
        obtain ⟨_, av, eav, rav⟩ := Ea.ob _ _ eD
        have la := rav.len
        rw [List.length_map, hps] at la
        refine ⟨av, eav, small_acc (m := i + 1) (by omega) (by omega), G4, ps ++ [p], ?_, gx.trans (g2.trans g4), by rw [List.length_append, hps]; rfl⟩
        have Ew := Ea.write (t' := .lst ((ps ++ [p]).map T.obj)) eD (.lst (av ++ [.ref p])) ⟨_, upd_same, by rw [List.map_append]; exact rav.app (.one (.obj p))⟩
        have es : ((ρ1 ++ U.mu D (.lst (ps.map T.obj)) :: mus f ps) ++ [U.mu p (f i)]).set ρ1.length (.mu D (.lst ((ps ++ [p]).map T.obj))) = ρ1 ++ .mu D (.lst ((ps ++ [p]).map T.obj)) :: mus f (ps ++ [p]) := by
          rw [mus_app, hps, List.append_assoc, List.set_append_right _ _ (Nat.le_refl _), Nat.sub_self]
          rfl
        rw [es] at Ew
        exact Ew
    rcases hy i G' H' x H2 t g' ((E'.cut (m := ρ1.length) (by omega)).same) y et with ⟨rfl, r⟩ | ⟨p, ws, us, np, rfl, rfl, rfl, r⟩
    · exact go E' g' r
    · obtain ⟨Ea, ga⟩ := E'.alloc np (.tup ws)
      exact go Ea (g'.trans ga) (.tup (SqT.of upd_same) (r.mono ga))
  · exact c.v _ _ G' H' _ (hd D ps hps) E' rfl (g1.trans g')
/-- targets that let the temps stand -/
theorem eg_nameK (e : ρ.set i (.sh t) = ρ1) (q : N ρ1) : EvG J (gName i) (.sh t) ρ N := by
  intro O σ G H v Q hn E hv c xo
  subst e
  exact c _ G H _ (by rw [List.length_set]; exact hn) (E.put (i := i) (w := .sh t) rfl ⟨v, rfl, hv⟩) (fun _ _ z => z) q
theorem egs_conv (h : ∀ O σ G H, σ.length = J.n → Env J.K O G H σ ρ → Env J.K O G H σ ρ1) (q : N ρ1) : EvGs J gNil [] ρ N := by
  intro O σ G H vs Q hn E hv c xo
  cases hv
  exact ⟨rfl, c σ G H _ hn (h O σ G H hn E) (fun _ _ z => z) q⟩
/-- a, b, c = [..], each one's own -/
theorem eg_own3 {a b c k : Nat} {D p1 p2 p3 : Addr} {t1 t2 t3 : T} {b0 : List U} (hb : b0.length = J.n) (ne : a ≠ b ∧ a ≠ c ∧ b ≠ c) (la : a < J.n) (lb : b < J.n) (lc : c < J.n) (ek : k = J.n)
    (e : ((b0.set a (.mu p1 t1)).set b (.mu p2 t2)).set c (.mu p3 t3) = ρ1) (q : N ρ1) :
    EvG J (gLst J.K 3 (gCons (gName a) (gCons (gName b) (gCons (gName c) gNil)))) (.mr k D) (b0 ++ [.mu D (.lst [.obj p1, .obj p2, .obj p3]), .mu p1 t1, .mu p2 t2, .mu p3 t3]) N := by
  subst ek
  have h0 : ∀ w x y z : U, ((b0 ++ [w, x, y, z])[J.n]? = some w) ∧ ((b0 ++ [w, x, y, z])[J.n + 1]? = some x) ∧ ((b0 ++ [w, x, y, z])[J.n + 2]? = some y) ∧ ((b0 ++ [w, x, y, z])[J.n + 3]? = some z) := fun w x y z => by
    refine ⟨?_, ?_, ?_, ?_⟩ <;> rw [← hb, List.getElem?_append_right (by omega)]
    · rw [Nat.sub_self]; rfl
    · rw [Nat.add_sub_cancel_left]; rfl
    · rw [Nat.add_sub_cancel_left]; rfl
    · rw [Nat.add_sub_cancel_left]; rfl
  have s0 : ∀ (l : List U) (w x y z v : U), l.length = J.n → (l ++ [w, x, y, z]).set J.n v = l ++ [v, x, y, z] ∧ (l ++ [w, x, y, z]).set (J.n + 1) v = l ++ [w, v, y, z] ∧ (l ++ [w, x, y, z]).set (J.n + 2) v = l ++ [w, x, v, z] ∧ (l ++ [w, x, y, z]).set (J.n + 3) v = l ++ [w, x, y, v] := fun l w x y z v hl => by
    refine ⟨?_, ?_, ?_, ?_⟩ <;> rw [← hl, List.set_append_right _ _ (by omega)]
    · rw [Nat.sub_self]; rfl
    · rw [Nat.add_sub_cancel_left]; rfl
    · rw [Nat.add_sub_cancel_left]; rfl
    · rw [Nat.add_sub_cancel_left]; rfl
  have sl : ∀ (l : List U) (i : Nat) (w : U) (m : List U), i < l.length → (l ++ m).set i w = l.set i w ++ m := fun l i w m hi => List.set_append_left _ _ hi
  refine eg_fz (.mu (h0 _ _ _ _).1 (s0 _ _ _ _ _ _ hb).1) (eg_lst rfl (egs_cons (eg_nameK (sl _ _ _ _ (by omega)) (egs_cons (eg_nameK (sl _ _ _ _ (by rw [List.length_set]; omega)) (egs_cons (eg_nameK (sl _ _ _ _ (by rw [List.length_set, List.length_set]; omega)) (egs_conv (ρ1 := ρ1) ?_ q))))))))
  intro O σ G H hn E
  obtain ⟨n1, n2, n3⟩ := ne
  have L : (((b0.set a (.sh (.obj p1))).set b (.sh (.obj p2))).set c (.sh (.obj p3))).length = J.n := by rw [List.length_set, List.length_set, List.length_set]; exact hb
  have ga : ∀ (m : List U), ((((b0.set a (.sh (.obj p1))).set b (.sh (.obj p2))).set c (.sh (.obj p3))) ++ m)[a]? = some (.sh (.obj p1)) := fun m => by
    rw [List.getElem?_append_left (by omega), List.getElem?_set_ne (Ne.symm n2), List.getElem?_set_ne (Ne.symm n1), List.getElem?_set_self (by omega)]
  have L2 : ∀ (x : U), ((((b0.set a (.sh (.obj p1))).set b (.sh (.obj p2))).set c (.sh (.obj p3))).set a x).length = J.n := fun x => by rw [List.length_set]; exact L
  have L3 : ∀ (x y : U), (((((b0.set a (.sh (.obj p1))).set b (.sh (.obj p2))).set c (.sh (.obj p3))).set a x).set b y).length = J.n := fun x y => by rw [List.length_set]; exact L2 x
  have gb : ∀ (x : U) (m : List U), (((((b0.set a (.sh (.obj p1))).set b (.sh (.obj p2))).set c (.sh (.obj p3))).set a x) ++ m)[b]? = some (.sh (.obj p2)) := fun x m => by
    rw [List.getElem?_append_left (by rw [L2]; exact lb), List.getElem?_set_ne n1, List.getElem?_set_ne (Ne.symm n3), List.getElem?_set_self (by rw [List.length_set]; omega)]
  have gc : ∀ (x y : U) (m : List U), ((((((b0.set a (.sh (.obj p1))).set b (.sh (.obj p2))).set c (.sh (.obj p3))).set a x).set b y) ++ m)[c]? = some (.sh (.obj p3)) := fun x y m => by
    rw [List.getElem?_append_left (by rw [L3]; exact lc), List.getElem?_set_ne n3, List.getElem?_set_ne n2, List.getElem?_set_self (by rw [List.length_set, List.length_set]; omega)]
  have g1 : ∀ (l : List U) (w x y z : U), l.length = J.n → (l ++ [w, x, y, z])[J.n + 1]? = some x := fun l w x y z hl => by rw [← hl, List.getElem?_append_right (by omega), Nat.add_sub_cancel_left]; rfl
  have g2 : ∀ (l : List U) (w x y z : U), l.length = J.n → (l ++ [w, x, y, z])[J.n + 2]? = some y := fun l w x y z hl => by rw [← hl, List.getElem?_append_right (by omega), Nat.add_sub_cancel_left]; rfl
  have g3 : ∀ (l : List U) (w x y z : U), l.length = J.n → (l ++ [w, x, y, z])[J.n + 3]? = some z := fun l w x y z hl => by rw [← hl, List.getElem?_append_right (by omega), Nat.add_sub_cancel_left]; rfl
  have E1 := E.claim (ga _) (g1 _ _ _ _ _ L) rfl (by omega)
  rw [(s0 _ _ _ _ _ _ L).2.1, sl _ _ _ _ (by omega)] at E1
  have E2 := E1.claim (gb _ _) (g2 _ _ _ _ _ (L2 _)) rfl (by omega)
  rw [(s0 _ _ _ _ _ _ (L2 _)).2.2.1, sl _ _ _ _ (by rw [L2]; exact lb)] at E2
  have E3 := E2.claim (gc _ _ _) (g3 _ _ _ _ _ (L3 _ _)) rfl (by omega)
  rw [(s0 _ _ _ _ _ _ (L3 _ _)).2.2.2, sl _ _ _ _ (by rw [L3]; exact lc)] at E3
  have E4 := E3.cut (m := J.n) (by omega)
  rw [List.take_append_of_le_length (by rw [List.length_set, L3]; exact Nat.le_refl _), List.take_of_length_le (by rw [List.length_set, L3]; exact Nat.le_refl _)] at E4
  have fin : (((((b0.set a (.sh (.obj p1))).set b (.sh (.obj p2))).set c (.sh (.obj p3))).set a (.mu p1 t1)).set b (.mu p2 t2)).set c (.mu p3 t3) = ρ1 := by
    rw [← e]
    refine List.ext_getElem? fun k => ?_
    simp only [List.getElem?_set, List.length_set]
    (repeat' split) <;> first | rfl | omega
  rw [fin] at E4
  exact E4
end
end Tr
namespace Tr
open PySem L2 Vk
section
variable {K : PySem.W.Frag} {J : Jd} {ρ ρ1 ρ2 : List U} {Φ : R → List U → Prop} {te ta tb : TE} {i j k n : Nat} {t t1 t2 u : T} {ts us : List T} {a b : Addr} {x y z : Int} {D : PD}
theorem es_dropE (h : EvE J te ρ fun _ ρ1 => ∃ ρ2, J.n ≤ ρ1.length ∧ ρ1.take J.n = ρ2 ∧ D.nx ρ2) : EvS J (tDrop te) ρ D := es_drop (ev_mono h fun _ _ ⟨_, hl, e, q⟩ => ⟨hl, e ▸ q⟩)
theorem Wks.consM (e : t = u) (h : Wks ρ ρ1) : Wks (.mu a t :: ρ) (.mu a u :: ρ1) := .cons (e ▸ .same) h
theorem nt_snoc {ns : List Nat} {m : Nat} : nt ns ++ [T.int (m : Int)] = nt (ns ++ [m]) := (nt_app ns [m]).symm
theorem lst_e {ts us : List T} (e : ts = us) : T.lst ts = T.lst us := congrArg T.lst e
theorem nt_sn {ns : List Nat} {x : Int} {m : Nat} (e : x = (m : Int)) : T.lst (nt ns ++ [T.int x]) = T.lst (nt (ns ++ [m])) := by rw [e, nt_snoc]
theorem map_sn {α : Type} {xs : List α} {x : α} {f : α → T} : T.lst (xs.map f ++ [f x]) = T.lst ((xs ++ [x]).map f) := by rw [List.map_append]; rfl
/-- numbers with a bound each: a row of them -/
theorem nt_of {P : Nat → Prop} : ∀ {us : List T}, (∀ u ∈ us, ∃ n : Nat, u = .int (n : Int) ∧ P n) → ∃ ns : List Nat, us = nt ns ∧ ∀ n ∈ ns, P n
  | [], _ => ⟨[], rfl, fun _ h => by cases h⟩
  | u :: us, h => by
    obtain ⟨n, rfl, pn⟩ := h u (List.mem_cons_self ..)
    obtain ⟨ns, rfl, ps⟩ := nt_of (us := us) fun u m => h u (List.mem_cons_of_mem _ m)
    exact ⟨n :: ns, rfl, fun m hm => by
      rcases List.mem_cons.mp hm with rfl | hm
      · exact pn
      · exact ps m hm⟩
theorem nt_ofI {P : Nat → Prop} {us : List T} (h : ∀ (i : Nat) u, us[i]? = some u → ∃ n : Nat, u = .int (n : Int) ∧ P n) : ∃ ns : List Nat, us = nt ns ∧ ∀ n ∈ ns, P n := nt_of (mem_of_prop h)
theorem const_nt {m k : Nat} : (List.range k).map (fun _ => T.int (m : Int)) = nt (List.replicate k m) := by
  unfold nt
  rw [List.map_replicate]
  exact List.eq_replicate_iff.mpr ⟨by simp, mem_const⟩
theorem const_nt0 {k : Nat} {z : Int} (h : z.toNat = k) : (List.range z.toNat).map (fun _ => T.int 0) = nt (List.replicate k 0) := by rw [h]; exact const_nt (m := 0)
theorem const_nt1 {k : Nat} {z : Int} (h : z.toNat = k) : (List.range z.toNat).map (fun _ => T.int 1) = nt (List.replicate k 1) := by rw [h]; exact const_nt (m := 1)
theorem atI0 {α : Type} {xs : List α} {x : α} (h : xs[0]? = some x) : atI xs (0 : Int) = some x := atI_nat (j := 0) h
theorem atI1 {α : Type} {xs : List α} {x : α} (h : xs[1]? = some x) : atI xs (1 : Int) = some x := atI_nat (j := 1) h
theorem atI2 {α : Type} {xs : List α} {x : α} (h : xs[2]? = some x) : atI xs (2 : Int) = some x := atI_nat (j := 2) h
theorem atI3 {α : Type} {xs : List α} {x : α} (h : xs[3]? = some x) : atI xs (3 : Int) = some x := atI_nat (j := 3) h
theorem atI4 {α : Type} {xs : List α} {x : α} (h : xs[4]? = some x) : atI xs (4 : Int) = some x := atI_nat (j := 4) h
theorem atN0 {ns : List Nat} (h : 0 < ns.length) : atI (nt ns) (0 : Int) = some (T.int ((gt ns 0 : Nat) : Int)) := atI_nt (k := 0) h
theorem atN1 {ns : List Nat} (h : 1 < ns.length) : atI (nt ns) (1 : Int) = some (T.int ((gt ns 1 : Nat) : Int)) := atI_nt (k := 1) h
theorem atN2 {ns : List Nat} (h : 2 < ns.length) : atI (nt ns) (2 : Int) = some (T.int ((gt ns 2 : Nat) : Int)) := atI_nt (k := 2) h
theorem atNk {ns : List Nat} {k : Nat} (h : k < ns.length) : atI (nt ns) (k : Int) = some (T.int ((gt ns k : Nat) : Int)) := atI_nt (k := k) h
theorem mem_snoc {α : Type} {P : α → Prop} {xs : List α} {x : α} (h : ∀ y ∈ xs, P y) (hx : P x) : ∀ y ∈ xs ++ [x], P y := fun y m => by
  rcases List.mem_append.mp m with m | m
  · exact h y m
  · rw [List.mem_singleton.mp m]; exact hx
/-- a slot that keeps what is new one's own -/
theorem es_asgM {i : Nat} {D : PD} (hi : ρ[i]? = some .nm) (h : EvM J te ρ fun r ρ1 => EvG J (gName i) r ρ1 D.nx) : EvS J (tAsg te (gName i)) ρ D := es_asg h
def RdLM (J : Jd) (f : List V → Hp → VK → Prop) (rs : List R) (ρ : List U) (Φ : R → List U → Prop) : Prop := RdL J f rs ρ Φ
theorem evm_list {tr : TA} (h : EvA J tr ρ fun rs ρ1 => RdLM J (rListOf J.K) rs ρ1 Φ) : EvM J (tCB (rListOf J.K) tr) ρ Φ := ev_cb h
theorem rlm_list (hr : u.row = some ts) (q : ∀ p, Φ (.mr ρ.length p) (ρ ++ [.mu p (.lst ts)])) : RdLM J (rListOf J.K) [.sh u] ρ Φ := rl_listN hr q
theorem rlm_listm (hr : ρ[i]? = some (.mu a (.lst ts))) (q : ∀ p, Φ (.mr ρ.length p) (ρ ++ [.mu p (.lst ts)])) : RdLM J (rListOf J.K) [.mr i a] ρ Φ := rl_listmN hr q
theorem evm_any (h : EvE J te ρ Φ) : EvM J te ρ Φ := h
/-- a new number is put in between -/
def insK (ns : List Nat) (x k : Nat) : List Nat := ns.take x ++ [k] ++ ns.drop x
theorem insK_nt {ns : List Nat} {x k : Nat} : T.lst ((nt ns).take x ++ [T.int (k : Int)] ++ (nt ns).drop x) = T.lst (nt (insK ns x k)) := by
  unfold insK nt
  rw [List.map_append, List.map_append, List.map_take, List.map_drop]
  rfl
theorem insK_len {ns : List Nat} {x k : Nat} : (insK ns x k).length = ns.length + 1 := by
  unfold insK
  rw [List.length_append, List.length_append, List.length_take, List.length_drop]
  show min x ns.length + 1 + _ = _
  omega
theorem insK_perm {ns : List Nat} {x k : Nat} : (insK ns x k).Perm (k :: ns) := by
  unfold insK
  have h : (ns.take x ++ [k] ++ ns.drop x).Perm ([k] ++ ns.take x ++ ns.drop x) := List.Perm.append_right _ (List.perm_append_comm)
  rw [List.append_assoc [k], List.take_append_drop] at h
  exact h
theorem insK_mem {ns : List Nat} {x k y : Nat} : y ∈ insK ns x k ↔ y = k ∨ y ∈ ns := by
  rw [insK_perm.mem_iff, List.mem_cons]
theorem insK_nodup {ns : List Nat} {x k : Nat} (h : ns.Nodup) (hk : k ∉ ns) : (insK ns x k).Nodup := insK_perm.nodup_iff.mpr (List.nodup_cons.mpr ⟨hk, h⟩)
/-- data of one's own list too -/
def RD (ρ : List U) (r : R) (t : T) : Prop := r = .sh t ∨ ∃ i a ts, r = .mr i a ∧ ρ[i]? = some (.mu a (.lst ts)) ∧ t = .lst ts
theorem RD.dp {O : Out} {σ : List (Option V)} {G H : Hp} {r : R} {v : V} (h : RD ρ r t) (E : Env K O G H σ ρ) (hv : Val K G v r) (p : t.pd.plain = true) : Dp K H v t.pd := by
  rcases h with rfl | ⟨i, a, ts, rfl, hi, rfl⟩
  · exact Rep.dp E.same hv p
  · cases hv
    obtain ⟨_, vs, e1, rx⟩ := E.ob i _ hi
    simp only [T.pd] at p ⊢
    exact .lst (SqL.of e1) (RepL.dp E.same rx (by simpa [PyData.plain] using p))
theorem rd_eqM {r q : R} (d1 : RD ρ r t) (d2 : RD ρ q u) (h1 : Pl 60 t) (h2 : Pl 60 u) (k : Φ (.sh (.bl (T.eq t u))) ρ) : Rd2 J (rEqP J.K) r q ρ Φ := by
  intro O σ G H Q v w hn E hv hw c
  exact ⟨t.pd, u.pd, d1.dp E hv h1.1, d2.dp E hw h2.1, h1.1, h2.1, by have := h1.2; omega, c.here E k (.bl _)⟩
theorem rd_neM {r q : R} (d1 : RD ρ r t) (d2 : RD ρ q u) (h1 : Pl 60 t) (h2 : Pl 60 u) (k : Φ (.sh (.bl (!T.eq t u))) ρ) : Rd2 J (rNeP J.K) r q ρ Φ := by
  intro O σ G H Q v w hn E hv hw c
  exact ⟨t.pd, u.pd, d1.dp E hv h1.1, d2.dp E hw h2.1, h1.1, h2.1, by have := h1.2; omega, c.here E k (.bl _)⟩
theorem rd_inM (hi : ρ[i]? = some (.mu a (.lst us))) (h1 : Pl 60 t) (h2 : ∀ t ∈ us, Pl 60 t) (q : Φ (.sh (.bl (us.any fun y => T.eq y t))) ρ) : Rd2 J (rInP J.K) (.sh t) (.mr i a) ρ Φ := by
  intro O σ G H Q v w hn E hv hw c
  have hp : PyData.plainAll (pdL us) = true := plain_all fun t m => (h2 t m).1
  cases hw
  obtain ⟨_, vs, e1, rx⟩ := E.ob i _ hi
  refine ⟨t.pd, pdL us, Rep.dp E.same hv h1.1, .inl (.lst (SqL.of e1) (RepL.dp E.same rx hp)), h1.1, hp, h1.2, ?_⟩
  rw [any_eq]
  exact c.here E q (.bl _)
theorem rd_notInM (hi : ρ[i]? = some (.mu a (.lst us))) (h1 : Pl 60 t) (h2 : ∀ t ∈ us, Pl 60 t) (q : Φ (.sh (.bl (!us.any fun y => T.eq y t))) ρ) : Rd2 J (rNotInP J.K) (.sh t) (.mr i a) ρ Φ := by
  intro O σ G H Q v w hn E hv hw c
  have hp : PyData.plainAll (pdL us) = true := plain_all fun t m => (h2 t m).1
  cases hw
  obtain ⟨_, vs, e1, rx⟩ := E.ob i _ hi
  refine ⟨t.pd, pdL us, Rep.dp E.same hv h1.1, .inl (.lst (SqL.of e1) (RepL.dp E.same rx hp)), h1.1, hp, h1.2, ?_⟩
  rw [any_eq]
  exact c.here E q (.bl _)
theorem nodup_le : ∀ {m : Nat} {ns : List Nat}, ns.Nodup → (∀ x ∈ ns, x < m) → ns.length ≤ m
  | 0, ns, _, hb => by
    cases ns with
    | nil => exact Nat.le_refl _
    | cons x xs => exact absurd (hb x (List.mem_cons_self ..)) (Nat.not_lt_zero _)
  | m + 1, ns, h, hb => by
    by_cases c : m ∈ ns
    · have := nodup_le (m := m) (ns := ns.erase m) (h.erase m) fun x hx => by
        have h1 := (h.mem_erase_iff).mp hx
        have := hb x h1.2
        have := h1.1
        omega
      rw [List.length_erase_of_mem c] at this
      omega
    · have := nodup_le (m := m) h fun x hx => by
        have := hb x hx
        have : x ≠ m := fun e => c (e ▸ hx)
        omega
      omega
theorem any_nt {ns : List Nat} {l : Nat} : ((nt ns).any fun y => T.eq y (.int (l : Int))) = decide (l ∈ ns) := by
  induction ns with
  | nil => rfl
  | cons n ns ih =>
    show (T.eq (.int (n : Int)) (.int (l : Int)) || (nt ns).any fun y => T.eq y (.int (l : Int))) = _
    rw [ih, eq_int, Bool.eq_iff_iff, Bool.or_eq_true, decide_eq_true_eq, decide_eq_true_eq, decide_eq_true_eq, List.mem_cons]
    exact or_congr (by omega) Iff.rfl
end
end Tr
namespace Tr
open PySem L2 Vk
theorem work_d {r : Rows} {s : Spot} {w : Nat} (h : (turnF r s w).1 = .work) : gt s.d (gt s.p w) ≠ 1 := by
  unfold turnF at h
  by_cases c1 : gt s.d 1 = 1
  · rw [if_pos c1] at h; cases h
  rw [if_neg c1] at h
  by_cases c2 : gt s.p w = 0
  · rw [if_pos c2] at h; cases h
  rw [if_neg c2] at h
  by_cases c3 : gt s.d (gt s.p w) = 1
  · rw [if_pos c3] at h; cases h
  exact c3
theorem set_gt {l : List Nat} {v x : Nat} (hv : v < l.length) (h : gt l v = x) : l.set v x = l := by
  refine gt_ext (by rw [List.length_set]) fun i hi => ?_
  rw [gt_set hv]
  by_cases c : i = v
  · rw [if_pos c, c, h]
  · rw [if_neg c]
theorem step_over {r : Rows} {ns : List Nat} {s : Spot} {w : Nat} (h1 : gt s.d 1 = 1) (hw : w < s.p.length) : stepF r ns s s w = s := by
  have e : turnF r s w = (.idle, gt s.p w, gt s.p w) := by
    unfold turnF
    rw [if_pos h1]
  unfold stepF
  rw [e]
  simp only [reduceCtorEq, or_self, if_false]
  rw [set_gt hw rfl]
theorem fold_over {r : Rows} {ns : List Nat} {s : Spot} (h1 : gt s.d 1 = 1) : ∀ {g : List Nat}, (∀ w ∈ g, w < s.p.length) → foldF r ns s g s = s
  | [], _ => rfl
  | w :: g, h => by
    show foldF r ns s g (stepF r ns s s w) = s
    rw [step_over h1 (h w (List.mem_cons_self ..)), fold_over h1 fun x hx => h x (List.mem_cons_of_mem _ hx)]
theorem tick_fold {r : Rows} {ns : List Nat} {s : Spot} {g : List Nat} (o : s.ok r) (hg : ∀ w ∈ g, w < r.P) : tickF r ns s g = foldF r ns s g s := by
  unfold tickF
  split
  · rename_i h
    rw [fold_over h fun w hw => by rw [o.lp]; exact hg w hw]
  · rfl
/-- a leaf that isn't done stays so while the tick goes on -/
theorem fold_d0 {r : Rows} {ns : List Nat} {s : Spot} {g : List Nat} {w : Nat} (o : s.ok r) (hw : (turnF r s w).1 = .work) (hne : ¬ gt s.c (gt s.p w - r.N) + 1 = gt ns (gt s.p w - r.N)) : gt (foldF r ns s g s).d (gt s.p w) = 0 := by
  rw [fold_d o g s o.ld]
  have h1 := work_at hw
  have h2 := work_d hw
  have h3 := o.d1 (gt s.p w)
  split
  · unfold valF
    rw [if_neg (by omega), if_neg hne]
  · omega
theorem eq_rfl {k : Nat} {t : T} (h : Pl k t) : T.eq t t = true := eq_refl h.1
theorem eq_lnt {ns : List Nat} : T.eq (.lst (nt ns)) (.lst (nt ns)) = true := eq_rfl (k := 2) (pl_lst pl_nt)
theorem tick_len {r : Rows} {ns : List Nat} {s : Spot} {g : List Nat} : (tickF r ns s g).d.length = s.d.length ∧ (tickF r ns s g).c.length = s.c.length ∧ (tickF r ns s g).p.length = s.p.length := by
  unfold tickF
  split
  · exact ⟨rfl, rfl, rfl⟩
  · exact fold_len g s
theorem step_ok {r : Rows} {ns : List Nat} {s t : Spot} {w : Nat} (k : r.ok) (o : s.ok r) (hw : w < r.P) (h : t.ok r) : (stepF r ns s t w).ok r := by
  obtain ⟨e1, e2, e3⟩ := step_len (r := r) (ns := ns) (s := s) t w
  have hp := o.pN w
  refine ⟨by rw [e1]; exact h.ld, by rw [e2]; exact h.lc, by rw [e3]; exact h.lp, fun v => ?_, fun x => ?_⟩
  · unfold stepF
    dsimp only
    split
    · rw [gt_set (by rw [h.ld]; exact hp)]
      split
      · unfold valF
        repeat' split
        all_goals omega
      · exact h.d1 v
    · exact h.d1 v
  · unfold stepF
    dsimp only
    rw [gt_set (by rw [h.lp]; exact hw)]
    split
    · exact turn_to k o hw
    · exact h.pN x
theorem fold_ok {r : Rows} {ns : List Nat} {s : Spot} (k : r.ok) (o : s.ok r) : ∀ {g : List Nat} {t : Spot}, (∀ w ∈ g, w < r.P) → t.ok r → (foldF r ns s g t).ok r
  | [], _, _, h => h
  | w :: g, t, hg, h => fold_ok k o (g := g) (t := stepF r ns s t w) (fun x hx => hg x (List.mem_cons_of_mem _ hx)) (step_ok k o (hg w (List.mem_cons_self ..)) h)
theorem tick_ok {r : Rows} {ns : List Nat} {s : Spot} {g : List Nat} (k : r.ok) (o : s.ok r) (hg : ∀ w ∈ g, w < r.P) : (tickF r ns s g).ok r := by
  unfold tickF
  split
  · exact o
  · exact fold_ok k o hg o
end Tr
namespace Tr
open PySem L2 Vk
section
variable {K : PySem.W.Frag} {X : Cx} {J : Jd} {ρ ρ1 ρ2 : List U} {Φ : R → List U → Prop} {te ta tb : TE} {i j k n : Nat} {t t1 t2 u : T} {ts us : List T} {a b : Addr} {x y z : Int} {D : PD}
theorem pe_revLK {e : Expr} {te : TE} {k : Nat} {p1 p2 p3 pos : Pos} (he : PE X e te) (hk : X.K = K := by rfl) : PE X (.Subscript e (.Slice none none (some (.UnaryOp .USub (.Constant (.int 1) k p1) p2)) p3) pos) (tRevL K te) := hk ▸ pe_revL he
/-- xs[::-1] -/
theorem ev_revL (h : EvE J te ρ fun r ρ1 => ∃ ts, (r = .sh (.lst ts) ∨ ∃ i a, r = .mr i a ∧ ρ1[i]? = some (.mu a (.lst ts))) ∧ Φ (.sh (.lst ts.reverse)) ρ1) : EvE J (tRevL J.K te) ρ Φ := by
  intro O σ G H Q hn E c
  refine h O σ G H _ hn E ⟨fun v r G1 H1 ρ1 ⟨ts, e, q⟩ E1 r1 g1 => ?_, c.x⟩
  rcases e with rfl | ⟨i, a, rfl, hi⟩
  · cases r1 with
    | lst h2 rl => exact ⟨_, _, rfl, SqL.of (E1.same _ _ h2), fun p np => (c.on g1).lst E1 np rl.rev q⟩
  · cases r1
    obtain ⟨_, vs, e1, rl⟩ := E1.ob i _ hi
    exact ⟨_, _, rfl, SqL.of e1, fun p np => (c.on g1).lst E1 np rl.rev q⟩
end
end Tr
namespace Tr
open PySem L2 Vk
/-! ### walks over a list of one's own -/
section
variable {K : PySem.W.Frag} {J : Jd} {ρ ρ1 ρ2 : List U} {Φ : R → List U → Prop} {te ta tb : TE} {i j k n : Nat} {t t1 t2 u : T} {ts us : List T} {a b : Addr} {x y z : Int} {D : PD}
theorem walk_own : Walk (Itl K a) n (fun H => ∃ vs, H a = some (.lst vs) ∧ vs.length = n) (fun i H x H' => H' = H ∧ ∃ vs, H a = some (.lst vs) ∧ vs[i]? = some x) :=
  ⟨fun i H hi ⟨vs, e, l⟩ => ⟨vs, vs[i], SqL.of e, by simp [l, hi]⟩, fun H ⟨vs, e, l⟩ => ⟨vs, SqL.of e, by omega⟩, fun i H x H' hi ⟨vs, e, l⟩ y => ⟨y.1, vs, e, y.2 vs (SqL.of e)⟩⟩
def OwnI (J : Jd) (wi : TI) (ρ : List U) (a : Addr) : Prop := ∀ O σ G H (R : It → Hp → Prop), σ.length = J.n → Env J.K O G H σ ρ → R (Itl J.K a) H → wi σ H R
theorem own_var (h : ρ[j]? = some (.mu a (.lst ts))) (hj : j < J.n) : OwnI J (iSeq J.K (tVar j)) ρ a := by
  intro O σ G H R hn E q
  have s := E.at_ j _ h (by omega)
  obtain ⟨_, vs, e, _⟩ := E.ob j _ h
  exact ⟨.ref a, s, a, rfl, .inl ⟨⟨vs, SqL.of e⟩, q⟩⟩
theorem own_varL (h : ρ[j]? = some (.mu a (.lst ts))) (hj : j < J.n) : OwnI J (iList J.K (tVar j)) ρ a := by
  intro O σ G H R hn E q
  have s := E.at_ j _ h (by omega)
  obtain ⟨_, vs, e, _⟩ := E.ob j _ h
  exact ⟨.ref a, s, a, rfl, ⟨vs, SqL.of e⟩, q⟩
theorem evm_lcM {wi : TI} {g : TG} {tt : TT} {vs : List Nat} (hj : ρ[j]? = some (.mu a (.lst ts))) (hjn : j < J.n) (oi : OwnI J wi ρ a) (gk : GOk g vs) (hl : J.n ≤ ρ.length) (h5 : ts.length ≤ 100000) (I : Nat → List T → Prop) (h0 : I 0 [])
    (hs : ∀ (i : Nat) t acc, ts[i]? = some t → I i acc → EvG J.q g (.sh t) (wipeU vs (ρ.take J.n)) fun ρ2 => EvT J.q tt ρ2 fun b ρ3 =>
        (b = true → EvE J.q te ρ3 fun r ρ4 => ∃ u ρ5, Fz J.n r ρ4 u ρ5 ∧ Kps J.n ρ ρ5 ∧ I (i + 1) (acc ++ [u])) ∧ (b = false → Kps J.n ρ ρ3 ∧ I (i + 1) acc))
    (hd : ∀ acc, I ts.length acc → ∀ p, Φ (.mr ρ.length p) (ρ ++ [.mu p (.lst acc)])) : EvM J (tLc wi g tt te vs) ρ Φ := by
  intro O σ G H Q hn E c
  refine oi O σ G H _ hn E ?_
  intro D hD
  have gD : G D = none := E.same.free hD
  have jr : j < ρ.length := by omega
  refine lc_it (H1 := H) (D := D) (Qd := fun H' => Q (.ref D) H') (walk_own (n := ts.length)) (fun i H' => ∃ G' acc, Env J.K O G' H' σ (ρ ++ [.mu D (.lst acc)]) ∧ Same G G' ∧ acc.length ≤ i ∧ I i acc) ⟨G, [], E.push (u := .mu D (.lst [])) (same_new hD _) hD rfl ⟨gD, [], upd_same, .nil⟩, fun _ _ z => z, Nat.le_refl _, h0⟩
    (fun i H' _ ⟨G', acc, E', g', _⟩ => by
      obtain ⟨_, vs, e, rv⟩ := E'.ob j (.mu a (.lst ts)) (by rw [List.getElem?_append_left jr]; exact hj)
      exact ⟨vs, e, rv.len⟩) (fun i x H' H2 hi ⟨G', acc, E', g', hacc, hI⟩ y => ?_) (fun H' ⟨G', acc, E', g', hacc, hI⟩ => ?_)
  · obtain ⟨t, et⟩ := get_of_lt hi
    obtain ⟨rfl, vs', ev, ex⟩ := y
    have rx : Rep J.K G' x t := by
      obtain ⟨_, vs, e, rv⟩ := E'.ob j (.mu a (.lst ts)) (by rw [List.getElem?_append_left jr]; exact hj)
      rw [e] at ev
      cases ev
      obtain ⟨v, e1, r1⟩ := rv.get et
      rw [ex] at e1
      cases e1
      exact r1
    have take_eq : (ρ ++ [U.mu D (.lst acc)]).take J.n = ρ.take J.n := List.take_append_of_le_length hl
    have inn : Env J.K ⟨G', H2, fun b => b ∈ own ((ρ ++ [U.mu D (.lst acc)]).take J.n)⟩ G' H2 (wipe σ vs) (wipeU vs (ρ.take J.n)) := by
      have e1 := ((E'.cut (m := J.n) (by omega)).inner).wipe vs
      rw [take_eq] at e1 ⊢
      exact e1
    have hnw : (wipe σ vs).length = J.n := by rw [wipe_length]; exact hn
    have q1 := hs i t acc et hI _ (wipe σ vs) G' H2 x (fun σ2 H2 => tt σ2 H2 fun b H3 =>
      if b = true then te σ2 H3 fun y H4 => ∃ acc, H4 D = some (.lst acc) ∧ acc.length < sizeLine ∧ (∃ G' acc', Env J.K O G' (upd H4 D (.lst (acc ++ [y]))) σ (ρ ++ [.mu D (.lst acc')]) ∧ Same G G' ∧ acc'.length ≤ i + 1 ∧ I (i + 1) acc')
      else (∃ G' acc, Env J.K O G' H3 σ (ρ ++ [.mu D (.lst acc)]) ∧ Same G G' ∧ acc.length ≤ i + 1 ∧ I (i + 1) acc)) hnw inn rx (fun σ2 G2 H2 ρ2 hn2 E2 g2 q2 => ?_) xok_q
    · have q3 := gk x (wipe σ vs) H2 _ q1
      rw [wipe_wipe σ vs vs fun v hv => hv] at q3
      exact q3
    · refine q2 _ σ2 G2 H2 _ hn2 E2 ⟨fun b G3 H3 ρ3 ⟨qt, qf⟩ E3 g3 => ?_, xok_q⟩
      have kp : ∀ {Gz Hz : Hp} {ρz : List U}, Env J.K _ Gz Hz σ2 ρz → Kps J.n ρ ρz → Env J.K O Gz Hz σ (ρ ++ [.mu D (.lst acc)]) := fun {Gz Hz ρz} Ez kz =>
        E'.back (m := J.n) Ez fun k u hk hu ha => by
          rw [List.getElem?_append_left (by omega)] at hu
          exact kz.get k u hk hu ha
      cases b with
      | false =>
        obtain ⟨k3, hI3⟩ := qf rfl
        exact ⟨G3, acc, kp E3 k3, g'.trans (g2.trans g3), by omega, hI3⟩
      | true =>
        refine qt rfl _ σ2 G3 H3 _ hn2 E3 ⟨fun y r G4 H4 ρ4 ⟨u, ρ5, f, k5, hI5⟩ E4 ry g4 => ?_, xok_q⟩
        obtain ⟨G5, g5, E5, r5⟩ := f.ok hn2 E4 ry
        have Eo := kp E5 k5
        obtain ⟨_, av, eav, rav⟩ := Eo.ob ρ.length _ get_last
        refine ⟨av, eav, by rw [rav.len]; exact small_acc (m := i + 1) (by omega) (by omega), G5, acc ++ [u], ?_, g'.trans (g2.trans (g3.trans (g4.trans g5))), by rw [List.length_append]; show acc.length + 1 ≤ i + 1; omega, hI5⟩
        have Ew := Eo.write (t' := .lst (acc ++ [u])) get_last (.lst (av ++ [y])) ⟨_, upd_same, rav.app (.one r5)⟩
        rw [set_last] at Ew
        exact Ew
  · exact c.v _ _ G' H' _ (hd acc hI D) E' rfl g'
/-- told by place, a new list of one's own -/
theorem evm_lcMN {wi : TI} {g : TG} {vs : List Nat} {f : Nat → T} (hj : ρ[j]? = some (.mu a (.lst ts))) (hjn : j < J.n) (oi : OwnI J wi ρ a) (gk : GOk g vs) (hl : J.n ≤ ρ.length) (h5 : ts.length ≤ 100000)
    (hs : ∀ (i : Nat) t, ts[i]? = some t → EvG J.q g (.sh t) (wipeU vs (ρ.take J.n)) fun ρ2 => EvE J.q te ρ2 fun r ρ4 => ∃ ρ5, Fz J.n r ρ4 (f i) ρ5 ∧ Kps J.n ρ ρ5)
    (hd : ∀ p, Φ (.mr ρ.length p) (ρ ++ [.mu p (.lst ((List.range ts.length).map f))])) : EvM J (tLc wi g tYes te vs) ρ Φ := by
  refine evm_lcM hj hjn oi gk hl h5 (fun i acc => acc = (List.range i).map f) rfl (fun i t acc et e => ?_) (fun acc e p => ?_)
  · subst e
    refine fun O σ G H v Q hn E hv c xo => hs i t et O σ G H v Q hn E hv (fun σ' G' H' ρ2 hn' E' g' q2 => c σ' G' H' ρ2 hn' E' g' (et_yes ⟨fun _ => ev_mono q2 fun r ρ4 ⟨ρ5, f5, k5⟩ => ⟨f i, ρ5, f5, k5, by rw [List.range_succ, List.map_append]; rfl⟩, fun z => by cases z⟩)) xo
  · subst e
    exact hd p
theorem ev_lcM {wi : TI} {g : TG} {vs : List Nat} {f : Nat → T} (hj : ρ[j]? = some (.mu a (.lst ts))) (hjn : j < J.n) (oi : OwnI J wi ρ a) (gk : GOk g vs) (hl : J.n ≤ ρ.length) (h5 : ts.length ≤ 100000)
    (hs : ∀ (i : Nat) t, ts[i]? = some t → EvG J.q g (.sh t) (wipeU vs (ρ.take J.n)) fun ρ2 => EvE J.q te ρ2 fun r ρ4 => ∃ ρ5, Fz J.n r ρ4 (f i) ρ5 ∧ Kps J.n ρ ρ5)
    (hd : Φ (.sh (.lst ((List.range ts.length).map f))) ρ) : EvE J (tLc wi g tYes te vs) ρ Φ :=
  ev_fz (evm_lcMN hj hjn oi gk hl h5 hs fun p => ⟨_, ρ, .new rfl hl, hd⟩)
end
end Tr
namespace Tr
open PySem L2 Vk
theorem map_of {α : Type} {f : α → T} {P : α → Prop} : ∀ {us : List T}, (∀ u ∈ us, ∃ n : α, u = f n ∧ P n) → ∃ ns : List α, us = ns.map f ∧ ∀ n ∈ ns, P n
  | [], _ => ⟨[], rfl, fun _ h => by cases h⟩
  | u :: us, h => by
    obtain ⟨n, rfl, pn⟩ := h u (List.mem_cons_self ..)
    obtain ⟨ns, rfl, ps⟩ := map_of (us := us) fun u m => h u (List.mem_cons_of_mem _ m)
    exact ⟨n :: ns, rfl, fun m hm => by
      rcases List.mem_cons.mp hm with rfl | hm
      · exact pn
      · exact ps m hm⟩
theorem map_ofI {α : Type} {f : α → T} {P : α → Prop} {us : List T} (h : ∀ (i : Nat) u, us[i]? = some u → ∃ n : α, u = f n ∧ P n) : ∃ ns : List α, us = ns.map f ∧ ∀ n ∈ ns, P n := map_of (mem_of_prop h)
theorem cut_mem {ts : List T} {lo hi : Option Int} {i : Nat} {t : T} (h : (cutT ts lo hi)[i]? = some t) : t ∈ ts := List.mem_of_mem_drop (List.mem_of_mem_take (List.mem_of_getElem? h))
theorem get2 {α : Type} {f : Nat → α} {i : Nat} (h : i < 2) : ([f 0, f 1] : List α)[i]? = some (f i) := by
  match i, h with
  | 0, _ => rfl
  | 1, _ => rfl
theorem set2 {α : Type} {f : Nat → α} {x : α} {i : Nat} (h : i < 2) : ([f 0, f 1] : List α).set i x = [(fun j => if j = i then x else f j) 0, (fun j => if j = i then x else f j) 1] := by
  match i, h with
  | 0, _ => rfl
  | 1, _ => rfl
theorem sum_b {b : Nat} : ∀ {ns : List Nat}, (∀ x ∈ ns, x ≤ b) → ∃ m : Nat, (ns.map fun n : Nat => (n : Int)).sum = (m : Int) ∧ m ≤ b * ns.length
  | [], _ => ⟨0, rfl, Nat.zero_le _⟩
  | n :: ns, h => by
    obtain ⟨m, e, hm⟩ := sum_b (ns := ns) fun x hx => h x (List.mem_cons_of_mem _ hx)
    have hn := h n (List.mem_cons_self ..)
    refine ⟨n + m, by rw [List.map_cons, List.sum_cons, e]; simp, ?_⟩
    rw [List.length_cons, Nat.mul_add]
    omega
theorem filt_nt {ns : List Nat} {c : Nat → Bool} : ((List.range ns.length).filter fun i => c (gt ns i)).map (fun i => T.int ((gt ns i : Nat) : Int)) = nt (ns.filter c) := by
  have h : ((List.range ns.length).map fun i => gt ns i) = ns := by
    refine List.ext_getElem? fun i => ?_
    by_cases ci : i < ns.length
    · rw [List.getElem?_map, List.getElem?_range ci, gt_get ci]
      rfl
    · rw [List.getElem?_eq_none (by simp; omega), List.getElem?_eq_none (by omega)]
  unfold nt
  conv => rhs; rw [← h]
  rw [List.filter_map, List.map_map]
  rfl
theorem cut_len {ts : List T} {lo hi : Option Int} : (cutT ts lo hi).length ≤ ts.length := by
  unfold cutT
  rw [List.length_take, List.length_drop]
  omega
end Tr
namespace Tr
open PySem L2 Vk
/-! ### slots told by what changes -/
def puts : List (Nat × U) → List U → List U
  | [], ρ => ρ
  | p :: ps, ρ => puts ps (ρ.set p.1 p.2)
theorem puts_len : ∀ {ps : List (Nat × U)} {ρ : List U}, (puts ps ρ).length = ρ.length
  | [], _ => rfl
  | p :: ps, ρ => by rw [puts, puts_len, List.length_set]
/-- the same statements, the slots that they touch told -/
def tCutV (vs : List (Nat × U)) (t u : TS) : TS := C8.tCut t u
def tForV (vs : List (Nat × U)) (wi : TI) (g : TG) (tb : TS) : TS := tFor wi g tb
def tForB (vs : List (Nat × U)) (wi : TI) (g : TG) (tb : TS) : TS := tFor wi g tb
def tWhileV (vs : List (Nat × U)) (tc : TT) (tb : TS) : TS := tWhile tc tb
theorem pss_cutV {X : Cx} {b : List Stmt} {t u : TS} (vs : List (Nat × U)) (h : PSs X b (C8.tCut t u)) : PSs X b (tCutV vs t u) := h
theorem ps_forV {X : Cx} {st : Stmt} {wi : TI} {g : TG} {tb : TS} (vs : List (Nat × U)) (h : PS X st (tFor wi g tb)) : PS X st (tForV vs wi g tb) := h
theorem ps_forB {X : Cx} {st : Stmt} {wi : TI} {g : TG} {tb : TS} (vs : List (Nat × U)) (h : PS X st (tFor wi g tb)) : PS X st (tForB vs wi g tb) := h
theorem ps_whileV {X : Cx} {st : Stmt} {tc : TT} {tb : TS} (vs : List (Nat × U)) (h : PS X st (tWhile tc tb)) : PS X st (tWhileV vs tc tb) := h
section
variable {K : PySem.W.Frag} {J : Jd} {ρ ρ1 ρ2 : List U} {Φ : R → List U → Prop} {te ta tb : TE} {i j : Nat} {t t1 t2 u : T} {ts us : List T} {a : Addr} {x y z : Int} {D : PD} {N : List U → Prop}
theorem es_cutV {vs : List (Nat × U)} {t u : TS} (M : List U → List U → Prop) (h : EvS J t ρ { D with nx := fun ρ' => ∃ ρ2, Wks ρ' ρ2 ∧ J.n ≤ ρ2.length ∧ M (puts vs ρ) ρ2 }) (q : ∀ ρ', M (puts vs ρ) ρ' → EvS J u ρ' D) : EvS J (tCutV vs t u) ρ D := es_cut (M (puts vs ρ)) h q
theorem fin_mk {n : Nat} {M : List U → Prop} (h : M ρ2) (w : Wks ρ ρ2) (l : n ≤ ρ2.length) : ∃ ρ4, Wks ρ ρ4 ∧ n ≤ ρ4.length ∧ M ρ4 := ⟨ρ2, w, l, h⟩
theorem eg_wk {g : TG} {r : R} (w : Wks ρ ρ1) (hl : J.n ≤ ρ1.length) (h : EvG J g r ρ1 N) : EvG J g r ρ N := fun O σ G H v Q hn E hv c xo => h O σ G H v Q hn (E.wk w (by omega)) hv c xo
theorem es_forV {vs : List (Nat × U)} {wi : TI} {g : TG} {tb : TS} (h : EvI J wi ρ fun ts ρ1 => J.n ≤ ρ1.length ∧ ∃ I : List U → Nat → List U → Prop, (∃ ρ2, Wks (ρ1.take J.n) ρ2 ∧ J.n ≤ ρ2.length ∧ I (puts vs (ρ1.take J.n)) 0 ρ2) ∧
      (∀ (i : Nat) t ρ', ts[i]? = some t → I (puts vs (ρ1.take J.n)) i ρ' → EvG J g (.sh t) ρ' fun ρ2 => EvS J tb ρ2 { nx := fun ρ3 => ∃ ρ4, Wks ρ3 ρ4 ∧ J.n ≤ ρ4.length ∧ I (puts vs (ρ1.take J.n)) (i + 1) ρ4, rt := D.rt, bk := D.nx, ct := fun ρ3 => ∃ ρ4, Wks ρ3 ρ4 ∧ J.n ≤ ρ4.length ∧ I (puts vs (ρ1.take J.n)) (i + 1) ρ4 }) ∧
      (∀ m ρ', m = ts.length → I (puts vs (ρ1.take J.n)) m ρ' → D.nx ρ')) : EvS J (tForV vs wi g tb) ρ D := by
  intro O σ G H D0 hn E S
  refine h O σ G H _ hn E (fun ts It G1 H1 ρ1 ⟨hl, I, h0, hs, hd⟩ E1 g1 ⟨Y, w, hy⟩ => ?_) S.x
  generalize puts vs (ρ1.take J.n) = b at h0 hs hd
  obtain ⟨ρs, wk0, hl0, h0⟩ := h0
  refine for_it w (fun i σ' H' => ∃ G' ρ', σ'.length = J.n ∧ Env J.K O G' H' σ' ρ' ∧ Same G1 G' ∧ I b i ρ') ⟨G1, _, hn, (E1.cut (m := J.n) (by omega)).wk wk0 (by omega), fun _ _ z => z, h0⟩ (fun i σ' H' _ ⟨G', ρ', _, E', g', _⟩ => g'.trans E'.same) (fun i x σ' H' H2 hi ⟨G', ρ', hn', E', g', hI⟩ y => ?_) (fun σ' H' ⟨G', ρ', hn', E', g', hI⟩ => ?_)
  · obtain ⟨t, et⟩ := get_of_lt hi
    have nxt : ∀ σ3 G3 H3 ρ3, σ3.length = J.n → Env J.K O G3 H3 σ3 ρ3 → Same G' G3 → EvS J tb ρ3 { nx := fun ρ3 => ∃ ρ4, Wks ρ3 ρ4 ∧ J.n ≤ ρ4.length ∧ I b (i + 1) ρ4, rt := D.rt, bk := D.nx, ct := fun ρ3 => ∃ ρ4, Wks ρ3 ρ4 ∧ J.n ≤ ρ4.length ∧ I b (i + 1) ρ4 } →
        tb { D0 with nx := fun σ' H' => ∃ G' ρ', σ'.length = J.n ∧ Env J.K O G' H' σ' ρ' ∧ Same G1 G' ∧ I b (i + 1) ρ', ct := fun σ' H' => ∃ G' ρ', σ'.length = J.n ∧ Env J.K O G' H' σ' ρ' ∧ Same G1 G' ∧ I b (i + 1) ρ', bk := D0.nx } σ3 H3 := fun σ3 G3 H3 ρ3 hn3 E3 g3 q =>
      q O σ3 G3 H3 _ hn3 E3 ⟨fun σ4 G4 H4 ρ4 hn4 E4 g4 ⟨ρ5, wk, hl5, hI5⟩ => ⟨G4, ρ5, hn4, E4.wk wk (by omega), g'.trans (g3.trans g4), hI5⟩,
        fun v r σ4 G4 H4 ρ4 hn4 E4 hv g4 h4 => S.rt v r σ4 G4 H4 ρ4 hn4 E4 hv (g1.trans (g'.trans (g3.trans g4))) h4,
        fun σ4 G4 H4 ρ4 hn4 E4 g4 h4 => S.nx σ4 G4 H4 ρ4 hn4 E4 (g1.trans (g'.trans (g3.trans g4))) h4,
        fun σ4 G4 H4 ρ4 hn4 E4 g4 ⟨ρ5, wk, hl5, hI5⟩ => ⟨G4, ρ5, hn4, E4.wk wk (by omega), g'.trans (g3.trans g4), hI5⟩, S.x.on (g1.trans (g'.trans g3))⟩
    rcases hy i G' H' x H2 t g' E'.same y et with ⟨rfl, r⟩ | ⟨p, vs, us, np, rfl, rfl, rfl, r⟩
    · exact hs i t ρ' et hI O σ' G' H2 x _ hn' E' r (fun σ3 G3 H3 ρ3 hn3 E3 g3 q => nxt σ3 G3 H3 ρ3 hn3 E3 g3 q) (S.x.on (g1.trans g'))
    · obtain ⟨E2, g2⟩ := E'.alloc np (.tup vs)
      exact hs i _ ρ' et hI O σ' _ _ _ _ hn' E2 (show Rep J.K _ _ _ from .tup (SqT.of upd_same) (r.mono g2)) (fun σ3 G3 H3 ρ3 hn3 E3 g3 q => nxt σ3 G3 H3 ρ3 hn3 E3 (g2.trans g3) q) (S.x.on ((g1.trans g').trans g2))
  · exact S.nx σ' G' H' ρ' hn' E' (g1.trans g') (hd _ ρ' rfl hI)
theorem es_forB {vs : List (Nat × U)} {wi : TI} {g : TG} {tb : TS} (h : EvI J wi ρ fun ts ρ1 => J.n ≤ ρ1.length ∧ ∃ (I : List U → Nat → List U → Prop) (B : List U → List U → Prop), (∃ ρ2, Wks (ρ1.take J.n) ρ2 ∧ J.n ≤ ρ2.length ∧ I (puts vs (ρ1.take J.n)) 0 ρ2) ∧
      (∀ (i : Nat) t ρ', ts[i]? = some t → I (puts vs (ρ1.take J.n)) i ρ' → EvG J g (.sh t) ρ' fun ρ2 => EvS J tb ρ2 { nx := fun ρ3 => ∃ ρ4, Wks ρ3 ρ4 ∧ J.n ≤ ρ4.length ∧ I (puts vs (ρ1.take J.n)) (i + 1) ρ4, rt := D.rt, bk := fun ρ3 => ∃ ρ4, Wks ρ3 ρ4 ∧ J.n ≤ ρ4.length ∧ B (puts vs (ρ1.take J.n)) ρ4, ct := fun ρ3 => ∃ ρ4, Wks ρ3 ρ4 ∧ J.n ≤ ρ4.length ∧ I (puts vs (ρ1.take J.n)) (i + 1) ρ4 }) ∧
      (∀ m ρ', m = ts.length → I (puts vs (ρ1.take J.n)) m ρ' → ∃ ρ4, Wks ρ' ρ4 ∧ J.n ≤ ρ4.length ∧ B (puts vs (ρ1.take J.n)) ρ4) ∧ (∀ ρ', B (puts vs (ρ1.take J.n)) ρ' → D.nx ρ')) : EvS J (tForB vs wi g tb) ρ D := by
  intro O σ G H D0 hn E S
  refine h O σ G H _ hn E (fun ts It G1 H1 ρ1 ⟨hl, I, B, h0, hs, hd, hb⟩ E1 g1 ⟨Y, w, hy⟩ => ?_) S.x
  generalize puts vs (ρ1.take J.n) = b at h0 hs hd hb
  obtain ⟨ρs, wk0, hl0, h0⟩ := h0
  refine for_it w (fun i σ' H' => ∃ G' ρ', σ'.length = J.n ∧ Env J.K O G' H' σ' ρ' ∧ Same G1 G' ∧ I b i ρ') ⟨G1, _, hn, (E1.cut (m := J.n) (by omega)).wk wk0 (by omega), fun _ _ z => z, h0⟩ (fun i σ' H' _ ⟨G', ρ', _, E', g', _⟩ => g'.trans E'.same) (fun i x σ' H' H2 hi ⟨G', ρ', hn', E', g', hI⟩ y => ?_) (fun σ' H' ⟨G', ρ', hn', E', g', hI⟩ => ?_)
  · obtain ⟨t, et⟩ := get_of_lt hi
    have nxt : ∀ σ3 G3 H3 ρ3, σ3.length = J.n → Env J.K O G3 H3 σ3 ρ3 → Same G' G3 → EvS J tb ρ3 { nx := fun ρ3 => ∃ ρ4, Wks ρ3 ρ4 ∧ J.n ≤ ρ4.length ∧ I b (i + 1) ρ4, rt := D.rt, bk := fun ρ3 => ∃ ρ4, Wks ρ3 ρ4 ∧ J.n ≤ ρ4.length ∧ B b ρ4, ct := fun ρ3 => ∃ ρ4, Wks ρ3 ρ4 ∧ J.n ≤ ρ4.length ∧ I b (i + 1) ρ4 } →
        tb { D0 with nx := fun σ' H' => ∃ G' ρ', σ'.length = J.n ∧ Env J.K O G' H' σ' ρ' ∧ Same G1 G' ∧ I b (i + 1) ρ', ct := fun σ' H' => ∃ G' ρ', σ'.length = J.n ∧ Env J.K O G' H' σ' ρ' ∧ Same G1 G' ∧ I b (i + 1) ρ', bk := D0.nx } σ3 H3 := fun σ3 G3 H3 ρ3 hn3 E3 g3 q =>
      q O σ3 G3 H3 _ hn3 E3 ⟨fun σ4 G4 H4 ρ4 hn4 E4 g4 ⟨ρ5, wk, hl5, hI5⟩ => ⟨G4, ρ5, hn4, E4.wk wk (by omega), g'.trans (g3.trans g4), hI5⟩,
        fun v r σ4 G4 H4 ρ4 hn4 E4 hv g4 h4 => S.rt v r σ4 G4 H4 ρ4 hn4 E4 hv (g1.trans (g'.trans (g3.trans g4))) h4,
        fun σ4 G4 H4 ρ4 hn4 E4 g4 ⟨ρ5, wk, hl5, hB⟩ => S.nx σ4 G4 H4 ρ5 hn4 (E4.wk wk (by omega)) (g1.trans (g'.trans (g3.trans g4))) (hb ρ5 hB),
        fun σ4 G4 H4 ρ4 hn4 E4 g4 ⟨ρ5, wk, hl5, hI5⟩ => ⟨G4, ρ5, hn4, E4.wk wk (by omega), g'.trans (g3.trans g4), hI5⟩, S.x.on (g1.trans (g'.trans g3))⟩
    rcases hy i G' H' x H2 t g' E'.same y et with ⟨rfl, r⟩ | ⟨p, vs, us, np, rfl, rfl, rfl, r⟩
    · exact hs i t ρ' et hI O σ' G' H2 x _ hn' E' r (fun σ3 G3 H3 ρ3 hn3 E3 g3 q => nxt σ3 G3 H3 ρ3 hn3 E3 g3 q) (S.x.on (g1.trans g'))
    · obtain ⟨E2, g2⟩ := E'.alloc np (.tup vs)
      exact hs i _ ρ' et hI O σ' _ _ _ _ hn' E2 (show Rep J.K _ _ _ from .tup (SqT.of upd_same) (r.mono g2)) (fun σ3 G3 H3 ρ3 hn3 E3 g3 q => nxt σ3 G3 H3 ρ3 hn3 E3 (g2.trans g3) q) (S.x.on ((g1.trans g').trans g2))
  · obtain ⟨ρ5, wk, hl5, hB⟩ := hd _ ρ' rfl hI
    exact S.nx σ' G' H' ρ5 hn' (E'.wk wk (by omega)) (g1.trans g') (hb ρ5 hB)
/-- while: a measure, what is known of the slots -/
theorem es_whileV {vs : List (Nat × U)} {tc : TT} {tb : TS} (I : List U → Nat → List U → Prop) (m0 : Nat) (h0 : ∃ ρ2, Wks ρ ρ2 ∧ J.n ≤ ρ2.length ∧ I (puts vs ρ) m0 ρ2)
    (hs : ∀ m ρ', I (puts vs ρ) m ρ' → EvT J tc ρ' fun b ρ1 => (b = true → EvS J tb ρ1 { nx := fun ρ3 => ∃ ρ4, Wks ρ3 ρ4 ∧ J.n ≤ ρ4.length ∧ ∃ m', m' < m ∧ I (puts vs ρ) m' ρ4, rt := D.rt, bk := D.nx, ct := fun ρ3 => ∃ ρ4, Wks ρ3 ρ4 ∧ J.n ≤ ρ4.length ∧ ∃ m', m' < m ∧ I (puts vs ρ) m' ρ4 }) ∧ (b = false → D.nx ρ1)) : EvS J (tWhileV vs tc tb) ρ D := by
  obtain ⟨ρ2, wk, hl, h0⟩ := h0
  refine es_wk wk hl (es_while (I (puts vs ρ)) h0 fun m ρ' hI O σ G H Q hn E c => hs m ρ' hI O σ G H Q hn E ⟨fun b G' H' ρ1 ⟨h1, h2⟩ E' g => c.v b G' H' ρ1 ⟨fun e => ?_, h2⟩ E' g, c.x⟩)
  exact es_mono (h1 e) (fun ρ3 ⟨ρ4, a, b, m', c, d⟩ => ⟨ρ4, m', c, a, b, d⟩) (fun _ _ h => h) (fun _ h => h) (fun ρ3 ⟨ρ4, a, b, m', c, d⟩ => ⟨ρ4, m', c, a, b, d⟩)
/-- a mark: here the promise's own words end -/
def Stop (p : Prop) : Prop := p
theorem Stop.mk {p : Prop} (h : p) : Stop p := h
theorem spe_WS {ks : List PK} {as : List Addr} {Wp : WpT} {rs : List R} {is : List Nat} {Ψ : Xc → List U → Prop} (ha : ArgR J.n ks rs ρ ts as is [] ρ2) (hi : is.Nodup) (w : Wp ts (fun t _ => Stop (Φ (.sh t) ρ2)) (fun _ => False)) : SpE J (spW J.K ks Wp) rs ρ Φ Ψ := spe_W ha hi w
theorem spe_NS {ks : List PK} {as : List Addr} {Wp : WpT} {rs : List R} {is : List Nat} {Ψ : Xc → List U → Prop} (ha : ArgR J.n ks rs ρ ts as is [] ρ2) (hi : is.Nodup) (w : Wp ts (fun t _ => Stop (∀ p, Φ (.mr ρ2.length p) (ρ2 ++ [.mu p t]))) (fun _ => False)) : SpE J (spN J.K ks Wp) rs ρ Φ Ψ := spe_N ha hi w
theorem spl_neS {t : T} {A B : Prop} (p : Pl 60 t) (h : B) : ((!T.eq t t) = true → A) ∧ ((!T.eq t t) = false → B) := spl_f (by rw [eq_rfl p]; rfl) h
theorem spl_eqS {t : T} {A B : Prop} (p : Pl 60 t) (h : A) : (T.eq t t = true → A) ∧ (T.eq t t = false → B) := spl_t (eq_rfl p) h
end
end Tr
namespace Tr
open PySem L2 Vk
/-! ### comprehensions told by the items -/
def oel {α : Type} (f : α → T) : Option α → T
  | some x => f x
  | none => .non
def oec {α : Type} (c : α → Bool) : Option α → Bool
  | some x => c x
  | none => false
theorem range_opt {α : Type} {xs : List α} : (List.range xs.length).map (fun i => xs[i]?) = xs.map some := map_range_get fun i x hx => hx
theorem range_oel {α : Type} {xs : List α} {f : α → T} : (List.range xs.length).map (fun i => oel f xs[i]?) = xs.map f := map_range_get fun i x hx => by rw [hx]; rfl
theorem range_oec {α : Type} {xs : List α} {c : α → Bool} {f : α → T} : ((List.range xs.length).filter fun i => oec c xs[i]?).map (fun i => oel f xs[i]?) = (xs.filter c).map f := by
  have h1 : ((List.range xs.length).filter fun i => oec c xs[i]?).map (fun i => oel f xs[i]?) = (((List.range xs.length).map (fun i => xs[i]?)).filter (oec c)).map (oel f) := by
    rw [List.filter_map, List.map_map]
    rfl
  rw [h1, range_opt, List.filter_map, List.map_map]
  rfl
section
variable {K : PySem.W.Frag} {J : Jd} {ρ ρ1 ρ2 : List U} {Φ : R → List U → Prop} {te ta tb : TE} {i j k : Nat} {t t1 t2 u : T} {ts us : List T} {a b : Addr} {x y z : Int}
theorem map_at {α : Type} {xs : List α} {h : α → T} {i : Nat} {t : T} (e : (xs.map h)[i]? = some t) : ∃ x, xs[i]? = some x ∧ x ∈ xs ∧ t = h x := by
  obtain ⟨x, hx, e⟩ := get_map e
  exact ⟨x, hx, List.mem_of_getElem? hx, e⟩
theorem ev_map {α : Type} {xs : List α} {h f : α → T} {wi : TI} {g : TG} {vs : List Nat} (gk : GOk g vs)
    (q : EvI J wi ρ fun ts ρ1 => J.n ≤ ρ1.length ∧ ts = xs.map h ∧ xs.length ≤ 100000 ∧
      (∀ x, x ∈ xs → EvG J.q g (.sh (h x)) (wipeU vs (ρ1.take J.n)) fun ρ2 => EvE J.q te ρ2 fun r ρ4 => ∃ ρ5, Fz J.n r ρ4 (f x) ρ5 ∧ Kps J.n ρ1 ρ5) ∧
      Φ (.sh (.lst (xs.map f))) ρ1) : EvE J (tLc wi g tYes te vs) ρ Φ := by
  refine ev_lc (f := fun i => oel f xs[i]?) gk fun O σ G H R hn E c xo => q O σ G H R hn E (fun ts I G' H' ρ' ⟨h1, h2, h3, h4, h5⟩ E' g w => c ts I G' H' ρ' ?_ E' g w) xo
  subst h2
  refine ⟨h1, by rw [List.length_map]; exact h3, fun i t e => ?_, by rw [List.length_map, range_oel]; exact h5⟩
  obtain ⟨x, hx, hm, rfl⟩ := map_at e
  rw [hx]
  exact h4 x hm
theorem evm_map {α : Type} {xs : List α} {h f : α → T} {wi : TI} {g : TG} {vs : List Nat} (gk : GOk g vs)
    (q : EvI J wi ρ fun ts ρ1 => J.n ≤ ρ1.length ∧ ts = xs.map h ∧ xs.length ≤ 100000 ∧
      (∀ x, x ∈ xs → EvG J.q g (.sh (h x)) (wipeU vs (ρ1.take J.n)) fun ρ2 => EvE J.q te ρ2 fun r ρ4 => ∃ ρ5, Fz J.n r ρ4 (f x) ρ5 ∧ Kps J.n ρ1 ρ5) ∧
      ∀ p, Φ (.mr ρ1.length p) (ρ1 ++ [.mu p (.lst (xs.map f))])) : EvM J (tLc wi g tYes te vs) ρ Φ := by
  refine evm_lcN (f := fun i => oel f xs[i]?) gk fun O σ G H R hn E c xo => q O σ G H R hn E (fun ts I G' H' ρ' ⟨h1, h2, h3, h4, h5⟩ E' g w => c ts I G' H' ρ' ?_ E' g w) xo
  subst h2
  refine ⟨h1, by rw [List.length_map]; exact h3, fun i t e => ?_, by rw [List.length_map, range_oel]; exact h5⟩
  obtain ⟨x, hx, hm, rfl⟩ := map_at e
  rw [hx]
  exact h4 x hm
theorem ev_mapF {α : Type} {xs : List α} {h f : α → T} (c : α → Bool) {wi : TI} {g : TG} {tt : TT} {vs : List Nat} (gk : GOk g vs)
    (q : EvI J wi ρ fun ts ρ1 => J.n ≤ ρ1.length ∧ ts = xs.map h ∧ xs.length ≤ 100000 ∧
      (∀ x, x ∈ xs → EvG J.q g (.sh (h x)) (wipeU vs (ρ1.take J.n)) fun ρ2 => EvT J.q tt ρ2 fun b ρ3 => b = c x ∧ (c x = true → EvE J.q te ρ3 fun r ρ4 => ∃ ρ5, Fz J.n r ρ4 (f x) ρ5 ∧ Kps J.n ρ1 ρ5) ∧ Kps J.n ρ1 ρ3) ∧
      Φ (.sh (.lst ((xs.filter c).map f))) ρ1) : EvE J (tLc wi g tt te vs) ρ Φ := by
  refine ev_lcF (f := fun i => oel f xs[i]?) (fun i => oec c xs[i]?) gk fun O σ G H R hn E cc xo => q O σ G H R hn E (fun ts I G' H' ρ' ⟨h1, h2, h3, h4, h5⟩ E' g w => cc ts I G' H' ρ' ?_ E' g w) xo
  subst h2
  refine ⟨h1, by rw [List.length_map]; exact h3, fun i t e => ?_, by rw [List.length_map, range_oec]; exact h5⟩
  obtain ⟨x, hx, hm, rfl⟩ := map_at e
  rw [hx]
  exact h4 x hm
theorem ev_mapP {α : Type} {xs : List α} {h : α → T} (P : α → T → Prop) {wi : TI} {g : TG} {vs : List Nat} (gk : GOk g vs)
    (q : EvI J wi ρ fun ts ρ1 => J.n ≤ ρ1.length ∧ ts = xs.map h ∧ xs.length ≤ 100000 ∧
      (∀ x, x ∈ xs → EvG J.q g (.sh (h x)) (wipeU vs (ρ1.take J.n)) fun ρ2 => EvE J.q te ρ2 fun r ρ4 => ∃ u ρ5, Fz J.n r ρ4 u ρ5 ∧ Kps J.n ρ1 ρ5 ∧ P x u) ∧
      ∀ us, us.length = xs.length → (∀ (i : Nat) x u, xs[i]? = some x → us[i]? = some u → P x u) → Φ (.sh (.lst us)) ρ1) : EvE J (tLc wi g tYes te vs) ρ Φ := by
  refine ev_lcP (fun i u => ∀ x, xs[i]? = some x → P x u) gk fun O σ G H R hn E c xo => q O σ G H R hn E (fun ts I G' H' ρ' ⟨h1, h2, h3, h4, h5⟩ E' g w => c ts I G' H' ρ' ?_ E' g w) xo
  subst h2
  refine ⟨h1, by rw [List.length_map]; exact h3, fun i t e => ?_, fun us hl hp => h5 us (by rw [hl, List.length_map]) fun i x u hx hu => hp i u hu x hx⟩
  obtain ⟨x, hx, hm, rfl⟩ := map_at e
  refine fun O σ G H v Q hn E hv c xo => h4 x hm O σ G H v Q hn E hv (fun σ' G' H' ρ2 hn' E' g' q2 => c σ' G' H' ρ2 hn' E' g' (ev_mono q2 fun r ρ4 ⟨u, ρ5, f5, k5, p5⟩ => ⟨u, ρ5, f5, k5, fun y hy => ?_⟩)) xo
  rw [hx] at hy
  cases hy
  exact p5
/-- values drawn: numbers, things -/
theorem props_map {α β : Type} {f : β → T} {P : β → Prop} {xs : List α} {us : List T} (hl : us.length = xs.length) (h : ∀ (i : Nat) x u, xs[i]? = some x → us[i]? = some u → ∃ y, u = f y ∧ P y) : ∃ ys : List β, us = ys.map f ∧ ys.length = xs.length ∧ ∀ y ∈ ys, P y := by
  obtain ⟨ys, rfl, hp⟩ := map_ofI (f := f) (P := P) (us := us) fun i u hu => by
    obtain ⟨x, hx⟩ := get_of_lt (xs := xs) (i := i) (by have := lt_of_get hu; omega)
    exact h i x u hx hu
  exact ⟨ys, rfl, by rw [← hl, List.length_map], hp⟩
/-- a draw of numbers below a bound etc. -/
theorem ev_mapD {α β : Type} {xs : List α} {h : α → T} (f : β → T) (P : β → Prop) {wi : TI} {g : TG} {vs : List Nat} (gk : GOk g vs)
    (q : EvI J wi ρ fun ts ρ1 => J.n ≤ ρ1.length ∧ ts = xs.map h ∧ xs.length ≤ 100000 ∧
      (∀ x, x ∈ xs → EvG J.q g (.sh (h x)) (wipeU vs (ρ1.take J.n)) fun ρ2 => EvE J.q te ρ2 fun r ρ4 => ∃ y ρ5, Fz J.n r ρ4 (f y) ρ5 ∧ Kps J.n ρ1 ρ5 ∧ P y) ∧
      ∀ ys : List β, ys.length = xs.length → (∀ y ∈ ys, P y) → Φ (.sh (.lst (ys.map f))) ρ1) : EvE J (tLc wi g tYes te vs) ρ Φ := by
  refine ev_mapP (xs := xs) (h := h) (fun _ u => ∃ y, u = f y ∧ P y) gk fun O σ G H R hn E c xo => q O σ G H R hn E (fun ts I G' H' ρ' ⟨h1, h2, h3, h4, h5⟩ E' g w => c ts I G' H' ρ' ⟨h1, h2, h3, fun x hm => ?_, fun us hl hp => ?_⟩ E' g w) xo
  · refine fun O σ G H v Q hn E hv c xo => h4 x hm O σ G H v Q hn E hv (fun σ' G' H' ρ2 hn' E' g' q2 => c σ' G' H' ρ2 hn' E' g' (ev_mono q2 fun r ρ4 ⟨y, ρ5, f5, k5, p5⟩ => ⟨f y, ρ5, f5, k5, y, rfl, p5⟩)) xo
  · obtain ⟨ys, rfl, l, p⟩ := props_map hl hp
    exact h5 ys l p
end
end Tr
namespace Tr
open PySem L2 Vk
theorem lean_row {r : Rows} (ko : r.ok) {w : Nat} (h : w < r.P) : r.lean[w]? = some (r.lean.getD w []) := by
  obtain ⟨row, hrow⟩ := get_of_lt (xs := r.lean) (i := w) (by have := ko.ll; unfold Rows.P at h; omega)
  rw [List.getD_eq_getElem?_getD, hrow]
  rfl
theorem lean_len {r : Rows} (ko : r.ok) {w : Nat} (h : w < r.P) : (r.lean.getD w []).length + 1 = r.N := by
  have := ko.rl _ (List.mem_of_getElem? (lean_row ko h))
  have := ko.pos
  omega
theorem atI_lean {r : Rows} (ko : r.ok) {w : Nat} (h : w < r.P) {f : List Nat → T} : atI (List.map f r.lean) (w : Int) = some (f (r.lean.getD w [])) := atI_map (lean_row ko h)
theorem atI_lean0 {r : Rows} (ko : r.ok) {f : List Nat → T} : atI (List.map f r.lean) (0 : Int) = some (f (r.lean.getD 0 [])) := atI_map (k := 0) (lean_row ko ko.s1)
theorem lean0_len {r : Rows} (ko : r.ok) : ((nt (r.lean.getD 0 [])).length : Int) + 1 = (r.N : Int) := by
  have := lean_len ko ko.s1
  rw [nt_len]
  omega
theorem lean_lt {r : Rows} (ko : r.ok) : r.lean.length = r.P := ko.ll
theorem two_of {α : Type} {qs : List α} (l : qs.length = 2) : ∃ Q : Nat → α, qs = [Q 0, Q 1] := by
  match qs, l with
  | [a, b], _ => exact ⟨fun i => if i = 0 then a else b, rfl⟩
theorem two_mem {α : Type} {Q : Nat → α} {i : Nat} (h : i < 2) : Q i ∈ [Q 0, Q 1] := List.mem_of_getElem? (get2 h)
theorem atI_two {α : Type} {f : Nat → α} {i : Nat} (h : i < 2) : atI [f 0, f 1] (i : Int) = some (f i) := atI_nat (get2 h)
theorem atI_map2 {α : Type} {Q : Nat → α} {h : α → T} {i : Nat} (hi : i < 2) : atI (List.map h [Q 0, Q 1]) (i : Int) = some (h (Q i)) := atI_map (get2 hi)
def upd2 {α : Type} (S : Nat → α) (i : Nat) (x : α) : Nat → α := fun j => if j = i then x else S j
theorem set_two {α : Type} {S : Nat → α} {h : α → T} {x : α} {i : Nat} (hi : i < 2) : (List.map h [S 0, S 1]).set i (h x) = List.map h [upd2 S i x 0, upd2 S i x 1] := by
  match i, hi with
  | 0, _ => rfl
  | 1, _ => rfl
theorem upd2_all {α : Type} {S : Nat → α} {P : Nat → α → Prop} {x : α} {i n : Nat} (h : ∀ j, j < n → P j (S j)) (hx : P i x) : ∀ j, j < n → P j (upd2 S i x j) := fun j hj => by
  unfold upd2
  split
  · rename_i e
    exact e ▸ hx
  · exact h j hj
def cutL {α : Type} (xs : List α) (lo hi : Option Int) : List α := (xs.drop (HT.sIx xs.length 0 lo)).take (HT.sIx xs.length xs.length hi - HT.sIx xs.length 0 lo)
theorem cutT_map {α : Type} {xs : List α} {f : α → T} {lo hi : Option Int} : cutT (xs.map f) lo hi = (cutL xs lo hi).map f := by
  unfold cutT cutL
  rw [List.length_map, List.map_take, List.map_drop]
theorem cutL_len {α : Type} {xs : List α} {lo hi : Option Int} : (cutL xs lo hi).length ≤ xs.length := by
  unfold cutL
  rw [List.length_take, List.length_drop]
  omega
theorem nm_sh {ns : List Nat} : ns.map (fun n : Nat => T.int (n : Int)) = nt ns := rfl
end Tr
namespace Tr
open PySem L2 Vk
/-! ### own objects within own objects -/
def M.root : M → Option Addr
  | .t _ => none
  | .lst a _ => some a
  | .ins a _ _ => some a
  | .dk a _ => some a
  | .dt a _ => some a
def M.kids : M → List M
  | .t _ => []
  | .lst _ xs => xs
  | .ins _ _ fs => fs.map Prod.snd
  | .dk _ kvs => kvs.map Prod.snd
  | .dt _ kvs => kvs.map Prod.snd
def M.cell (H : Hp) : M → List V → Prop
  | .t _, _ => False
  | .lst a _, vs => H a = some (.lst vs)
  | .ins a C fs, vs => ∃ dx ws, H a = some (.ins C dx ws) ∧ ws.map Prod.fst = fs.map Prod.fst ∧ ws.map Prod.snd = vs
  | .dk a kvs, vs => ∃ ws, H a = some (.dK ws) ∧ ws.map Prod.fst = kvs.map Prod.fst ∧ ws.map Prod.snd = vs
  | .dt a kvs, vs => ∃ ws, H a = some (.dT ws) ∧ ws.map Prod.fst = kvs.map Prod.fst ∧ ws.map Prod.snd = vs
def setSnd {α : Type} : List (α × M) → Nat → M → List (α × M)
  | [], _, _ => []
  | p :: ps, 0, x => (p.1, x) :: ps
  | p :: ps, k + 1, x => p :: setSnd ps k x
theorem setSnd_fst {α : Type} : ∀ {fs : List (α × M)} {k : Nat} {x : M}, (setSnd fs k x).map Prod.fst = fs.map Prod.fst
  | [], _, _ => rfl
  | p :: ps, 0, x => rfl
  | p :: ps, k + 1, x => congrArg (p.1 :: ·) (setSnd_fst (fs := ps))
theorem setSnd_snd {α : Type} : ∀ {fs : List (α × M)} {k : Nat} {x : M}, (setSnd fs k x).map Prod.snd = (fs.map Prod.snd).set k x
  | [], _, _ => rfl
  | p :: ps, 0, x => rfl
  | p :: ps, k + 1, x => congrArg (p.2 :: ·) (setSnd_snd (fs := ps))
def M.setKid (m : M) (k : Nat) (x : M) : M := match m with
  | .t u => .t u
  | .lst a xs => .lst a (xs.set k x)
  | .ins a C fs => .ins a C (setSnd fs k x)
  | .dk a fs => .dk a (setSnd fs k x)
  | .dt a fs => .dt a (setSnd fs k x)
def M.get : M → List Nat → Option M
  | m, [] => some m
  | m, k :: p => match m.kids[k]? with
    | some c => c.get p
    | none => none
def M.put : M → List Nat → M → M
  | _, [], x => x
  | m, k :: p, x => match m.kids[k]? with
    | some c => m.setKid k (c.put p x)
    | none => m
theorem ads_root {m : M} {a : Addr} (h : m.root = some a) : m.ads = a :: adsL m.kids := by
  cases m with
  | t t => cases h
  | lst b xs => cases h; rw [M.ads]; rfl
  | ins b C fs => cases h; rw [M.ads, adsF_snd]; rfl
  | dk b fs => cases h; rw [M.ads, adsK_snd]; rfl
  | dt b fs => cases h; rw [M.ads, adsT_snd]; rfl
theorem ads_none {m : M} (h : m.root = none) : m.ads = [] := by
  cases m with
  | t t => rw [M.ads]
  | _ => cases h
theorem root_set {m : M} {k : Nat} {x : M} : (m.setKid k x).root = m.root := by cases m <;> rfl
theorem kids_set {m : M} {k : Nat} {x : M} : (m.setKid k x).kids = m.kids.set k x := by
  cases m with
  | t t => rfl
  | lst a xs => rfl
  | ins a C fs => exact setSnd_snd
  | dk a fs => exact setSnd_snd
  | dt a fs => exact setSnd_snd
theorem cell_set {H : Hp} {m : M} {k : Nat} {x : M} {vs : List V} (h : m.cell H vs) : (m.setKid k x).cell H vs := by
  cases m with
  | t t => exact h
  | lst a xs => exact h
  | ins a C fs =>
    obtain ⟨dx, ws, e, f, g⟩ := h
    exact ⟨dx, ws, e, by rw [f, setSnd_fst], g⟩
  | dk a fs =>
    obtain ⟨ws, e, f, g⟩ := h
    exact ⟨ws, e, by rw [f, setSnd_fst], g⟩
  | dt a fs =>
    obtain ⟨ws, e, f, g⟩ := h
    exact ⟨ws, e, by rw [f, setSnd_fst], g⟩
theorem cell_same {H H' : Hp} {m : M} {a : Addr} {vs : List V} (r : m.root = some a) (k : ∀ o, H a = some o → H' a = some o) (h : m.cell H vs) : m.cell H' vs := by
  cases m with
  | t t => exact h
  | lst b xs => cases r; exact k _ h
  | ins b C fs =>
    cases r
    obtain ⟨dx, ws, e, f, g⟩ := h
    exact ⟨dx, ws, k _ e, f, g⟩
  | dk b fs =>
    cases r
    obtain ⟨ws, e, f, g⟩ := h
    exact ⟨ws, k _ e, f, g⟩
  | dt b fs =>
    cases r
    obtain ⟨ws, e, f, g⟩ := h
    exact ⟨ws, k _ e, f, g⟩
section
variable {K : PySem.W.Frag} {G H G' H' : Hp}
theorem MR.view {v : V} {m : M} {a : Addr} (h : MR K G H v m) (r : m.root = some a) : v = .ref a ∧ ∃ vs, m.cell H vs ∧ MRL K G H vs m.kids := by
  cases h with
  | t h => cases r
  | lst e l => cases r; exact ⟨rfl, _, e, l⟩
  | ins e f l => cases r; exact ⟨rfl, _, ⟨_, _, e, f, rfl⟩, l⟩
  | dk e f l => cases r; exact ⟨rfl, _, ⟨_, e, f, rfl⟩, l⟩
  | dt e f l => cases r; exact ⟨rfl, _, ⟨_, e, f, rfl⟩, l⟩
theorem MR.mk {m : M} {a : Addr} {vs : List V} (r : m.root = some a) (c : m.cell H vs) (l : MRL K G H vs m.kids) : MR K G H (.ref a) m := by
  cases m with
  | t t => cases r
  | lst b xs => cases r; exact .lst c l
  | ins b C fs =>
    cases r
    obtain ⟨dx, ws, e, f, g⟩ := c
    subst g
    exact .ins e f l
  | dk b fs =>
    cases r
    obtain ⟨ws, e, f, g⟩ := c
    subst g
    exact .dk e f l
  | dt b fs =>
    cases r
    obtain ⟨ws, e, f, g⟩ := c
    subst g
    exact .dt e f l
theorem MRL.len : ∀ {vs : List V} {ms : List M}, MRL K G H vs ms → vs.length = ms.length
  | _, _, .nil => rfl
  | _, _, .cons _ r => congrArg (· + 1) (MRL.len r)
theorem MRL.get : ∀ {vs : List V} {ms : List M} {i : Nat} {m : M}, MRL K G H vs ms → ms[i]? = some m → ∃ v, vs[i]? = some v ∧ MR K G H v m
  | _, _, _, _, .nil, e => by simp at e
  | _, _, 0, _, .cons h _, e => by simp at e; subst e; exact ⟨_, rfl, h⟩
  | _, _, i + 1, m, .cons _ r, e => by
    obtain ⟨v, h1, h2⟩ := MRL.get (i := i) (m := m) r (by simpa using e)
    exact ⟨v, by simpa using h1, h2⟩
theorem MRL.app : ∀ {vs ws : List V} {ms ns : List M}, MRL K G H vs ms → MRL K G H ws ns → MRL K G H (vs ++ ws) (ms ++ ns)
  | _, _, _, _, .nil, s => s
  | _, _, _, _, .cons h r, s => .cons h (MRL.app r s)
theorem MRL.one {v : V} {m : M} (h : MR K G H v m) : MRL K G H [v] [m] := .cons h .nil
theorem adsL_app : ∀ {ms ns : List M}, adsL (ms ++ ns) = adsL ms ++ adsL ns
  | [], _ => rfl
  | m :: ms, ns => by rw [List.cons_append, adsL, adsL, adsL_app, List.append_assoc]
theorem adsL_mem : ∀ {ms : List M} {k : Nat} {c : M} {b : Addr}, ms[k]? = some c → b ∈ c.ads → b ∈ adsL ms
  | [], k, c, b, e, _ => by simp at e
  | m :: ms, 0, c, b, e, h => by simp at e; subst e; rw [adsL]; exact List.mem_append_left _ h
  | m :: ms, k + 1, c, b, e, h => by rw [adsL]; exact List.mem_append_right _ (adsL_mem (by simpa using e) h)
theorem adsL_set : ∀ {ms : List M} {k : Nat} {c x : M}, ms[k]? = some c → x.ads = c.ads → adsL (ms.set k x) = adsL ms
  | [], k, c, x, e, _ => by simp at e
  | m :: ms, 0, c, x, e, h => by simp at e; subst e; show adsL (x :: ms) = _; rw [adsL, adsL, h]
  | m :: ms, k + 1, c, x, e, h => by
    show adsL (m :: ms.set k x) = _
    rw [adsL, adsL, adsL_set (by simpa using e) h]
theorem MRL.setk {b : Addr} {o : HO} : ∀ {vs : List V} {ms : List M} {k : Nat} {c x : M}, MRL K G H vs ms → (adsL ms).Nodup → ms[k]? = some c → b ∈ c.ads → (∀ v, MR K G H v c → MR K G (upd H b o) v x) → MRL K G (upd H b o) vs (ms.set k x)
  | _, _, k, c, x, .nil, _, e, _, _ => by simp at e
  | _, _, 0, c, x, .cons h r, nd, e, hb, hx => by
    simp at e
    subst e
    rw [adsL] at nd
    obtain ⟨_, _, n3⟩ := List.nodup_append.mp nd
    exact .cons (hx _ h) (r.same (fun _ _ z => z) fun a ha o' e' => by
      rw [upd_ne (fun z => n3 b hb a ha z.symm)]
      exact e')
  | _, m :: ms, k + 1, c, x, .cons h r, nd, e, hb, hx => by
    rw [adsL] at nd
    obtain ⟨_, n2, n3⟩ := List.nodup_append.mp nd
    have ek : ms[k]? = some c := by simpa using e
    exact .cons (h.same (fun _ _ z => z) fun a ha o' e' => by
      rw [upd_ne (fun z => n3 a ha b (adsL_mem ek hb) z)]
      exact e') (MRL.setk r n2 ek hb hx)
theorem MRL.news : ∀ {vs : List V} {ms : List M}, MRL K G H vs ms → (∀ a ∈ adsL ms, ∀ o, H a = some o → H' a = some o) → MRL K G H' vs ms := fun h k => h.same (fun _ _ z => z) k
/-- one object within is written -/
theorem MR.put {b : Addr} {o : HO} {x y : M} (hx : ∀ w, MR K G H w x → MR K G (upd H b o) w y) (hy : y.ads = x.ads) (hb : b ∈ x.ads) : ∀ {p : List Nat} {v : V} {m : M}, MR K G H v m → m.ads.Nodup → m.get p = some x → MR K G (upd H b o) v (m.put p y) ∧ (m.put p y).ads = m.ads ∧ b ∈ m.ads
  | [], v, m, h, nd, e => by
    cases e
    exact ⟨hx v h, hy, hb⟩
  | k :: p, v, m, h, nd, e => by
    rw [M.get] at e
    rw [M.put]
    cases ek : m.kids[k]? with
    | none => rw [ek] at e; cases e
    | some c =>
      rw [ek] at e
      dsimp only at e ⊢
      cases r : m.root with
      | none =>
        cases m with
        | t t => simp [M.kids] at ek
        | _ => cases r
      | some a =>
        obtain ⟨ev, vs, ce, l⟩ := h.view r
        subst ev
        have ha := ads_root r
        rw [ha] at nd
        obtain ⟨n1, n2⟩ := List.nodup_cons.mp nd
        have ndc : c.ads.Nodup := by
          clear ce l e
          generalize m.kids = ms at ek n2
          induction ms generalizing k with
          | nil => simp at ek
          | cons q ms ih =>
            rw [adsL] at n2
            obtain ⟨q1, q2, _⟩ := List.nodup_append.mp n2
            cases k with
            | zero => simp at ek; subst ek; exact q1
            | succ k => exact ih k (by simpa using ek) q2
        obtain ⟨_, _, wc⟩ := l.get ek
        obtain ⟨_, ea, hbc⟩ := MR.put hx hy hb wc ndc e
        have hba : b ∈ adsL m.kids := adsL_mem ek hbc
        have nab : a ≠ b := fun z => n1 (z ▸ hba)
        have rr : (m.setKid k (c.put p y)).root = some a := root_set.trans r
        refine ⟨MR.mk rr (cell_same rr (fun o' e' => by rw [upd_ne nab]; exact e') (cell_set ce)) ?_, ?_, by rw [ha]; exact List.mem_cons_of_mem _ hba⟩
        · rw [kids_set]
          exact l.setk n2 ek hbc fun w hw => (MR.put hx hy hb hw ndc e).1
        · rw [ads_root rr, kids_set, adsL_set ek ea, ha]
end
end Tr
namespace Tr
open PySem L2 Vk
mutual
def M.tree : M → T
  | .t u => u
  | .lst _ xs => .lst (treeL xs)
  | .ins _ C fs => .ins C (treeF fs)
  | .dk _ fs => .dk (treeK fs)
  | .dt _ fs => .dt (treeT fs)
def treeL : List M → List T
  | [] => []
  | m :: ms => m.tree :: treeL ms
def treeF : List (Str × M) → List (Str × T)
  | [] => []
  | (f, m) :: ms => (f, m.tree) :: treeF ms
def treeK : List (Key × M) → List (Key × T)
  | [] => []
  | (f, m) :: ms => (f, m.tree) :: treeK ms
def treeT : List (List Key × M) → List (List Key × T)
  | [] => []
  | (f, m) :: ms => (f, m.tree) :: treeT ms
end
theorem treeL_map : ∀ ms : List M, treeL ms = ms.map M.tree
  | [] => by rw [treeL]; rfl
  | m :: ms => by rw [treeL, treeL_map ms]; rfl
theorem treeF_fst : ∀ ms : List (Str × M), (treeF ms).map Prod.fst = ms.map Prod.fst
  | [] => by rw [treeF]; rfl
  | (f, m) :: ms => by rw [treeF, List.map_cons, List.map_cons, treeF_fst ms]
theorem treeF_snd : ∀ ms : List (Str × M), (treeF ms).map Prod.snd = treeL (ms.map Prod.snd)
  | [] => by rw [treeF]; show _ = treeL []; rw [treeL]; rfl
  | (f, m) :: ms => by rw [treeF, List.map_cons, List.map_cons, treeL, treeF_snd ms]
theorem treeK_fst : ∀ ms : List (Key × M), (treeK ms).map Prod.fst = ms.map Prod.fst
  | [] => by rw [treeK]; rfl
  | (f, m) :: ms => by rw [treeK, List.map_cons, List.map_cons, treeK_fst ms]
theorem treeK_snd : ∀ ms : List (Key × M), (treeK ms).map Prod.snd = treeL (ms.map Prod.snd)
  | [] => by rw [treeK]; show _ = treeL []; rw [treeL]; rfl
  | (f, m) :: ms => by rw [treeK, List.map_cons, List.map_cons, treeL, treeK_snd ms]
theorem treeT_fst : ∀ ms : List (List Key × M), (treeT ms).map Prod.fst = ms.map Prod.fst
  | [] => by rw [treeT]; rfl
  | (f, m) :: ms => by rw [treeT, List.map_cons, List.map_cons, treeT_fst ms]
theorem treeT_snd : ∀ ms : List (List Key × M), (treeT ms).map Prod.snd = treeL (ms.map Prod.snd)
  | [] => by rw [treeT]; show _ = treeL []; rw [treeL]; rfl
  | (f, m) :: ms => by rw [treeT, List.map_cons, List.map_cons, treeL, treeT_snd ms]
section
variable {K : PySem.W.Frag} {J : Jd} {O : Out} {G H G' H' : Hp} {σ : List (Option V)} {ρ ρ1 ρ2 ρ' : List U} {Φ : R → List U → Prop} {te ta tb : TE} {i j k n : Nat} {t t1 t2 u : T} {ts us : List T} {a b c C D : Addr} {m mc x : M} {p : List Nat} {f : Str} {xs : List M} {fs : List (Str × M)} {z : Int}
mutual
theorem MR.frz (s : Same G G') : ∀ {v : V} {m : M}, MR K G H v m → (∀ b ∈ m.ads, ∀ o, H b = some o → G' b = some o) → Rep K G' v m.tree
  | _, _, .t r, _ => by rw [M.tree]; exact r.mono s
  | _, _, .lst e l, h => by
    rw [M.tree]
    exact .lst (h _ (by rw [M.ads]; exact List.mem_cons_self) _ e) (MRL.frz s l fun b hb => h b (by rw [M.ads]; exact List.mem_cons_of_mem _ hb))
  | _, _, .ins e f l, h => by
    rw [M.tree]
    exact .ins (h _ (by rw [M.ads]; exact List.mem_cons_self) _ e) (by rw [treeF_fst]; exact f) (by rw [treeF_snd]; exact MRL.frz s l fun b hb => h b (by rw [M.ads, adsF_snd]; exact List.mem_cons_of_mem _ hb))
  | _, _, .dk e f l, h => by
    rw [M.tree]
    exact .dk (h _ (by rw [M.ads]; exact List.mem_cons_self) _ e) (by rw [treeK_fst]; exact f) (by rw [treeK_snd]; exact MRL.frz s l fun b hb => h b (by rw [M.ads, adsK_snd]; exact List.mem_cons_of_mem _ hb))
  | _, _, .dt e f l, h => by
    rw [M.tree]
    exact .dt (h _ (by rw [M.ads]; exact List.mem_cons_self) _ e) (by rw [treeT_fst]; exact f) (by rw [treeT_snd]; exact MRL.frz s l fun b hb => h b (by rw [M.ads, adsT_snd]; exact List.mem_cons_of_mem _ hb))
theorem MRL.frz (s : Same G G') : ∀ {vs : List V} {ms : List M}, MRL K G H vs ms → (∀ b ∈ adsL ms, ∀ o, H b = some o → G' b = some o) → RepL K G' vs (treeL ms)
  | _, _, .nil, _ => by rw [treeL]; exact .nil
  | _, _, .cons r l, h => by
    rw [treeL]
    exact .cons (MR.frz s r fun b hb => h b (by rw [adsL]; exact List.mem_append_left _ hb)) (MRL.frz s l fun b hb => h b (by rw [adsL]; exact List.mem_append_right _ hb))
end
/-- a state whose own objects stand at fewer or other places -/
theorem Env.stepG {as : List Addr} (E : Env K O G H σ ρ) (same : Same G' H') (gg : Same G G') (keep : ∀ b o, H b = some o → b ∉ as → H' b = some o) (dom : ∀ b, H b ≠ none → H' b ≠ none)
    (nofrz : ∀ b, H b ≠ none → b ∉ as → G b = none → G' b = none) (has : ∀ a ∈ as, a ∈ own ρ) (hl : σ.length ≤ ρ'.length) (ho : ∀ a ∈ own ρ', a ∈ own ρ) (hnd : (own ρ').Nodup)
    (hv : ∀ (i : Nat) (u : U), ρ'[i]? = some u → i < σ.length → SlotV K G' σ[i]? u) (hs : ∀ (i : Nat) (u : U), ρ'[i]? = some u → ObjU K G' H' u) : Env K O G' H' σ ρ' := by
  have nas : ∀ b, O.H b ≠ none → ¬ O.own b → b ∉ as := fun b h1 h2 m => (E.mine b (has b m)).elim h1 h2
  exact ⟨same, E.gg.trans gg, fun b o e n => keep b o (E.keep b o e n) (nas b (by rw [e]; simp) n), fun b n => dom b (E.dom b n), fun b n m e => nofrz b (E.dom b n) (nas b n m) (E.nofrz b n m e), hl, hv, hs, fun a h => E.mine a (ho a h), hnd⟩
def frzS (G H : Hp) (S : List Addr) : Hp := fun b => if b ∈ S then H b else G b
/-- part of what is one's own is frozen -/
theorem Env.frzS {S : List Addr} {u w : U} (E : Env K O G H σ ρ) (h : ρ[i]? = some u) (hS : ∀ b ∈ S, b ∈ u.ads) (hw : ∀ b ∈ w.ads, b ∈ u.ads ∧ b ∉ S) (ndw : w.ads.Nodup) (hslot : ∀ x, SlotV K G x u → SlotV K (Tr.frzS G H S) x w) (hob : ObjU K (Tr.frzS G H S) H w) :
    Same G (Tr.frzS G H S) ∧ Env K O (Tr.frzS G H S) H σ (ρ.set i w) := by
  have hn : ∀ b ∈ u.ads, G b = none := fun b hb => (E.there (own_mem h hb)).2
  have gg : Same G (Tr.frzS G H S) := fun b o e => by
    unfold Tr.frzS
    rw [if_neg (fun hb => by rw [hn b (hS b hb)] at e; cases e)]
    exact e
  have sub : ∀ {k : Nat} {y : U} {b : Addr}, (ρ.set i w)[k]? = some y → b ∈ y.ads → ∃ z, ρ[k]? = some z ∧ b ∈ z.ads := fun {k y b} hk hb => by
    rcases get_set h hk with ⟨rfl, rfl⟩ | ⟨_, hk⟩
    · exact ⟨u, h, (hw b hb).1⟩
    · exact ⟨y, hk, hb⟩
  refine ⟨gg, E.stepG (as := S) (fun b o e => ?_) gg (fun b o e _ => e) (fun b n => n) (fun b n m e => ?_) (fun b hb => own_mem h (hS b hb)) (by rw [List.length_set]; exact E.len) (fun b hb => ?_) (nodup_of_uniq (fun k l y z b hk hl hy hz => ?_) fun k y hk => ?_) (fun k y hk hl => ?_) fun k y hk => ?_⟩
  · unfold Tr.frzS at e
    split at e
    · exact e
    · exact E.same b o e
  · unfold Tr.frzS
    rw [if_neg m]
    exact e
  · obtain ⟨k, y, hk, hy⟩ := own_of hb
    obtain ⟨z, hz, hbz⟩ := sub hk hy
    exact own_mem hz hbz
  · obtain ⟨y', hy', by'⟩ := sub hk hy
    obtain ⟨z', hz', bz'⟩ := sub hl hz
    exact own_uniq E.nd hy' hz' by' bz'
  · rcases get_set h hk with ⟨_, rfl⟩ | ⟨_, hk⟩
    · exact ndw
    · exact own_nd E.nd hk
  · rcases get_set h hk with ⟨rfl, rfl⟩ | ⟨_, hk⟩
    · exact hslot _ (E.at_ _ _ h hl)
    · exact (E.at_ k y hk hl).mono gg
  · rcases get_set h hk with ⟨rfl, rfl⟩ | ⟨nk, hk⟩
    · exact hob
    · refine (E.ob k y hk).keep gg fun b hb => ⟨fun _ z => z, ?_⟩
      unfold Tr.frzS
      rw [if_neg fun hbS => nk (own_uniq E.nd hk h hb (hS b hbS))]
      exact (E.there (own_mem hk hb)).2
theorem frzS_mem {S : List Addr} (hb : b ∈ S) : Tr.frzS G H S b = H b := if_pos hb
/-- all of it is a tree from here on -/
theorem Env.frzD (E : Env K O G H σ ρ) (h : ρ[i]? = some (.dp a m)) : ∃ G', Same G G' ∧ Env K O G' H σ (ρ.set i (.sh m.tree)) ∧ Rep K G' (.ref a) m.tree := by
  obtain ⟨hd, hn, r⟩ := E.ob i _ h
  have gg : Same G (Tr.frzS G H m.ads) := fun b o e => by
    unfold Tr.frzS
    rw [if_neg (fun hb => by rw [hn b hb] at e; cases e)]
    exact e
  have rp : Rep K (Tr.frzS G H m.ads) (.ref a) m.tree := r.frz gg fun b hb o e => by rw [frzS_mem hb]; exact e
  obtain ⟨g, E'⟩ := E.frzS (S := m.ads) (w := .sh m.tree) h (fun b hb => hb) (fun b hb => by cases hb) List.nodup_nil (fun x hx => ⟨_, hx, rp⟩) trivial
  exact ⟨_, g, E', rp⟩
/-- all but the object itself -/
theorem Env.ofD (E : Env K O G H σ ρ) (h : ρ[i]? = some (.dp a (.ins a C fs))) : ∃ G', Same G G' ∧ Env K O G' H σ (ρ.set i (.mu a (.ins C (treeF fs)))) := by
  have ob := E.ob i _ h
  obtain ⟨hd, hn, r⟩ := ob
  have nd := own_nd E.nd h
  rw [show (U.dp a (.ins a C fs)).ads = a :: adsL (fs.map Prod.snd) from ads_root (m := .ins a C fs) rfl] at nd
  obtain ⟨n1, n2⟩ := List.nodup_cons.mp nd
  have ea : (U.dp a (.ins a C fs)).ads = a :: adsL (fs.map Prod.snd) := ads_root (m := .ins a C fs) rfl
  have gg : Same G (Tr.frzS G H (adsL (fs.map Prod.snd))) := fun b o e => by
    unfold Tr.frzS
    rw [if_neg (fun hb => by rw [hn b (by show b ∈ (U.dp a (.ins a C fs)).ads; rw [ea]; exact List.mem_cons_of_mem _ hb)] at e; cases e)]
    exact e
  have ga : Tr.frzS G H (adsL (fs.map Prod.snd)) a = none := by
    unfold Tr.frzS
    rw [if_neg n1]
    exact hn a (by show a ∈ (U.dp a (.ins a C fs)).ads; rw [ea]; exact List.mem_cons_self)
  have mr : MRep K (Tr.frzS G H (adsL (fs.map Prod.snd))) H a (.ins C (treeF fs)) := by
    cases r with
    | ins e f l => exact ⟨_, _, e, by rw [treeF_fst]; exact f, by rw [treeF_snd]; exact l.frz gg fun b hb o e => by rw [frzS_mem hb]; exact e⟩
  obtain ⟨g, E'⟩ := E.frzS (S := adsL (fs.map Prod.snd)) (w := .mu a (.ins C (treeF fs))) h (fun b hb => by rw [ea]; exact List.mem_cons_of_mem _ hb) (fun b hb => by rw [mem_one hb]; exact ⟨by rw [ea]; exact List.mem_cons_self, n1⟩) (by simp [U.ads]) (fun x hx => hx) ⟨ga, mr⟩
  exact ⟨_, g, E'⟩
/-- an object of one's own, seen as one with parts -/
theorem adsL_t : ∀ ts : List T, adsL (ts.map M.t) = []
  | [] => by show adsL [] = []; rw [adsL]
  | t :: ts => by show adsL (.t t :: ts.map M.t) = []; rw [adsL, adsL_t ts, M.ads]; rfl
theorem MRL.of : ∀ {vs : List V} {ts : List T}, RepL K G vs ts → MRL K G H vs (ts.map M.t)
  | _, _, .nil => .nil
  | _, _, .cons h r => .cons (.t h) (MRL.of r)
def fsM (gs : List (Str × T)) : List (Str × M) := gs.map fun p => (p.1, .t p.2)
theorem Env.toD {gs : List (Str × T)} (E : Env K O G H σ ρ) (h : ρ[i]? = some (.mu a (.ins C gs))) : Env K O G H σ (ρ.set i (.dp a (.ins a C (fsM gs)))) := by
  obtain ⟨n, dx, vs, e, f, r⟩ := E.ob i _ h
  have f1 : (fsM gs).map Prod.fst = gs.map Prod.fst := by unfold fsM; rw [List.map_map]; rfl
  have f2 : (fsM gs).map Prod.snd = (gs.map Prod.snd).map M.t := by unfold fsM; rw [List.map_map, List.map_map]; rfl
  have ea : (U.dp a (.ins a C (fsM gs))).ads = [a] := by
    show (M.ins a C (fsM gs)).ads = [a]
    rw [ads_root (m := .ins a C (fsM gs)) rfl]
    show a :: adsL ((fsM gs).map Prod.snd) = [a]
    rw [f2, adsL_t]
  refine E.step (as := []) E.same (fun _ _ z => z) (fun b o e _ => e) (fun b n => n) (fun b _ _ e => e) (fun b h => by cases h) (ad_set h ea) (fun k y hk hl => ?_) fun k y hk => ?_
  · rcases get_set h hk with ⟨rfl, rfl⟩ | ⟨_, hk⟩
    · have q := E.at_ _ _ h hl
      exact q
    · exact E.at_ k y hk hl
  · rcases get_set h hk with ⟨rfl, rfl⟩ | ⟨_, hk⟩
    · refine ⟨by rw [show (M.ins a C (fsM gs)).ads = [a] from ea]; rfl, fun b hb => by rw [show (M.ins a C (fsM gs)).ads = [a] from ea] at hb; rw [mem_one hb]; exact n, .ins e (by rw [f1]; exact f) (by rw [f2]; exact MRL.of r)⟩
    · exact E.ob k y hk
end
end Tr
namespace Tr
open PySem L2 Vk
section
variable {K : PySem.W.Frag} {J : Jd} {O : Out} {G H G' H' : Hp} {σ : List (Option V)} {ρ ρ1 ρ2 ρ' : List U} {Φ : R → List U → Prop} {te ta tb : TE} {i j k n : Nat} {t t1 t2 u : T} {ts us : List T} {a b c C D : Addr} {m mc x m' : M} {p : List Nat} {f : Str} {xs : List M} {fs : List (Str × M)} {z : Int} {Dp : PD}
/-- what stands at a place within -/
def M.res (i : Nat) (p : List Nat) : M → R
  | .t u => .sh u
  | .lst a _ => .mq i a p
  | .ins a _ _ => .mq i a p
  | .dk a _ => .mq i a p
  | .dt a _ => .mq i a p
theorem MR.at_ : ∀ {p : List Nat} {v : V} {m : M}, MR K G H v m → m.get p = some x → ∃ w, MR K G H w x
  | [], v, m, h, e => by cases e; exact ⟨v, h⟩
  | k :: p, v, m, h, e => by
    rw [M.get] at e
    cases ek : m.kids[k]? with
    | none => rw [ek] at e; cases e
    | some c =>
      rw [ek] at e
      cases r : m.root with
      | none =>
        cases m with
        | t t => simp [M.kids] at ek
        | _ => cases r
      | some a =>
        obtain ⟨_, vs, _, l⟩ := h.view r
        obtain ⟨_, _, wc⟩ := l.get ek
        exact MR.at_ wc e
theorem MR.val {v : V} (h : MR K G H v m) : Val K G v (m.res i p) := by
  cases h with
  | t r => exact r
  | _ => rfl
theorem ev_varq (h : ρ[i]? = some (.dp a m)) (hi : i < J.n) (q : Φ (.mq i a []) ρ) : EvE J (tVar i) ρ Φ := fun O σ G H Q hn E c => ⟨_, E.at_ i _ h (hn ▸ hi), c.here E q rfl⟩
/-- x.f, x within -/
theorem ev_fldq (h : EvE J te ρ fun r ρ1 => ∃ i b p a m C fs k m', r = .mq i b p ∧ ρ1[i]? = some (.dp a m) ∧ m.get p = some (.ins b C fs) ∧ Cls J.K C ∧ NoAttr J.K C f ∧ fidx (fs.map Prod.fst) f = some k ∧ (fs.map Prod.snd)[k]? = some m' ∧ Φ (m'.res i (p ++ [k])) ρ1) : EvE J (tFld J.K te f) ρ Φ := by
  intro O σ G H Q hn E c
  refine h O σ G H _ hn E ⟨fun v r G1 H1 ρ1 ⟨i, b, p, a, m, C, fs, k, m', e, hi, hp, cl, na, hk, hm, q⟩ E1 r1 g1 => ?_, c.x⟩
  subst e
  cases r1
  obtain ⟨_, _, mr⟩ := E1.ob i _ hi
  obtain ⟨w, mw⟩ := mr.at_ hp
  cases mw with
  | ins e f1 l =>
    obtain ⟨v, hv, mv⟩ := l.get hm
    exact ⟨_, C, _, _, v, rfl, e, cl, na, fidx_look (by rw [f1]; exact hk) hv, (c.on g1).here E1 q mv.val⟩
theorem rd_ixq (hr : ρ[i]? = some (.dp a m)) (hp : m.get p = some (.lst b xs)) (hk : xs[k]? = some m') (q : Φ (m'.res i (p ++ [k])) ρ) : Rd2 J (rIx J.K) (.mq i b p) (.sh (.int (k : Int))) ρ Φ := by
  intro O σ G H Q v w hn E hv hw c
  cases hw
  cases hv
  obtain ⟨_, _, mr⟩ := E.ob i _ hr
  obtain ⟨w, mw⟩ := mr.at_ hp
  cases mw with
  | lst e l =>
    obtain ⟨v, hv, mv⟩ := l.get hk
    exact .inl ⟨b, _, (k : Int), v, rfl, rfl, SqL.of e, atI_nat hv, c.here E q mv.val⟩
theorem ty_mq (hr : ρ[i]? = some (.dp a m)) (hp : m.get p = some (.lst b xs)) : ∀ O σ G H v, Env K O G H σ ρ → Val K G v (.mq i b p) → tyV K "list" v H := fun O σ G H v E hv => by
  cases hv
  obtain ⟨_, _, mr⟩ := E.ob i _ hr
  obtain ⟨w, mw⟩ := mr.at_ hp
  cases mw with
  | lst e l => exact .inl ⟨rfl, _, SqL.of e⟩
theorem get_ads : ∀ {p : List Nat} {m x : M}, m.get p = some x → ∀ b ∈ x.ads, b ∈ m.ads
  | [], m, x, e, b, hb => by cases e; exact hb
  | k :: p, m, x, e, b, hb => by
    rw [M.get] at e
    cases ek : m.kids[k]? with
    | none => rw [ek] at e; cases e
    | some c =>
      rw [ek] at e
      cases r : m.root with
      | none =>
        cases m with
        | t t => simp [M.kids] at ek
        | _ => cases r
      | some a =>
        rw [ads_root r]
        exact List.mem_cons_of_mem _ (adsL_mem ek (get_ads e b hb))
/-- an object within is written, its parts of one's own the same -/
theorem Env.writeQ {o : HO} {x y : M} (E : Env K O G H σ ρ) (h : ρ[i]? = some (.dp a m)) (hp : m.get p = some x) (hr : x.root = some b) (hx : ∀ w, MR K G H w x → MR K G (upd H b o) w y) (hy : y.ads = x.ads) : Env K O G (upd H b o) σ (ρ.set i (.dp a (m.put p y))) := by
  obtain ⟨hd, hn, mr⟩ := E.ob i _ h
  have bx : b ∈ x.ads := by rw [ads_root hr]; exact List.mem_cons_self
  obtain ⟨mr2, ea, hb⟩ := mr.put hx hy bx (own_nd E.nd h) hp
  have ha : b ∈ own ρ := own_mem h hb
  obtain ⟨⟨o0, e0⟩, gn⟩ := E.there ha
  refine E.step (as := [b]) (fun d u e => ?_) (fun _ _ z => z) (fun d u e nb => ?_) (fun d nb => ?_) (fun d _ _ e => e) (fun d hd => by rw [mem_one hd]; exact ha) (ad_set h ea) (fun k u hk hl => ?_) fun k u hk => ?_
  · rw [upd_ne (ne_of_none e gn)]
    exact E.same d u e
  · rw [upd_ne (fun z => nb (List.mem_singleton.mpr z))]
    exact e
  · by_cases c : d = b
    · subst c
      rw [upd_same]
      simp
    · rw [upd_ne c]
      exact nb
  · rcases get_set h hk with ⟨rfl, rfl⟩ | ⟨nk, hk2⟩
    · have q := E.at_ _ _ h hl
      exact q
    · exact E.at_ k u hk2 hl
  · rcases get_set h hk with ⟨rfl, rfl⟩ | ⟨nk, hk2⟩
    · exact ⟨by rw [ea]; exact hd, fun d hd => by rw [ea] at hd; exact hn d hd, mr2⟩
    · refine (E.ob k u hk2).keep (fun _ _ z => z) fun d ed => ⟨fun o' e' => ?_, (E.there (own_mem hk2 ed)).2⟩
      rw [upd_ne]
      · exact e'
      · intro z
        subst z
        exact nk (own_uniq E.nd hk2 h ed hb)
theorem adsL_snoc_t {xs : List M} {t : T} : adsL (xs ++ [.t t]) = adsL xs := by
  rw [adsL_app]
  show adsL xs ++ adsL [.t t] = _
  rw [adsL, adsL, M.ads]
  simp
theorem rm_appq {r : R} (f : Fz J.n r ρ t ρ1) (hr : ρ1[i]? = some (.dp a m)) (hp : m.get p = some (.lst b xs)) (hl : xs.length < 100000) (q : Φ (.sh .non) (ρ1.set i (.dp a (m.put p (.lst b (xs ++ [.t t])))))) : RdM J rAppend (.mq i b p) [r] ρ Φ := by
  intro O σ G H Q v vs hn E hv hvs c
  cases hv
  cases hvs with
  | cons h1 h2 =>
    cases h2
    obtain ⟨G', g', E', r'⟩ := f.ok hn E h1
    obtain ⟨_, _, mr⟩ := E'.ob i _ hr
    obtain ⟨w, mw⟩ := mr.at_ hp
    cases mw with
    | @lst _ ys _ e l =>
      refine ⟨b, ys, _, rfl, rfl, e, by rw [l.len]; exact small_acc hl (Nat.le_refl _), ?_⟩
      refine c.v _ (.sh .non) G' _ _ q (E'.writeQ (b := b) hr hp rfl (fun w hw => ?_) ?_) .non g'
      · cases hw with
        | lst e2 l2 =>
          rw [e] at e2
          cases e2
          have nd : (M.lst b xs).ads.Nodup := by
            have nm := own_nd E'.nd hr
            clear q c
            have gen : ∀ {p : List Nat} {m : M}, m.ads.Nodup → m.get p = some (.lst b xs) → (M.lst b xs).ads.Nodup := by
              intro p
              induction p with
              | nil => intro m n e; cases e; exact n
              | cons k p ih =>
                intro m n e
                rw [M.get] at e
                cases ek : m.kids[k]? with
                | none => rw [ek] at e; cases e
                | some c =>
                  rw [ek] at e
                  cases r : m.root with
                  | none =>
                    cases m with
                    | t t => simp [M.kids] at ek
                    | _ => cases r
                  | some a =>
                    rw [ads_root r] at n
                    have n2 := (List.nodup_cons.mp n).2
                    refine ih ?_ e
                    generalize m.kids = ms at ek n2
                    clear e ih
                    induction ms generalizing k with
                    | nil => simp at ek
                    | cons q ms ih2 =>
                      rw [adsL] at n2
                      obtain ⟨q1, q2, _⟩ := List.nodup_append.mp n2
                      cases k with
                      | zero => simp at ek; subst ek; exact q1
                      | succ k => exact ih2 k (by simpa using ek) q2
            exact gen nm hp
          rw [M.ads] at nd
          obtain ⟨n1, _⟩ := List.nodup_cons.mp nd
          exact .lst upd_same ((l2.same (fun _ _ z => z) fun d hd o' e' => by
            rw [upd_ne (fun z => by subst z; exact n1 hd)]
            exact e').app (.one (.t r')))
      · rw [M.ads, M.ads, adsL_snoc_t]
/-! ### seen otherwise -/
theorem es_toD {tS : TS} {gs : List (Str × T)} (h : ρ[i]? = some (.mu a (.ins C gs))) (e : ρ.set i (.dp a (.ins a C (fsM gs))) = ρ1) (q : EvS J tS ρ1 Dp) : EvS J tS ρ Dp := fun O σ G H D0 hn E S => by
  subst e
  exact q O σ G H D0 hn (E.toD h) S
theorem es_ofD {tS : TS} (h : ρ[i]? = some (.dp a (.ins a C fs))) (e : ρ.set i (.mu a (.ins C (treeF fs))) = ρ1) (q : EvS J tS ρ1 Dp) : EvS J tS ρ Dp := fun O σ G H D0 hn E S => by
  obtain ⟨G', g, E'⟩ := E.ofD h
  subst e
  exact q O σ G' H D0 hn E' (S.on g)
theorem es_frzD {tS : TS} (h : ρ[i]? = some (.dp a m)) (e : ρ.set i (.sh m.tree) = ρ1) (q : EvS J tS ρ1 Dp) : EvS J tS ρ Dp := fun O σ G H D0 hn E S => by
  obtain ⟨G', g, E', _⟩ := E.frzD h
  subst e
  exact q O σ G' H D0 hn E' (S.on g)
end
end Tr
namespace Tr
open PySem L2 Vk
section
variable {K : PySem.W.Frag} {J : Jd} {O : Out} {G H G' H' : Hp} {σ : List (Option V)} {ρ ρ1 ρ2 ρ' : List U} {Φ : R → List U → Prop} {te ta tb : TE} {i j k n : Nat} {t t1 t2 u : T} {ts us : List T} {a b c C D : Addr} {m mc x m' : M} {p : List Nat} {f : Str} {xs : List M} {fs : List (Str × M)} {z : Int} {Dp : PD} {ps : List Addr}
theorem flat_one {α : Type} : ∀ ps : List α, (ps.map fun p => [p]).flatten = ps
  | [] => rfl
  | p :: ps => by rw [List.map_cons, List.flatten_cons, flat_one ps]; rfl
theorem own_mus {f : Nat → T} : own (mus f ps) = ps := by
  have h : (mus f ps).map U.ads = ps.map fun p => [p] := by
    refine List.ext_getElem? fun i => ?_
    unfold mus
    rw [List.getElem?_map, List.getElem?_mapIdx, List.getElem?_map]
    cases ps[i]? <;> rfl
  unfold own
  rw [List.flatMap_def, h, flat_one]
theorem adsL_flat : ∀ ms : List M, adsL ms = (ms.map M.ads).flatten
  | [] => by rw [adsL]; rfl
  | m :: ms => by rw [adsL, adsL_flat ms]; rfl
/-- own lists of trees, at ps -/
def mlists (g : Nat → List T) (ps : List Addr) : List M := ps.mapIdx fun i p => .lst p ((g i).map M.t)
theorem ads_lst_t {ts : List T} : (M.lst a (ts.map M.t)).ads = [a] := by rw [M.ads, adsL_t]
theorem mlists_get {g : Nat → List T} (h : ps[i]? = some a) : (mlists g ps)[i]? = some (.lst a ((g i).map M.t)) := by
  unfold mlists
  rw [List.getElem?_mapIdx, h]
  rfl
theorem mlists_len {g : Nat → List T} : (mlists g ps).length = ps.length := List.length_mapIdx
theorem adsL_mlists {g : Nat → List T} : adsL (mlists g ps) = ps := by
  have h : (mlists g ps).map M.ads = ps.map fun p => [p] := by
    refine List.ext_getElem? fun i => ?_
    unfold mlists
    rw [List.getElem?_map, List.getElem?_mapIdx, List.getElem?_map]
    cases ps[i]? with
    | none => rfl
    | some q => exact congrArg some ads_lst_t
  rw [adsL_flat, h, flat_one]
theorem RepL.objs : ∀ {vs : List V} {ps : List Addr}, RepL K G vs (ps.map T.obj) → vs = ps.map V.ref
  | _, [], h => by cases h; rfl
  | _, p :: ps, h => by
    cases h with
    | cons h r =>
      cases h
      rw [RepL.objs r]
      rfl
theorem MRL.mk : ∀ {vs : List V} {ms : List M}, vs.length = ms.length → (∀ (i : Nat) v m, vs[i]? = some v → ms[i]? = some m → MR K G H v m) → MRL K G H vs ms
  | [], [], _, _ => .nil
  | v :: vs, m :: ms, l, h => .cons (h 0 v m rfl rfl) (MRL.mk (by simpa using l) fun i v m h1 h2 => h (i + 1) v m (by simpa using h1) (by simpa using h2))
theorem Env.gather {g : Nat → List T} (E : Env K O G H σ (ρ ++ .mu D (.lst (ps.map T.obj)) :: mus (fun i => .lst (g i)) ps)) (hl : σ.length ≤ ρ.length) : Env K O G H σ (ρ ++ [.dp D (.lst D (mlists g ps))]) := by
  have e0 : (ρ ++ U.mu D (.lst (ps.map T.obj)) :: mus (fun i => .lst (g i)) ps)[ρ.length]? = some (.mu D (.lst (ps.map T.obj))) := by rw [List.getElem?_append_right (Nat.le_refl _), Nat.sub_self]; rfl
  have ek : ∀ (k : Nat) p, ps[k]? = some p → (ρ ++ U.mu D (.lst (ps.map T.obj)) :: mus (fun i => .lst (g i)) ps)[ρ.length + (k + 1)]? = some (.mu p (.lst (g k))) := fun k p hp => by
    rw [List.getElem?_append_right (by omega), show ρ.length + (k + 1) - ρ.length = k + 1 by omega, List.getElem?_cons_succ]
    unfold mus
    rw [List.getElem?_mapIdx, hp]
    rfl
  have ea : (U.dp D (.lst D (mlists g ps))).ads = D :: ps := by
    show (M.lst D (mlists g ps)).ads = _
    rw [M.ads, adsL_mlists]
  have eo : own (ρ ++ [U.dp D (.lst D (mlists g ps))]) = own (ρ ++ .mu D (.lst (ps.map T.obj)) :: mus (fun i => .lst (g i)) ps) := by
    rw [own_app, own_app, own_cons, own_cons, ea, own_mus]
    show own ρ ++ ((D :: ps) ++ []) = own ρ ++ ([D] ++ ps)
    rw [List.append_nil]
    rfl
  have hin : ∀ {k : Nat} {w : U}, (ρ ++ [U.dp D (.lst D (mlists g ps))])[k]? = some w → (k < ρ.length ∧ ρ[k]? = some w) ∨ (k = ρ.length ∧ w = .dp D (.lst D (mlists g ps))) := fun {k w} hk => by
    by_cases c : k < ρ.length
    · rw [List.getElem?_append_left c] at hk
      exact .inl ⟨c, hk⟩
    · rw [List.getElem?_append_right (by omega)] at hk
      cases q : k - ρ.length with
      | zero => rw [q] at hk; exact .inr ⟨by omega, (Option.some.inj hk).symm⟩
      | succ r => rw [q] at hk; simp at hk
  obtain ⟨gD, vs, eD, rD⟩ := E.ob _ _ e0
  have ev := rD.objs
  subst ev
  refine ⟨E.same, E.gg, E.keep, E.dom, E.nofrz, by rw [List.length_append]; omega, fun k w hk hs => ?_, fun k w hk => ?_, fun b hb => E.mine b (eo ▸ hb), by rw [eo]; exact E.nd⟩
  · rcases hin hk with ⟨c, hk⟩ | ⟨rfl, _⟩
    · exact E.at_ k w (by rw [List.getElem?_append_left c]; exact hk) hs
    · omega
  · rcases hin hk with ⟨c, hk⟩ | ⟨_, rfl⟩
    · exact E.ob k w (by rw [List.getElem?_append_left c]; exact hk)
    · refine ⟨by rw [show (M.lst D (mlists g ps)).ads = D :: ps from ea]; rfl, fun b hb => ?_, .lst eD (.mk (by rw [mlists_len, List.length_map]) fun q v m hv hm => ?_)⟩
      · rw [show (M.lst D (mlists g ps)).ads = D :: ps from ea] at hb
        exact (E.there (by rw [← eo, own_app, own_cons, ea]; exact List.mem_append_right _ (List.mem_append_left _ hb))).2
      · rw [List.getElem?_map] at hv
        cases hp : ps[q]? with
        | none => rw [hp] at hv; cases hv
        | some p =>
          rw [hp] at hv
          cases hv
          rw [mlists_get hp] at hm
          cases hm
          obtain ⟨_, ws, ew, rw'⟩ := E.ob _ _ (ek q p hp)
          exact .lst ew (MRL.of rw')
/-- [[..] for g in wi], each a new list of one's own -/
theorem evm_lcD {wi : TI} {g : TG} {vs : List Nat} {gg : Nat → List T} (gk : GOk g vs)
    (h : EvI J wi ρ fun ts ρ1 => J.n ≤ ρ1.length ∧ ts.length ≤ 100000 ∧
      (∀ (i : Nat) t, ts[i]? = some t → EvG J.q g (.sh t) (wipeU vs (ρ1.take J.n)) fun ρ2 => EvE J.q te ρ2 fun r ρ4 => ∃ p ρ5, r = .mr ρ5.length p ∧ ρ4 = ρ5 ++ [.mu p (.lst (gg i))] ∧ J.n ≤ ρ5.length ∧ Kps J.n ρ1 ρ5) ∧
      ∀ D ps, ps.length = ts.length → Φ (.mr ρ1.length D) (ρ1 ++ [.dp D (.lst D (mlists gg ps))])) : EvM J (tLc wi g tYes te vs) ρ Φ := by
  intro O σ G H Q hn E c
  have h2 : EvM J (tLc wi g tYes te vs) ρ fun r ρ2 => ∃ ρ1 D ps, J.n ≤ ρ1.length ∧ r = .mr ρ1.length D ∧ ρ2 = ρ1 ++ .mu D (.lst (ps.map T.obj)) :: mus (fun i => .lst (gg i)) ps ∧ Φ (.mr ρ1.length D) (ρ1 ++ [.dp D (.lst D (mlists gg ps))]) :=
    evm_lcO (f := fun i => .lst (gg i)) gk fun O σ G H R hn E c xo => h O σ G H R hn E (fun ts I G' H' ρ' ⟨h1, h2, h3, h4⟩ E' g' w => c ts I G' H' ρ' ⟨h1, h2, h3, fun D ps hps => ⟨ρ', D, ps, h1, rfl, rfl, h4 D ps hps⟩⟩ E' g' w) xo
  refine h2 O σ G H Q hn E ⟨fun v r G1 H1 ρ2 ⟨ρ1, D, ps, hl, er, e2, q⟩ E1 r1 g1 => ?_, c.x⟩
  subst er e2
  exact c.v v _ G1 H1 _ q (E1.gather (by omega)) r1 g1
/-- self.f = a new object with parts -/
theorem es_fldD {tv to : TE} (h : EvE J tv ρ fun r ρ1 => ∃ j c mc, r = .mr j c ∧ ρ1[j]? = some (.dp c mc) ∧ J.n ≤ j ∧ EvE J to ρ1 fun o ρ2 => ∃ i a C fs ρ4, o = .mq i a [] ∧ i < J.n ∧ ρ2[j]? = some (.dp c mc) ∧ ρ2[i]? = some (.dp a (.ins a C fs)) ∧ Cls J.K C ∧ NoAttr J.K C f ∧ fidx (fs.map Prod.fst) f = none ∧ fs.length < 900 ∧ J.n ≤ ρ2.length ∧
      ((ρ2.set j .no).set i (.dp a (.ins a C (fs ++ [(f, mc)])))).take J.n = ρ4 ∧ Dp.nx ρ4) : EvS J (sFld J.K to tv f) ρ Dp := by
  intro O σ G H D0 hn E S
  refine h O σ G H _ hn E ⟨fun v r G1 H1 ρ1 ⟨j, c, mc, er, _, hnj, h2⟩ E1 r1 g1 => ?_, S.x⟩
  subst er
  cases r1
  refine h2 O σ G1 H1 _ hn E1 ⟨fun w o G3 H3 ρ2 ⟨i, a, C, fs, ρ4, e, hin, hj, hi, cl, na, hk, hl, hn3, e4, q⟩ E3 r3 g3 => ?_, S.x.on g1⟩
  subst e e4
  cases r3
  obtain ⟨hd, hG, mr⟩ := E3.ob i _ hi
  obtain ⟨hdc, hGc, mrc⟩ := E3.ob j _ hj
  have nij : i ≠ j := by omega
  have ndi := own_nd E3.nd hi
  have ndj := own_nd E3.nd hj
  have eai : (U.dp a (.ins a C fs)).ads = a :: adsL (fs.map Prod.snd) := ads_root (m := .ins a C fs) rfl
  have ean : (U.dp a (.ins a C (fs ++ [(f, mc)]))).ads = a :: (adsL (fs.map Prod.snd) ++ mc.ads) := by
    show (M.ins a C (fs ++ [(f, mc)])).ads = _
    rw [ads_root (m := .ins a C (fs ++ [(f, mc)])) rfl]
    show a :: adsL ((fs ++ [(f, mc)]).map Prod.snd) = _
    rw [List.map_append, adsL_app]
    show a :: (adsL _ ++ adsL [mc]) = _
    rw [adsL, adsL, List.append_nil]
  have dij : ∀ b, b ∈ (U.dp a (.ins a C fs)).ads → b ∈ mc.ads → False := fun b h1 h2 => nij (own_uniq E3.nd hi hj h1 h2)
  have ai : a ∈ (U.dp a (.ins a C fs)).ads := by rw [eai]; exact List.mem_cons_self
  have ga : G3 a = none := hG a ai
  have aown : a ∈ own ρ2 := own_mem hi ai
  cases mr with
  | @ins _ _ dx vs _ e1 f1 l =>
    have ll : vs.length = fs.length := by have := congrArg List.length f1; simpa using this
    refine ⟨a, C, dx, vs, rfl, e1, cl, na, by omega, ?_⟩
    rw [putF_new (α := Nat) (by rw [f1]; exact hk)]
    have split_ : ∀ {k : Nat} {y : U} {b : Addr}, ((ρ2.set j .no).set i (.dp a (.ins a C (fs ++ [(f, mc)]))))[k]? = some y → b ∈ y.ads → (∃ z, ρ2[k]? = some z ∧ b ∈ z.ads ∧ k ≠ j) ∨ (k = i ∧ b ∈ mc.ads) := fun {k y b} hky hb => by
      rcases get_setL hky with ⟨rfl, rfl⟩ | ⟨nk, hky⟩
      · rw [ean] at hb
        rcases List.mem_cons.mp hb with rfl | hb
        · exact .inl ⟨_, hi, ai, nij⟩
        · rcases List.mem_append.mp hb with hb | hb
          · exact .inl ⟨_, hi, by rw [eai]; exact List.mem_cons_of_mem _ hb, nij⟩
          · exact .inr ⟨rfl, hb⟩
      · rcases get_setL hky with ⟨rfl, rfl⟩ | ⟨nj, hky⟩
        · cases hb
        · exact .inl ⟨y, hky, hb, nj⟩
    have E4 : Env J.K O G3 (upd H3 a (.ins C dx (vs ++ [(f, .ref c)]))) σ ((ρ2.set j .no).set i (.dp a (.ins a C (fs ++ [(f, mc)])))) := by
      refine E3.stepG (as := [a]) (fun b o e => ?_) (fun _ _ z => z) (fun b o e nb => ?_) (fun b nb => ?_) (fun b _ _ e => e) (fun b hb => by rw [mem_one hb]; exact aown) (by rw [List.length_set, List.length_set]; exact E3.len) (fun b hb => ?_) (nodup_of_uniq (fun k q y z b hk hq hy hz => ?_) fun k y hk => ?_) (fun k y hk hs => ?_) fun k y hk => ?_
      · rw [upd_ne (ne_of_none e ga)]
        exact E3.same b o e
      · rw [upd_ne (fun z => nb (List.mem_singleton.mpr z))]
        exact e
      · by_cases cb : b = a
        · subst cb
          rw [upd_same]
          simp
        · rw [upd_ne cb]
          exact nb
      · obtain ⟨k, y, hk, hy⟩ := own_of hb
        rcases split_ hk hy with ⟨z, hz, hbz, _⟩ | ⟨_, hbc⟩
        · exact own_mem hz hbz
        · exact own_mem hj hbc
      · rcases split_ hk hy with ⟨y', hy', by', nk⟩ | ⟨ek, bc⟩
        · rcases split_ hq hz with ⟨z', hz', bz', nq⟩ | ⟨eq, bc2⟩
          · exact own_uniq E3.nd hy' hz' by' bz'
          · exact absurd (own_uniq E3.nd hy' hj by' bc2) nk
        · rcases split_ hq hz with ⟨z', hz', bz', nq⟩ | ⟨eq, bc2⟩
          · exact absurd (own_uniq E3.nd hz' hj bz' bc) nq
          · rw [ek, eq]
      · rcases get_setL hk with ⟨rfl, rfl⟩ | ⟨_, hk⟩
        · rw [ean]
          rw [eai] at ndi
          obtain ⟨n1, n2⟩ := List.nodup_cons.mp ndi
          refine List.nodup_cons.mpr ⟨fun hm => ?_, List.nodup_append.mpr ⟨n2, ndj, fun b h1 d h2 e => ?_⟩⟩
          · rcases List.mem_append.mp hm with hm | hm
            · exact n1 hm
            · exact dij a ai hm
          · subst e
            exact dij b (by rw [eai]; exact List.mem_cons_of_mem _ h1) h2
        · rcases get_setL hk with ⟨rfl, rfl⟩ | ⟨_, hk⟩
          · exact List.nodup_nil
          · exact own_nd E3.nd hk
      · rcases get_setL hk with ⟨rfl, rfl⟩ | ⟨_, hk⟩
        · have q := E3.at_ _ _ hi hs
          exact q
        · rcases get_setL hk with ⟨rfl, rfl⟩ | ⟨_, hk⟩
          · trivial
          · exact E3.at_ k y hk hs
      · rcases get_setL hk with ⟨rfl, rfl⟩ | ⟨nk, hk⟩
        · refine ⟨by rw [show (M.ins a C (fs ++ [(f, mc)])).ads = _ from ean]; rfl, fun b hb => ?_, .ins upd_same ?_ ?_⟩
          · rw [show (M.ins a C (fs ++ [(f, mc)])).ads = _ from ean] at hb
            rcases List.mem_cons.mp hb with rfl | hb
            · exact ga
            · rcases List.mem_append.mp hb with hb | hb
              · exact hG b (by show b ∈ (U.dp a (.ins a C fs)).ads; rw [eai]; exact List.mem_cons_of_mem _ hb)
              · exact hGc b hb
          · rw [List.map_append, List.map_append, f1]
            rfl
          · rw [List.map_append, List.map_append]
            rw [eai] at ndi
            have n1 := (List.nodup_cons.mp ndi).1
            exact (l.same (fun _ _ z => z) fun b hb o e => by
              rw [upd_ne (fun z => by subst z; exact n1 hb)]
              exact e).app (.one (mrc.same (fun _ _ z => z) fun b hb o e => by
              rw [upd_ne (fun z => by subst z; exact dij _ ai hb)]
              exact e))
        · rcases get_setL hk with ⟨rfl, rfl⟩ | ⟨nj, hk9⟩
          · trivial
          · refine (E3.ob k y hk9).keep (fun _ _ z => z) fun b eb => ⟨fun o' e' => ?_, (E3.there (own_mem hk9 eb)).2⟩
            rw [upd_ne]
            · exact e'
            · intro z
              subst z
              exact nk (own_uniq E3.nd hk9 hi eb ai)
    exact S.nx σ G3 _ _ hn (E4.cut (m := J.n) (by omega)) (g1.trans g3) q
end
end Tr
namespace Tr
open PySem L2 Vk
/-! ### readings with a name -/
def rJoin (K : PySem.W.Frag) : V → List V → Hp → VK → Prop := fun x xs H Q => ∃ a p, ∃ ys : List Str, x = .str a ∧ xs = [.ref p] ∧ (SqL K H p (ys.map V.str) ∨ SqT K H p (ys.map V.str)) ∧
      (ys.map (·.length)).sum + ys.length * a.length ≤ 16777216 ∧ Q (.str (Txt.join a ys)) H
theorem pe_joinK {X : Cx} {o e : Expr} {to te : TE} {K : PySem.W.Frag} {apos pos : Pos} (ho : PE X o to) (he : PE X e te) (hs : starEach [e] X.env = [(false, eval e X.env)] := by rfl) (hbase : attributeBase o "join" X.env (eval o X.env) = eval o X.env := by rfl) (hline : (apos.endLine == pos.line) = true := by rfl) (hk : X.K = K := by rfl) :
    PE X (.Call (.Attribute o "join" apos) [e] [] pos) (tM1 (rJoin K) to te) := hk ▸ pe_join ho he hs hbase hline
def rLenX : List V → Hp → VK → Prop := fun xs H Q => ∃ z, xs = [.str z] ∧ z.length ≤ sizeLine ∧ Q (.int z.length) H
theorem call_lenX {X : Cx} : CallR X (.builtin "len") rLenX := call_len_str
def rNotInX : R2 := fun x y H Q => ∃ i j, x = .str i ∧ y = .str j ∧ Q (.bl (!(!(Builtin.Str.occurrences j i 0 j.length 1).isEmpty))) H
theorem op_notInX {X : Cx} : OpR X (compareOp .NotIn) rNotInX := op_notin_str
/-! ### texts of two signs -/
def sgC (b : Bool) : Nat := if b then 43 else 45
def sg (b : Bool) : Str := ⟨#[sgC b]⟩
def wordS (bs : List Bool) : Str := ⟨(bs.map sgC).toArray⟩
theorem sg_lit {b : Bool} : (if b then T.str "+" else T.str "-") = T.str (sg b) := by cases b <;> rfl
theorem word_len {bs : List Bool} : (wordS bs).length = bs.length := by
  show (bs.map sgC).toArray.size = _
  simp
theorem strJ_nil : ∀ {xs : List (List Nat)}, TL.joinL [] xs = xs.flatten
  | [] => rfl
  | [p] => by simp [TL.joinL]
  | p :: q :: r => by
    show p ++ ([] ++ TL.joinL [] (q :: r)) = _
    rw [strJ_nil (xs := q :: r)]
    simp
theorem str_ext {a b : Str} (h : TL.tl a = TL.tl b) : a = b := by
  cases a; cases b
  simp only [TL.tl] at h
  congr
  exact Array.toList_inj.mp h
theorem join_word {bs : List Bool} : Txt.join "" (bs.map sg) = wordS bs := by
  rw [TL.join_eq]
  apply str_ext
  rw [TL.tl_join]
  show TL.joinL [] _ = _
  rw [strJ_nil, List.map_map]
  show (bs.map fun b => [sgC b]).flatten = (bs.map sgC).toArray.toList
  induction bs with
  | nil => rfl
  | cons b bs ih => simp only [List.map_cons, List.flatten_cons, ih]; simp
theorem word_at {bs : List Bool} {k : Nat} {b : Bool} (h : bs[k]? = some b) : atI (wordS bs).cps.toList (k : Int) = some (sgC b) := by
  refine atI_nat ?_
  show ((bs.map sgC).toArray.toList)[k]? = _
  rw [List.toList_toArray, List.getElem?_map, h]
  rfl
theorem word_items {bs : List Bool} : (wordS bs).cps.toList.map (fun c => T.str ⟨#[c]⟩) = bs.map fun b => T.str (sg b) := by
  show ((bs.map sgC).toArray.toList).map _ = _
  rw [List.toList_toArray, List.map_map]
  rfl
theorem sg_eq {b : Bool} : decide ((⟨#[sgC b]⟩ : Str) = "+") = b := by cases b <;> decide
theorem sg_in : ∀ b : Bool, (!(!(Builtin.Str.occurrences "+-" (sg b) 0 (Str.length "+-") 1).isEmpty)) = false := by decide +kernel
section
variable {K : PySem.W.Frag} {J : Jd} {ρ ρ1 ρ2 : List U} {Φ : R → List U → Prop} {Φ' : List T → List U → Prop} {te to ta tb : TE} {i j : Nat} {t t1 t2 u : T} {ts us : List T} {a b : Addr} {x y z : Int}
theorem ev_join (h : EvE J to ρ fun r ρ1 => ∃ s, r = .sh (.str s) ∧ EvE J te ρ1 fun q ρ2 => ∃ ts, ∃ ys : List Str, q = .sh (.lst ts) ∧ ts = ys.map T.str ∧ (ys.map (·.length)).sum + ys.length * s.length ≤ 16777216 ∧ Φ (.sh (.str (Txt.join s ys))) ρ2) : EvE J (tM1 (rJoin J.K) to te) ρ Φ := by
  intro O σ G H Q hn E c
  refine h O σ G H _ hn E ⟨fun v r G1 H1 ρ1 ⟨s, e, h1⟩ E1 r1 g1 => ?_, c.x⟩
  subst e
  cases r1
  refine ⟨⟨s, rfl⟩, h1 O σ G1 H1 _ hn E1 ⟨fun w q G2 H2 ρ2 ⟨ts, ys, e2, e3, hl, k⟩ E2 r2 g2 => ?_, c.x.on g1⟩⟩
  subst e2 e3
  cases r2 with
  | lst h rl =>
    rw [RepL.strs rl] at h
    exact ⟨s, _, ys, rfl, rfl, .inl (SqL.of (E2.same _ _ h)), hl, ((c.on g1).on g2).here E2 k (.str _)⟩
theorem rd_ixs {s : Str} {c : Nat} (hl : s.length ≤ 100000) (h : atI s.cps.toList z = some c) (q : Φ (.sh (.str ⟨#[c]⟩)) ρ) : Rd2 J (rIx J.K) (.sh (.str s)) (.sh (.int z)) ρ Φ := by
  intro O σ G H Q v w hn E hv hw cc
  cases hv
  cases hw
  exact .inr (.inr ⟨s, z, c, rfl, rfl, by rw [sizeLine_eq]; omega, h, cc.here E q (.str _)⟩)
theorem rl_lenX {s : Str} (hl : s.length ≤ 100000) (q : Φ (.sh (.int (s.length : Nat))) ρ) : RdL J rLenX [.sh (.str s)] ρ Φ := by
  intro O σ G H Q vs hn E hv c
  cases hv with
  | cons h h0 =>
    cases h0
    cases h
    exact ⟨s, rfl, by rw [sizeLine_eq]; omega, c.here E q (.int _)⟩
theorem rd_notInX {s s' : Str} (q : Φ (.sh (.bl (!(!(Builtin.Str.occurrences s' s 0 s'.length 1).isEmpty)))) ρ) : Rd2 J rNotInX (.sh (.str s)) (.sh (.str s')) ρ Φ := by
  intro O σ G H Q v w hn E hv hw c
  cases hv
  cases hw
  exact ⟨s, s', rfl, rfl, c.here E q (.bl _)⟩
theorem RepL.ofS {G : Hp} : ∀ {cs : List Nat}, RepL K G (cs.map fun c => V.str ⟨#[c]⟩) (cs.map fun c => T.str ⟨#[c]⟩)
  | [] => .nil
  | c :: cs => .cons (.str _) (RepL.ofS (cs := cs))
theorem ei_str (h : EvE J te ρ fun r ρ1 => ∃ s : Str, r = .sh (.str s) ∧ Φ' (s.cps.toList.map fun c => T.str ⟨#[c]⟩) ρ1) : EvI J (iStr te) ρ Φ' := by
  intro O σ G H R hn E c xo
  refine h O σ G H _ hn E ⟨fun v r G1 H1 ρ1 ⟨s, e, q⟩ E1 r1 g1 => ?_, xo⟩
  subst e
  cases r1
  refine ⟨s, rfl, c _ _ G1 H1 ρ1 q E1 g1 (.of RepL.ofS ?_)⟩
  have e : (s.cps.toList.map fun c => V.str ⟨#[c]⟩).length = s.cps.size := by rw [List.length_map, Array.length_toList]
  rw [e]
  refine walk_str.mono (fun _ _ => trivial) fun i H x H' hi _ ⟨e1, c, hc, ex⟩ => ⟨e1, ?_⟩
  rw [List.getElem?_map, Array.getElem?_toList, hc, ex]
  rfl
/-! ### numbers -/
theorem rd_neg {f : Int → Int} (q : Φ (.sh (.int (f x))) ρ) : Rd1 J (rU fun i => .int (f i)) (.sh (.int x)) ρ Φ := by
  intro O σ G H Q v hn E hv c
  cases hv
  exact ⟨x, rfl, c.here E q (.int _)⟩
theorem xor1 : ∀ k : Nat, k < 64 → ((k ^^^ 1 : Nat)) = if k % 2 = 0 then k + 1 else k - 1 := by decide +kernel
theorem xor1_int {k : Nat} (h : k < 64) : Builtin.bitXor (k : Int) 1 = ((if k % 2 = 0 then k + 1 else k - 1 : Nat) : Int) := by
  rw [Bits.bitXor_pp (by omega) (by decide), ← xor1 k h]
  rfl
/-! ### rows -/
theorem RD.lst {r : R} (d : RD ρ r (.lst ts)) {O : Out} {σ : List (Option V)} {G H : Hp} {v : V} (E : Env K O G H σ ρ) (hv : Val K G v r) : ∃ a vs, v = .ref a ∧ H a = some (.lst vs) ∧ RepL K G vs ts := by
  rcases d with rfl | ⟨i, a, us, rfl, hi, e⟩
  · cases hv with
    | lst h r => exact ⟨_, _, rfl, E.same _ _ h, r⟩
  · cases e
    cases hv
    obtain ⟨_, vs, e1, rx⟩ := E.ob i _ hi
    exact ⟨a, vs, rfl, e1, rx⟩
theorem rd_catN {r q : R} (d1 : RD ρ r (.lst ts)) (d2 : RD ρ q (.lst us)) (hl : ts.length + us.length ≤ 100000) (h : ∀ p, Φ (.mr ρ.length p) (ρ ++ [.mu p (.lst (ts ++ us))])) : Rd2 J rCat r q ρ Φ := by
  intro O σ G H Q v w hn E hv hw c
  obtain ⟨a, xs, rfl, e1, r1⟩ := d1.lst E hv
  obtain ⟨b, ys, rfl, e2, r2⟩ := d2.lst E hw
  exact ⟨a, b, xs, ys, rfl, rfl, e1, e2, by rw [r1.len, r2.len, sizeLine_eq]; omega, fun p np => c.fresh hn E np (r1.app r2) h⟩
theorem RepL.rep {G : Hp} {vs : List V} (r : RepL K G vs ts) : ∀ n, RepL K G (List.replicate n vs).flatten (List.replicate n ts).flatten
  | 0 => .nil
  | n + 1 => by
    rw [List.replicate_succ, List.replicate_succ, List.flatten_cons, List.flatten_cons]
    exact r.app (RepL.rep r n)
theorem rd_rep {r : R} (d : RD ρ r (.lst ts)) (z0 : -100000 ≤ z) (z1 : z ≤ 100000) (hl : ts.length * z.toNat ≤ 100000) (h : ∀ p, Φ (.mr ρ.length p) (ρ ++ [.mu p (.lst (List.replicate z.toNat ts).flatten)])) : Rd2 J rRep r (.sh (.int z)) ρ Φ := by
  intro O σ G H Q v w hn E hv hw c
  obtain ⟨a, xs, rfl, e1, r1⟩ := d.lst E hv
  cases hw
  exact ⟨a, z, xs, rfl, rfl, e1, by omega, by omega, by rw [r1.len, sizeLine_eq]; omega, fun p np => c.fresh hn E np (r1.rep _) h⟩
theorem rep1 {n : Nat} : (List.replicate n [t]).flatten = List.replicate n t := by
  induction n with
  | zero => rfl
  | succ n ih => rw [List.replicate_succ, List.flatten_cons, ih]; rfl
theorem rep_nt1 {n m : Nat} : (List.replicate n [T.int (m : Int)]).flatten = nt (List.replicate n m) := by rw [rep1]; simp [nt]
theorem atI_ltd {ns : List Nat} (h : ns ≠ []) : atI (nt ns) (-1) = some (T.int ((ns.getLastD 0 : Nat) : Int)) := by
  have hl : 0 < ns.length := List.length_pos_iff.mpr h
  have e : ixN (nt ns).length (-1) = some (ns.length - 1) := by
    rw [nt_len]
    unfold ixN
    rw [if_neg (by omega), if_pos (by omega)]
    congr 1
    omega
  unfold L2.atI
  rw [e]
  show (nt ns)[ns.length - 1]? = _
  rw [List.getLastD_eq_getLast?, List.getLast?_eq_getElem?]
  obtain ⟨m, hm⟩ := get_of_lt (xs := ns) (i := ns.length - 1) (by omega)
  rw [hm]
  exact nt_get hm
/-! ### op= -/
variable {Dp : PD}
theorem es_aug {f : Int → Int → Int} {C : Int → Int → Prop} (hi : ρ[i]? = some (.sh (.int x))) (hin : i < J.n) (h : EvE J te ρ fun r ρ1 => ∃ y ρ2, r = .sh (.int y) ∧ C x y ∧ J.n ≤ ρ1.length ∧ (ρ1.take J.n).set i (.sh (.int (f x y))) = ρ2 ∧ Dp.nx ρ2) : EvS J (tAug i te (rI C fun i j => .int (f i j))) ρ Dp := by
  intro O σ G H D0 hn E S
  obtain ⟨v, e, r⟩ := E.at_ i _ hi (hn ▸ hin)
  cases r
  refine ⟨_, e, h O σ G H _ hn E ⟨fun w q G1 H1 ρ1 ⟨y, ρ2, e2, hc, hl, e3, k⟩ E1 r1 g1 => ?_, S.x⟩⟩
  subst e2 e3
  cases r1
  exact ⟨x, y, rfl, rfl, hc, S.nx _ G1 H1 _ (by rw [List.length_set]; exact hn) ((E1.cut (by omega)).put (i := i) (w := .sh (.int (f x y))) rfl ⟨_, rfl, .int _⟩) g1 k⟩
theorem es_augL (hi : ρ[i]? = some (.mu a (.lst ts))) (hin : i < J.n) (h : EvE J te ρ fun r ρ1 => ∃ us ρ2, RD ρ1 r (.lst us) ∧ ρ1[i]? = some (.mu a (.lst ts)) ∧ ts.length + us.length ≤ 100000 ∧ J.n ≤ ρ1.length ∧ (ρ1.set i (.mu a (.lst (ts ++ us)))).take J.n = ρ2 ∧ Dp.nx ρ2) : EvS J (tAug i te rExt2) ρ Dp := by
  intro O σ G H D0 hn E S
  refine ⟨_, E.at_ i _ hi (hn ▸ hin), h O σ G H _ hn E ⟨fun w q G1 H1 ρ1 ⟨us, ρ2, d, hi1, hl, hl2, e3, k⟩ E1 r1 g1 => ?_, S.x⟩⟩
  subst e3
  obtain ⟨_, xs, e1, rx⟩ := E1.ob i _ hi1
  obtain ⟨b, ys, rfl, e2, r2⟩ := d.lst E1 r1
  refine ⟨a, b, xs, ys, rfl, rfl, e1, e2, by rw [rx.len, r2.len, sizeLine_eq]; omega, ?_⟩
  have hs : σ.set i (some (.ref a)) = σ := by
    have := E1.at_ i _ hi1 (hn ▸ hin)
    exact List.ext_getElem? fun k => by
      rw [List.getElem?_set]
      split
      · next e =>
        subst e
        rw [if_pos (by omega)]
        exact this.symm
      · rfl
  show D0.nx (σ.set i (some (.ref a))) _
  rw [hs]
  have w := E1.write (t' := .lst (ts ++ us)) hi1 (.lst (xs ++ ys)) ⟨_, upd_same, rx.app r2⟩
  exact S.nx σ G1 _ _ hn (w.cut (m := J.n) (by omega)) g1 k
end
end Tr
namespace Tr
open PySem L2 Vk
/-! ### an exception is made: its fields stored one by one -/
/-- __init__ of an exception's class: the arguments as fields, the last one first -/
def spOI (C : Addr) (ns : List Str) : Sp := fun vs H Q _ => ∃ (a : Addr) (xs : List V), vs = .ref a :: xs ∧ xs.length = ns.length ∧ H a = some (exo a C none) ∧
  ∀ d, H d = none → d ≠ a → Q .non (upd (upd H d (exd d (ns.zip xs).reverse)) a (exo a C (some d)))
theorem upd3 {H : Hp} {d a : Addr} {o1 o2 o3 : HO} (ne : d ≠ a) : upd (upd (upd H d o1) a o2) d o3 = upd (upd H d o3) a o2 := by
  funext b
  by_cases h : b = a
  · subst h
    rw [upd_same, upd_ne (Ne.symm ne), upd_same]
  · by_cases h2 : b = d
    · subst h2
      rw [upd_same, upd_ne h, upd_same]
    · rw [upd_ne h2, upd_ne h, upd_ne h2, upd_ne h, upd_ne h2]
structure OexF (K : PySem.W.Frag) (C : Addr) (ns : List Str) : Prop where
  T : OexC K C
  no : ∀ f ∈ ns, PySem.W.findIn K (.ref C) f = some none
section
variable {K : PySem.W.Frag} {C : Addr} {f1 f2 f3 : Str}
/-- the body of __init__ with one field | two | three -/
theorem oi1 (T : OexF K C [f1]) {vs : List V} {H : Hp} {Q : VK} {E : XK} (h : spOI C [f1] vs H Q E) : tOst K f1 (tVar 0) (tVar 1) { nx := fun _ H' => Q .non H', rt := Q } (L2.start ["self", f1] vs) H := by
  obtain ⟨a, xs, rfl, hl, ea, q⟩ := h
  match xs, hl with
  | [x], _ => exact ⟨_, rfl, _, rfl, a, C, rfl, T.T, T.no _ (by simp), .inl ⟨ea, fun dx n ne => q dx n ne⟩⟩
theorem oi2 (T : OexF K C [f1, f2]) {vs : List V} {H : Hp} {Q : VK} {E : XK} (h : spOI C [f1, f2] vs H Q E) : tSeq (tOst K f1 (tVar 0) (tVar 1)) (tOst K f2 (tVar 0) (tVar 2)) { nx := fun _ H' => Q .non H', rt := Q } (L2.start ["self", f1, f2] vs) H := by
  obtain ⟨a, xs, rfl, hl, ea, q⟩ := h
  match xs, hl with
  | [x, y], _ =>
    refine ⟨_, rfl, _, rfl, a, C, rfl, T.T, T.no _ (by simp), .inl ⟨ea, fun dx n ne => ?_⟩⟩
    refine ⟨_, rfl, _, rfl, a, C, rfl, T.T, T.no _ (by simp), .inr ⟨dx, _, upd_same, by rw [upd_ne ne, upd_same], by show 1 ≤ 900; omega, ?_⟩⟩
    rw [upd3 ne]
    exact q dx n ne
end
/-- a class of exceptions that stands, by its name -/
structure OkX (P : Program) (w : World) (K : PySem.W.Frag) (mg : Str → Option Value) (base : Heap) (k : Nat) (C : Addr) (x : Str) (ps ns : List Str) : Prop where
  T : OexC K C
  ex : ∃ (j : Nat) (fI : Addr) (fd : FuncData), j + 1 ≤ k ∧ PySem.W.findIn K (.ref C) "__init__" = some (some (.ref fI)) ∧ PySem.W.typeIn K (.ref fI) = some (.type "function") ∧ FnOk P w K mg base CX0 j fI fd ps (spOI C ns) ∧ Binds K fd ps []
  m : mg x = some (.ref C)
theorem OkX.mono {P w K mg base j k C x ps ns} (O : OkX P w K mg base j C x ps ns) (h : j ≤ k) : OkX P w K mg base k C x ps ns := by
  obtain ⟨i, f, fd, hj, r⟩ := O.ex
  exact ⟨O.T, ⟨i, f, fd, Nat.le_trans hj h, r⟩, O.m⟩
/-- raise C(e, ..) -/
def tRaiseX (C : Addr) (ns : List Str) (W : WX) (ta : TA) : TS := fun _ σ H => tMkO C (spOI C ns) [] ta σ H fun cls d H' => W cls d σ H'
theorem ps_raiseX {X : Cx} {k : Nat} {C : Addr} {x : Str} {ps ns : List Str} {W : WX} {e : Expr} {es : List Expr} {ta : TA} {p pos pos2 : Pos} (hc : X.calm = true) (tk : Takes X W) (O : OkX X.prog X.w X.K X.mg X.base k C x ps ns) (hr : Room k X.A) (hg : Gl X x) (ha : PA X (e :: es) ta)
    (hdb : (x == ("__debug__" : Str)) = false := by decide) (he : starEach (e :: es) X.env = (false, eval e X.env) :: starEach es X.env := by rfl) (hpl : (backTo pos (starEach es X.env)).any (·.1) = false := by rfl) :
    PS X (.Raise (some (.Call (.Name x p) (e :: es) [] pos)) none pos2) (tRaiseX C ns W ta) := by
  obtain ⟨j, fI, fd, hj, iC, tI, F1, hb⟩ := O.ex
  exact ps_raise hc tk (pmk_oex O.T iC tI F1 (hr.mono hj) hb .nil (fun _ _ _ _ _ _ _ h => by first | exact h | exact h.elim | (obtain ⟨_, _, _, _, _, _, _, _, _, _, _, _, z⟩ := h; exact z.elim)) hg O.m ha hdb he hpl)
/-- a def that may raise, by its name -/
structure OkR (P : Program) (w : World) (K : PySem.W.Frag) (mg : Str → Option Value) (base : Heap) (k : Nat) (x : Str) (ps : List Str) (sp : Sp) : Prop where
  ex : ∃ (f : Addr) (fd : FuncData), FnOk P w K mg base (L2.CX P w) k f fd ps sp ∧ Binds K fd ps [] ∧ PySem.W.keepIn K (.ref f) = true ∧ mg x = some (.ref f)
theorem OkR.mono {P w K mg base j k x ps sp} (O : OkR P w K mg base j x ps sp) (h : j ≤ k) : OkR P w K mg base k x ps sp := by
  obtain ⟨f, fd, F, r⟩ := O.ex
  exact ⟨f, fd, F.mono h, r⟩
section
variable {X : Cx} {k : Nat} {ps : List Str} {sp : Sp} {x : Str} {p pos : Pos} {e : Expr} {es : List Expr} {t : TA}
/-- its call where what it raises is let through, or caught -/
theorem pe_cR {W : WX} (O : OkR X.prog X.w X.K X.mg X.base k x ps sp) (hr : Room k X.A) (tk : Takes X W) (hg : Gl X x)
    (ha : PA X (e :: es) t) (hdb : (x == ("__debug__" : Str)) = false := by decide) (he : starEach (e :: es) X.env = (false, eval e X.env) :: starEach es X.env := by rfl) (hpl : (backTo pos (starEach es X.env)).any (·.1) = false := by rfl) :
    PE X (.Call (.Name x p) (e :: es) [] pos) (tCallS sp (fun σ cls d H => W cls d σ H) t) := by
  obtain ⟨f, fd, F, b, kp, m⟩ := O.ex
  exact pe_callS F hr hg m kp b (fun σ => passAt tk σ) ha hdb he hpl
/-- where it raises nothing -/
theorem pe_cR0 (O : OkR X.prog X.w X.K X.mg X.base k x ps sp) (hr : Room k X.A) (hg : Gl X x)
    (ha : PA X (e :: es) t) (hdb : (x == ("__debug__" : Str)) = false := by decide) (he : starEach (e :: es) X.env = (false, eval e X.env) :: starEach es X.env := by rfl) (hpl : (backTo pos (starEach es X.env)).any (·.1) = false := by rfl) :
    PE X (.Call (.Name x p) (e :: es) [] pos) (tCall sp [] E0 t) := by
  obtain ⟨f, fd, F, b, kp, m⟩ := O.ex
  exact pe_call F hr hg m kp b .nil passL ha hdb he hpl
end
/-- try: body; except c as slot i: suite -/
def tTryAs (K : PySem.W.Frag) (c : Value) (i : Nat) (Wout : WX) (tb : WX → TS) (ts : Addr → Value → Option Addr → TS) : TS := fun D σ H => tb (wAs K c i ts Wout D) D σ H
section
variable {K : PySem.W.Frag} {J : Jd} {ρ ρ1 ρ2 : List U} {Φ : R → List U → Prop} {te to ta tb : TE} {i j : Nat} {t t1 t2 u : T} {ts us : List T} {a b : Addr} {x y z : Int} {D : PD}
theorem zip_fst {α : Type} : ∀ {ns : List Str} {xs : List α}, xs.length = ns.length → (ns.zip xs).map Prod.fst = ns
  | [], [], _ => rfl
  | n :: ns, x :: xs, h => by
    rw [List.zip_cons_cons, List.map_cons, zip_fst (by simpa using h)]
theorem zip_snd {α : Type} : ∀ {ns : List Str} {xs : List α}, xs.length = ns.length → (ns.zip xs).map Prod.snd = xs
  | [], [], _ => rfl
  | n :: ns, x :: xs, h => by
    rw [List.zip_cons_cons, List.map_cons, zip_snd (by simpa using h)]
/-- try, except x as a name -/
theorem ps_tryF {X : Cx} {x n : Str} {c : Value} {i : Nat} {body suite : List Stmt} {b₀ : Stmt} {np pos pos' : Pos} {tb : WX → TS} {ts : Addr → Value → Option Addr → TS} {K : PySem.W.Frag} (hs : X.stack = X.env :: X.outer) (hf : X.env.frame = some X.env.locals) (hN : X.N.Nodup) (hi : X.N[i]? = some n) (hln : X.env.kindOf n = some .local) (hc : Names X x c)
    (hb : ∀ (W : WX) (pn : List (Addr × Obj)) (xe : Value → Shared → Prop), Takes (X.tr pn xe) W → PSs (X.tr pn xe) body (tb W))
    (hsu : ∀ (a : Addr) (oe : Obj) (cls : Value) (d : Option Addr) (pn : List (Addr × Obj)), Zc cls d oe → (∃ vs, oe.data = .fields vs) → PSs (X.suite a ((a, oe) :: pn)) (b₀ :: suite) (ts a cls d)) (hk : X.K = K := by rfl) :
    PS X (.Try body [.ExceptHandler (some (.Name x np)) (some n) (b₀ :: suite) pos'] [] [] pos) (tTryAs K c i (fun _ _ _ _ => False) tb ts) := by
  subst hk
  exact ps_try_as hs hf hN hi hln hc takes0 (fun W pn xe tk _ => hb W pn xe tk) hsu
theorem es_raise {C : Addr} {ns : List Str} {ta : TA} (h : EvA J ta ρ fun rs ρ1 => ∃ ts ρ2, FzL J.n rs ρ1 ts ρ2 ∧ ts.length = ns.length ∧ ns.length ≤ 900 ∧ J.Ψ ⟨C, (ns.zip ts).reverse⟩ ρ2) : EvS J (tRaiseX C ns J.W ta) ρ D := by
  intro O σ G H D0 hn E S
  refine h O σ G H _ hn E ⟨fun vs rs G1 H1 ρ1 ⟨ts, ρ2, f, hl, h9, q⟩ E1 r1 g1 => ?_, S.x⟩
  obtain ⟨G2, g2, E2, r2⟩ := f.ok hn E1 r1
  have hv : vs.length = ns.length := r2.len.trans hl
  refine ⟨by omega, fun a na => ⟨a, vs, by rw [List.append_nil], hv, upd_same, fun d nd ne => ?_⟩⟩
  rw [upd_ne ne] at nd
  refine ⟨rfl, d, _, upd_same, by rw [upd_ne ne, upd_same], nd, ?_⟩
  have eh : upd (del (upd (upd (upd H1 a (exo a C none)) d (exd d (ns.zip vs).reverse)) a (exo a C (some d))) a) d (.xd (ns.zip vs).reverse) = upd H1 d (.xd (ns.zip vs).reverse) := by
    funext b
    by_cases h1 : b = d
    · rw [h1, upd_same, upd_same]
    · rw [upd_ne h1, upd_ne h1]
      by_cases h2 : b = a
      · rw [h2, del_same, na]
      · rw [del_ne h2, upd_ne h2, upd_ne h1, upd_ne h2]
  rw [eh]
  obtain ⟨E3, g3⟩ := E2.alloc nd (.xd (ns.zip vs).reverse)
  refine S.x _ _ σ _ _ ρ2 ⟨C, (ns.zip ts).reverse⟩ hn E3 (g1.trans (g2.trans g3)) (.own upd_same ?_ ?_) q
  · show ((ns.zip vs).reverse).map Prod.fst = ((ns.zip ts).reverse).map Prod.fst
    rw [List.map_reverse, List.map_reverse, zip_fst hv, zip_fst hl]
  · show RepL J.K _ (((ns.zip vs).reverse).map Prod.snd) (((ns.zip ts).reverse).map Prod.snd)
    rw [List.map_reverse, List.map_reverse, zip_snd hv, zip_snd hl]
    exact (r2.mono g3).rev
/-- what an exception is in a slot -/
theorem XRep.exn {G : Hp} {C d a : Addr} {x : Xc} (h : XRep K G (.ref C) (some d) x) : x.C = C ∧ Rep K G (.ref a) (.exn a C d x.fs) := by
  cases h with
  | own h e r => exact ⟨rfl, .exn h e r⟩
theorem Env.unset {O : Out} {G H : Hp} {σ : List (Option V)} {u : U} (E : Env K O G H σ ρ) (h : ρ[i]? = some u) (hu : u.ads = []) : Env K O G H (σ.set i none) (ρ.set i .no) := by
  have ea : (ρ.set i .no).map U.ads = ρ.map U.ads := ad_set h (by rw [hu]; rfl)
  have eo : own (ρ.set i .no) = own ρ := by
    have q : ∀ l : List U, own l = (l.map U.ads).flatten := fun l => by unfold own; rw [List.flatMap_def]
    rw [q, q, ea]
  refine ⟨E.same, E.gg, E.keep, E.dom, E.nofrz, by rw [List.length_set, List.length_set]; exact E.len, fun k w hk hl => ?_, fun k w hk => ?_, by rw [eo]; exact E.mine, by rw [eo]; exact E.nd⟩
  · rw [List.length_set] at hl
    rcases get_setL hk with ⟨rfl, rfl⟩ | ⟨nk, hk2⟩
    · trivial
    · rw [List.getElem?_set_ne (Ne.symm nk)]
      exact E.at_ k w hk2 hl
  · rcases get_setL hk with ⟨rfl, rfl⟩ | ⟨nk, hk2⟩
    · trivial
    · exact E.ob k w hk2
/-- try, except c as a name: Ψ tells what the body may raise, and where -/
theorem es_try {c : Value} {tb : WX → TS} {tsu : Addr → Value → Option Addr → TS} (Ψ : Xc → List U → Prop)
    (hb : ∀ W, EvS { J with W := W, Ψ := Ψ } (tb W) ρ D) (hin : i < J.n)
    (hx : ∀ (C : Addr) fs ρ', Ψ ⟨C, fs⟩ ρ' → J.n ≤ ρ'.length ∧ ∃ b, PySem.W.exmOne J.K (.ref C) c = some b ∧
      (b = true → ∀ a d, EvS J (tsu a (.ref C) (some d)) ((ρ'.take J.n).set i (.sh (.exn a C d fs))) { nx := fun ρ2 => ∃ u, ρ2[i]? = some u ∧ u.ads = [] ∧ D.nx (ρ2.set i .no), rt := D.rt, bk := fun ρ2 => ∃ u, ρ2[i]? = some u ∧ u.ads = [] ∧ D.bk (ρ2.set i .no), ct := fun ρ2 => ∃ u, ρ2[i]? = some u ∧ u.ads = [] ∧ D.ct (ρ2.set i .no) }) ∧
      (b = false → J.Ψ ⟨C, fs⟩ ρ'))
    (hbare : ∀ (C : Addr) ρ', ¬ Ψ ⟨C, []⟩ ρ') : EvS J (tTryAs J.K c i J.W tb tsu) ρ D := by
  intro O σ G H D0 hn E S
  refine hb _ O σ G H D0 hn E ⟨S.nx, S.rt, S.bk, S.ct, fun cls d σ1 G1 H1 ρ1 x hn1 E1 g1 xr q => ?_⟩
  obtain ⟨C, fs⟩ := x
  cases xr with
  | bare => exact absurd q (hbare _ _)
  | @own _ d0 vs _ hd he hr =>
    obtain ⟨hl, b, e1, h2, h3⟩ := hx C fs ρ1 q
    refine ⟨b, e1, fun eb a na => ?_, fun eb => S.x _ _ σ1 G1 H1 ρ1 ⟨C, fs⟩ hn1 E1 g1 (.own hd he hr) (h3 eb)⟩
    refine h2 eb a d0 O _ G1 H1 _ (by rw [List.length_set]; exact hn1) ((E1.cut (by show σ1.length ≤ J.n; exact Nat.le_of_eq hn1)).put (i := i) (w := .sh (.exn a C d0 fs)) rfl ⟨_, rfl, .exn hd he hr⟩) ⟨?_, ?_, ?_, ?_, S.x.on g1⟩
    · exact fun σ2 G2 H2 ρ2 hn2 E2 g2 ⟨u, hu, ha, q2⟩ => S.nx _ G2 H2 _ (by rw [List.length_set]; exact hn2) (E2.unset hu ha) (g1.trans g2) q2
    · exact fun v r σ2 G2 H2 ρ2 hn2 E2 hv g2 q2 => S.rt v r σ2 G2 H2 ρ2 hn2 E2 hv (g1.trans g2) q2
    · exact fun σ2 G2 H2 ρ2 hn2 E2 g2 ⟨u, hu, ha, q2⟩ => S.bk _ G2 H2 _ (by rw [List.length_set]; exact hn2) (E2.unset hu ha) (g1.trans g2) q2
    · exact fun σ2 G2 H2 ρ2 hn2 E2 g2 ⟨u, hu, ha, q2⟩ => S.ct _ G2 H2 _ (by rw [List.length_set]; exact hn2) (E2.unset hu ha) (g1.trans g2) q2
/-- the same, where all that the body may raise is caught -/
theorem es_tryF {c : Value} {tb : WX → TS} {tsu : Addr → Value → Option Addr → TS} (Ψ : Xc → List U → Prop)
    (hb : ∀ W, EvS { J with W := W, Ψ := Ψ } (tb W) ρ D) (hin : i < J.n)
    (hx : ∀ (C : Addr) fs ρ', Ψ ⟨C, fs⟩ ρ' → J.n ≤ ρ'.length ∧ fs ≠ [] ∧ PySem.W.exmOne J.K (.ref C) c = some true ∧
      ∀ a d, EvS J (tsu a (.ref C) (some d)) ((ρ'.take J.n).set i (.sh (.exn a C d fs))) { nx := fun ρ2 => ∃ u, ρ2[i]? = some u ∧ u.ads = [] ∧ D.nx (ρ2.set i .no), rt := D.rt, bk := fun ρ2 => ∃ u, ρ2[i]? = some u ∧ u.ads = [] ∧ D.bk (ρ2.set i .no), ct := fun ρ2 => ∃ u, ρ2[i]? = some u ∧ u.ads = [] ∧ D.ct (ρ2.set i .no) }) : EvS J (tTryAs J.K c i (fun _ _ _ _ => False) tb tsu) ρ D := by
  intro O σ G H D0 hn E S
  refine hb _ O σ G H D0 hn E ⟨S.nx, S.rt, S.bk, S.ct, fun cls d σ1 G1 H1 ρ1 x hn1 E1 g1 xr q => ?_⟩
  obtain ⟨C, fs⟩ := x
  obtain ⟨hl, hne, e1, h2⟩ := hx _ fs ρ1 q
  cases xr with
  | bare => exact absurd rfl hne
  | @own _ d0 vs _ hd he hr =>
    refine ⟨true, e1, fun eb a na => ?_, fun eb => Bool.noConfusion eb⟩
    refine h2 a d0 O _ G1 H1 _ (by rw [List.length_set]; exact hn1) ((E1.cut (by show σ1.length ≤ J.n; exact Nat.le_of_eq hn1)).put (i := i) (w := .sh (.exn a C d0 fs)) rfl ⟨_, rfl, .exn hd he hr⟩) ⟨?_, ?_, ?_, ?_, S.x.on g1⟩
    · exact fun σ2 G2 H2 ρ2 hn2 E2 g2 ⟨u, hu, ha, q2⟩ => S.nx _ G2 H2 _ (by rw [List.length_set]; exact hn2) (E2.unset hu ha) (g1.trans g2) q2
    · exact fun v r σ2 G2 H2 ρ2 hn2 E2 hv g2 q2 => S.rt v r σ2 G2 H2 ρ2 hn2 E2 hv (g1.trans g2) q2
    · exact fun σ2 G2 H2 ρ2 hn2 E2 g2 ⟨u, hu, ha, q2⟩ => S.bk _ G2 H2 _ (by rw [List.length_set]; exact hn2) (E2.unset hu ha) (g1.trans g2) q2
    · exact fun σ2 G2 H2 ρ2 hn2 E2 g2 ⟨u, hu, ha, q2⟩ => S.ct _ G2 H2 _ (by rw [List.length_set]; exact hn2) (E2.unset hu ha) (g1.trans g2) q2
/-- a field of the exception that the suite holds -/
theorem ev_xf {C d : Addr} {f : Str} (h : EvE J te ρ fun r ρ1 => ∃ gs t, r = .sh (.exn a C d gs) ∧ gs.lookup f = some t ∧ Φ (.sh t) ρ1) : EvE J (tXf a (.ref C) (some d) C f te) ρ Φ := by
  intro O σ G H Q hn E c
  refine h O σ G H _ hn E ⟨fun v r G1 H1 ρ1 ⟨gs, t, e, l, q⟩ E1 r1 g1 => ?_, c.x⟩
  subst e
  cases r1 with
  | @exn _ _ _ fs _ hd he hr =>
    have key : ∀ {fs : List (Str × V)} {gs : List (Str × T)}, fs.map Prod.fst = gs.map Prod.fst → RepL J.K G1 (fs.map Prod.snd) (gs.map Prod.snd) → gs.lookup f = some t → ∃ v, fs.lookup f = some v ∧ Rep J.K G1 v t := by
      intro fs
      induction fs with
      | nil =>
        intro gs he hr l
        cases gs with
        | nil => cases l
        | cons g gs => cases he
      | cons p fs ih =>
        intro gs he hr l
        cases gs with
        | nil => cases he
        | cons g gs =>
          obtain ⟨k1, v1⟩ := p
          obtain ⟨k2, t2⟩ := g
          rw [List.map_cons, List.map_cons] at he hr
          obtain ⟨e1, e2⟩ := List.cons.inj he
          cases hr with
          | cons h1 h2 =>
            have e1 : k1 = k2 := e1
            subst e1
            rw [List.lookup_cons] at l ⊢
            cases e : f == k1 with
            | true =>
              rw [e] at l
              cases l
              exact ⟨v1, rfl, h1⟩
            | false =>
              rw [e] at l
              exact ih e2 h2 l
    obtain ⟨v, l2, rv⟩ := key he hr l
    exact ⟨rfl, rfl, d, fs, v, rfl, E1.same _ _ hd, l2, (c.on g1).here E1 q rv⟩
end
end Tr
namespace Tr
open PySem L2 Vk
/-- what the top must say of a class of exceptions, for isinstance and for its fields -/
structure XC (K : PySem.W.Frag) (C : Addr) : Prop where
  cl : (PySem.W.clsIn K C).isSome = true
  xf : XfC K C
  ca : PySem.W.findIn K (.ref C) "__class__" = some (some (.builtin "object.__class__"))
  gt : PySem.W.specialIn K (.builtin "object.__class__") "__get__" = some (some (.builtin "getset_descriptor.__get__"))
  tk : PySem.W.takesIn K (.builtin "object.__class__") = some true
  mo : PySem.W.mroIn K C (.type "object") = some true
theorem XC.kit {K : PySem.W.Frag} {C x : Addr} {ox : Obj} {od : Option Obj} (c : XC K C) : PySem.W.KitX K (.ref x) (.ref C) (fun h => PySem.W.InstAt h x ox C od) :=
  PySem.W.kitx_exc c.cl c.xf.ga c.xf.gg c.xf.exC c.ca c.gt c.tk c.mo
/-- isinstance(e, c), isinstance(e, (c1, ..)): e the exception that the suite holds -/
def rIsX1 (K : PySem.W.Frag) (a : Addr) (cls : Value) (d : Option Addr) : List V → Hp → VK → Prop := fun xs H Q =>
  ∃ (C dd : Addr) (fs : List (Str × V)) (c : V) (cv : Value) (b : Bool), cls = .ref C ∧ d = some dd ∧ XC K C ∧ H dd = some (.xd fs) ∧ xs = [.ref a, c] ∧ ClsV c cv ∧ PySem.W.kitOne K (.ref C) cv = some b ∧ Q (.bl b) H
def rIsXT (K : PySem.W.Frag) (a : Addr) (cls : Value) (d : Option Addr) : List V → Hp → VK → Prop := fun xs H Q =>
  ∃ (C dd : Addr) (fs : List (Str × V)) (tp : Addr) (cs : List V) (us : List Value) (b : Bool), cls = .ref C ∧ d = some dd ∧ XC K C ∧ H dd = some (.xd fs) ∧ xs = [.ref a, .ref tp] ∧ SqT K H tp cs ∧ Paired ClsV cs us ∧ PySem.W.kitAny K (.ref C) us = some b ∧ Q (.bl b) H
section
variable {X : Cx} {a C d : Addr} {oe : Obj} {pn : List (Addr × Obj)}
theorem instAt {pins : List (Addr × Obj)} {σ : L2.St} {H : Hp} {s : Shared} {fs : List (Str × V)} (hz : Zc (.ref C) (some d) oe) (hf : ∃ vs, oe.data = .fields vs) (I : Inv (X.suite a ((a, oe) :: pn)) pins σ H s) (ed : H d = some (.xd fs)) : ∃ od, PySem.W.InstAt s.heap a oe C (some od) := by
  obtain ⟨ha, _⟩ := I.pin (a, oe) (List.mem_append_left _ List.mem_cons_self)
  obtain ⟨vs, hd⟩ := hf
  have hx : ObjOk X.prog X.w H s.heap d (.xd fs) := I.hok d _ ed
  obtain ⟨mA, hns, hr⟩ := hx
  obtain ⟨od, ho, hl⟩ := lookIn_ns hns
  exact ⟨od, ha, hz.1, by unfold PySem.W.notCls; rw [hd] <;> rfl, by rw [hz.2]; exact ho⟩
theorem call_isX1 {cls : Value} {d : Option Addr} (hz : Zc cls d oe) (hf : ∃ vs, oe.data = .fields vs) : CallR (X.suite a ((a, oe) :: pn)) (.builtin "isinstance") (rIsX1 X.K a cls d) := by
  intro pins s σ H xs us Q I r h
  obtain ⟨C, dd, fs, x, u, b, rfl, rfl, c, ed, rfl, k, e, q⟩ := h
  obtain ⟨u1, u2, rfl, r1, r2⟩ := vals2 r
  have e2 := k.eq r2
  subst e2
  cases (show u1 = Value.ref a from r1)
  obtain ⟨od, J⟩ := instAt hz hf I ed
  exact PySem.W.kia_one c.kit I.kIn J e (fun z => nomatch z) fun tk => ⟨.bl b, H, I.tok tk, rfl, q⟩
theorem call_isXT {cls : Value} {d : Option Addr} (hz : Zc cls d oe) (hf : ∃ vs, oe.data = .fields vs) : CallR (X.suite a ((a, oe) :: pn)) (.builtin "isinstance") (rIsXT X.K a cls d) := by
  intro pins s σ H xs us Q I r h
  obtain ⟨C, dd, fs, tp, cs, ws, b, rfl, rfl, c, ed, rfl, hT, k, e, q⟩ := h
  obtain ⟨u1, u2, rfl, r1, r2⟩ := vals2 r
  cases (show u2 = Value.ref tp from r2)
  cases (show u1 = Value.ref a from r1)
  obtain ⟨od, J⟩ := instAt hz hf I ed
  obtain ⟨its, rv, ⟨o, h1, h2, n, h3⟩, _⟩ := I.tuple hT
  have e3 := ClsV.all k rv
  subst e3
  obtain ⟨oc, odd, dt, sl⟩ := o
  simp only at h2 h3
  subst h2 h3
  exact PySem.W.kia_tup c.kit I.kIn J h1 e (fun z => nomatch z) fun tk => ⟨.bl b, H, I.tok tk, rfl, q⟩
end
section
variable {K : PySem.W.Frag} {J : Jd} {ρ ρ1 ρ2 : List U} {Φ : R → List U → Prop} {a C d : Addr} {gs : List (Str × T)}
/-- a class as a tree -/
inductive ClsT : T → Value → Prop where
  | ty (n : String) : ClsT (.ty n) (.type n)
  | own (C : Addr) : ClsT (.obj C) (.ref C)
theorem ClsT.v {G : Hp} {v : V} {t : T} {u : Value} (h : ClsT t u) (r : Rep K G v t) : ClsV v u := by
  cases h with
  | ty n => cases r; exact .ty n
  | own C => cases r; exact .own C
theorem rl_isX1 {t : T} {u : Value} {b : Bool} (xc : XC J.K C) (k : ClsT t u) (e : PySem.W.kitOne J.K (.ref C) u = some b) (q : Φ (.sh (.bl b)) ρ) : RdL J (rIsX1 J.K a (.ref C) (some d)) [.sh (.exn a C d gs), .sh t] ρ Φ := by
  intro O σ G H Q vs hn E hv c
  cases hv with
  | cons h1 h2 =>
    cases h2 with
    | cons h3 h4 =>
      cases h4
      cases h1 with
      | exn hd he hr => exact ⟨C, d, _, _, u, b, rfl, rfl, xc, E.same _ _ hd, rfl, k.v h3, e, c.here E q (.bl _)⟩
theorem clsv_all {G : Hp} : ∀ {vs : List V} {ts : List T} {us : List Value}, RepL K G vs ts → Paired ClsT ts us → Paired ClsV vs us
  | _, _, _, .nil, .nil => .nil
  | _, _, _, .cons h r, .cons k l => .cons (k.v h) (clsv_all r l)
theorem rl_isXT {ts : List T} {us : List Value} {b : Bool} (xc : XC J.K C) (k : Paired ClsT ts us) (e : PySem.W.kitAny J.K (.ref C) us = some b) (q : Φ (.sh (.bl b)) ρ) : RdL J (rIsXT J.K a (.ref C) (some d)) [.sh (.exn a C d gs), .sh (.tup ts)] ρ Φ := by
  intro O σ G H Q vs hn E hv c
  cases hv with
  | cons h1 h2 =>
    cases h2 with
    | cons h3 h4 =>
      cases h4
      cases h1 with
      | exn hd he hr =>
        cases h3 with
        | tup hs rl =>
          exact ⟨C, d, _, _, _, us, b, rfl, rfl, xc, E.same _ _ hd, rfl, Vk.Same.tup E.same hs, clsv_all rl k, e, c.here E q (.bl _)⟩
theorem ev_cref {Φ : R → List U → Prop} (q : Φ (.sh (.obj C)) ρ) : EvE J (tC (.ref C)) ρ Φ := fun O σ G H Q hn E c => c.here E q (show Rep J.K G _ _ from .obj C)
/-- isinstance(x, C), a thing, a class -/
theorem rl_isiO {D : Addr} {b : Bool} (e : PySem.W.kitOne J.K (.ref C) (.ref D) = some b) (ty : ∀ {H : Hp} {a dx : Addr} {fs : List (Str × V)}, H a = some (.ins C dx fs) → TyX J.K H (.ref a) (.ref C)) (q : Φ (.sh (.bl b)) ρ) : RdL J (rIsi J.K) [.sh (.ins C gs), .sh (.obj D)] ρ Φ := by
  intro O σ G H Q vs hn E hv c
  cases hv with
  | cons h1 h2 =>
    cases h2 with
    | cons h3 h4 =>
      cases h4
      cases h3
      cases h1 with
      | ins h5 e5 r5 => exact ⟨_, _, _, _, b, rfl, .own D, ty (E.same _ _ h5), e, c.here E q (.bl _)⟩
/-! ### own == -/
/-- x == y, things of the class at C that has its own __eq__ -/
def rEqI (C : Addr) (sp : Sp) : R2 := fun x y H Q => ∃ (a b dx dy : Addr) (fs gs : List (Str × V)), x = .ref a ∧ y = .ref b ∧ H a = some (.ins C dx fs) ∧ H b = some (.ins C dy gs) ∧ sp [x, y] H (fun v H' => ∃ k, v = .bl k ∧ Q v H') E0
theorem rd_eqI {sp : Sp} {gs hs : List (Str × T)} (q : SpE J sp [.sh (.ins C gs), .sh (.ins C hs)] ρ (fun r ρ' => ∃ b, r = .sh (.bl b) ∧ Φ r ρ') (fun _ _ => False)) : Rd2 J (rEqI C sp) (.sh (.ins C gs)) (.sh (.ins C hs)) ρ Φ := by
  intro O σ G H Q v w hn E hv hw c
  have k := q O σ G H (fun v H' => ∃ k, v = .bl k ∧ Q v H') E0 [v, w] hn E (.cons hv (.cons hw .nil)) ⟨fun v r G' H' ρ' ⟨b, e, h⟩ E' hv g => by
    subst e
    cases hv
    exact ⟨b, rfl, c.v _ _ G' H' ρ' h E' (show Rep J.K G' _ _ from .bl b) g⟩, c.x⟩ fun _ _ _ _ _ _ _ _ _ z => z.elim
  cases hv with
  | ins h1 e1 r1 =>
    cases hw with
    | ins h2 e2 r2 => exact ⟨_, _, _, _, _, _, rfl, rfl, E.same _ _ h1, E.same _ _ h2, k⟩
end
/-- the own == of a class, by its name -/
structure OkEq (P : Program) (w : World) (K : PySem.W.Frag) (mg : Str → Option Value) (base : Heap) (k : Nat) (C : Addr) (sp : Sp) : Prop where
  ex : ∃ (f : Addr) (fd : FuncData), FnOk P w K mg base CX0 k f fd ["self", "other"] sp ∧ PySem.W.findIn K (.ref C) "__eq__" = some (some (.ref f)) ∧ PySem.W.isFn K (.ref f) = true ∧ Binds K fd ["self", "other"] []
theorem OkEq.mono {P w K mg base j k C sp} (O : OkEq P w K mg base j C sp) (h : j ≤ k) : OkEq P w K mg base k C sp := by
  obtain ⟨f, fd, F, r⟩ := O.ex
  exact ⟨f, fd, F.mono h, r⟩
theorem op_eqI {X : Cx} {n : Nat} {C : Addr} {sp : Sp} (O : OkEq X.prog X.w X.K X.mg X.base n C sp) (hr : Room n X.A) : OpR X (compareOp .Eq) (rEqI C sp) := by
  intro pins s σ H x y v u Q I rx ry hq
  obtain ⟨f, fd, F, hs, hf, hb⟩ := O.ex
  obtain ⟨a, b, dx, dy, fs, gs, rfl, rfl, ha, hb', hsp⟩ := hq
  cases rx
  cases ry
  obtain ⟨mA, J, _⟩ := ins_get I.hok ha
  obtain ⟨mB, J', _⟩ := ins_get I.hok hb'
  obtain ⟨od, J, _⟩ := J.look
  obtain ⟨od', J', _⟩ := J'.look
  obtain ⟨m, hF⟩ := I.fr
  show wpAny (model X.prog X.w) X.A (richCompare .Eq _ _) (EP X pins σ Q) X.xe s
  refine PySem.W.cmp_K (op := .Eq) (tb := .ref C) hr.units0 hF I.ok.mod.kin J J'.type (by simp [PySem.W.notFirst]) hs hf ?_
  have hl := F.len _ _ _ _ hsp
  have r2 : Vals [V.ref a, V.ref b] [Value.ref a, Value.ref b] := .cons rfl (.cons rfl .nil)
  refine wpAny_call (codeAny_mono (F.run X.A X.stack s H ⟨[.ref a, .ref b], []⟩ [.ref a, .ref b] [.ref a, .ref b] _ E0 hr I.env0 (by
    have := hb s [.ref a, .ref b] I.kIn (by simpa using hl)
    simpa using this) r2 hsp) fun r s' hq => ?_)
  cases r with
  | error e => exact pass0 pins σ H s e s' I hq
  | ok fl =>
    cases fl with
    | ret w =>
      obtain ⟨z, H', I', rz, ⟨k, ez, qz⟩⟩ := I.after hq
      subst ez
      cases rz
      exact ⟨.bl k, H', I', rfl, qz⟩
    | next => exact False.elim hq
    | brk => exact False.elim hq
    | cont => exact False.elim hq
end Tr
namespace Tr
open PySem L2 Vk
/-! ### a def that may raise, called with keywords -/
structure OkKR (P : Program) (w : World) (K : PySem.W.Frag) (mg : Str → Option Value) (base : Heap) (k : Nat) (x : Str) (ps ks : List Str) (g : List Value → List Value → List Value) (gV : List V → List V → List V) (sp : Sp) : Prop where
  ex : ∃ (f : Addr) (fd : FuncData), FnOk P w K mg base (L2.CX P w) k f fd ps sp ∧ KBinds K fd ps ks g gV ∧ PySem.W.keepIn K (.ref f) = true ∧ mg x = some (.ref f)
theorem OkKR.mono {P w K mg base j k x ps ks g gV sp} (O : OkKR P w K mg base j x ps ks g gV sp) (h : j ≤ k) : OkKR P w K mg base k x ps ks g gV sp := by
  obtain ⟨f, fd, F, r⟩ := O.ex
  exact ⟨f, fd, F.mono h, r⟩
def tCallKS (sp : Sp) (gV : List V → List V → List V) (E : L2.St → XK) (t tk : TA) : TE := fun σ H Q => t σ H fun vs H1 => tk σ H1 fun zs H2 => sp (gV vs zs) H2 Q (E σ)
section
variable {X : Cx} {CX : CXT} {k : Nat} {f : Addr} {fd : FuncData} {ps ks : List Str} {sp : Sp} {E : L2.St → XK} {x : Str} {p pos : Pos} {e : Expr} {es : List Expr} {t tk : TA} {kws : List Keyword} {g : List Value → List Value → List Value} {gV : List V → List V → List V}
theorem run_fnkS {pins : List (Addr × Obj)} {σ : L2.St} {H : Hp} {s : Shared} {Q : VK} {us ws : List Value} {vs zs : List V} (F : FnOk X.prog X.w X.K X.mg X.base CX k f fd ps sp) (hr : Room k X.A) (hb : KBinds X.K fd ps ks g gV) (hx : PassesAt CX X σ (E σ))
    (I : Inv X pins σ H s) (r : Vals vs us) (rz : Vals zs ws) (h : sp (gV vs zs) H Q (E σ)) : wpAny (model X.prog X.w) X.A (call (.ref f) us (ks.zip ws)) (EP X pins σ Q) X.xe s := by
  have r2 := hb.rel r rz
  have hl : (g us ws).length = ps.length := by rw [← r2.length]; exact F.len _ _ _ _ h
  refine wpAny_call (codeAny_mono (F.run X.A X.stack s H ⟨us, ks.zip ws⟩ (g us ws) (gV vs zs) Q (E σ) hr I.env0 (hb.to s us ws I.kIn hl) r2 h) fun r s' hq => ?_)
  cases r with
  | error e => exact hx pins H s e s' I hq
  | ok fl =>
    cases fl with
    | ret u => exact I.after hq
    | next => exact False.elim hq
    | brk => exact False.elim hq
    | cont => exact False.elim hq
theorem pe_ckmR {W : WX} (O : OkKR X.prog X.w X.K X.mg X.base k x ps ks g gV sp) (hr : Room k X.A) (tkk : Takes X W) (hg : Gl X x)
    (ha : PA X (e :: es) t) (hkw : L2.PK X kws tk) (hall : (backToKw pos (keywordEach kws X.env)).all (·.1.isSome) = true := by rfl) (hks : (backToKw pos (keywordEach kws X.env)).filterMap (·.1) = ks := by rfl)
    (hdb : (x == ("__debug__" : Str)) = false := by decide) (he : starEach (e :: es) X.env = (false, eval e X.env) :: starEach es X.env := by rfl)
    (hpl : ((backTo pos (starEach (e :: es) X.env)).any (·.1) || (backToKw pos (keywordEach kws X.env)).any (·.1.isNone)) = false := by rfl) :
    PE X (.Call (.Name x p) (e :: es) kws pos) (tCallKS sp gV (fun σ cls d H => W cls d σ H) t tk) := by
  obtain ⟨f, fd, F, hb, hk, hm⟩ := O.ex
  refine ⟨fun pins s σ H Q I h => ?_⟩
  refine wpAny_Call_Name_kw (ld_glob I hg hm ?_ hdb)
  refine PySem.W.callWith_KW (h₀ := X.base) I.ok.mod.kin hk hall (thn (ha.run pos pins s σ H _ I h) fun us s1 ⟨vs, H1, I1, r, q⟩ => ?_) hpl he
  refine thn (hkw.run pos pins s1 σ H1 _ I1 q) fun ws s2 ⟨zs, H2, I2, rz, q2⟩ => ⟨I2.kIn, ?_⟩
  rw [hks]
  exact run_fnkS F hr hb (passAt tkk σ) I2 r rz q2
theorem pe_ckR {W : WX} (O : OkKR X.prog X.w X.K X.mg X.base k x ps ks g gV sp) (hr : Room k X.A) (tkk : Takes X W) (hg : Gl X x) (hkw : L2.PK X kws tk)
    (hall : (backToKw pos (keywordEach kws X.env)).all (·.1.isSome) = true := by rfl) (hks : (backToKw pos (keywordEach kws X.env)).filterMap (·.1) = ks := by rfl) (hdb : (x == ("__debug__" : Str)) = false := by decide)
    (hpl : ((backTo pos (starEach [] X.env)).any (·.1) || (backToKw pos (keywordEach kws X.env)).any (·.1.isNone)) = false := by rfl) :
    PE X (.Call (.Name x p) [] kws pos) (tCallKS sp gV (fun σ cls d H => W cls d σ H) tNil tk) := by
  obtain ⟨f, fd, F, hb, hk, hm⟩ := O.ex
  refine ⟨fun pins s σ H Q I h => ?_⟩
  refine wpAny_Call_Name_kw (ld_glob I hg hm ?_ hdb)
  refine PySem.W.callWith_KW0 (h₀ := X.base) I.ok.mod.kin hk hall ?_ hpl
  refine thn (hkw.run pos pins s σ H _ I h) fun ws s2 ⟨zs, H2, I2, rz, q2⟩ => ⟨I2.kIn, ?_⟩
  rw [hks]
  exact run_fnkS (us := []) (vs := []) F hr hb (passAt tkk σ) I2 .nil rz q2
end
section
variable {J : Jd} {ρ : List U} {Φ : R → List U → Prop}
theorem ev_callKS {sp : Sp} {ta tr : TA} {gV : List V → List V → List V} {gR : List R → List R → List R} (hg : ∀ (P : V → R → Prop) vs rs zs qs, Paired P vs rs → Paired P zs qs → Paired P (gV vs zs) (gR rs qs))
    (h : EvA J ta ρ fun rs ρ1 => EvA J tr ρ1 fun qs ρ2 => SpE J sp (gR rs qs) ρ2 Φ J.Ψ) : EvE J (tCallKS sp gV (fun σ cls d H => J.W cls d σ H) ta tr) ρ Φ := by
  intro O σ G H Q hn E c
  refine h O σ G H _ hn E ⟨fun vs rs G1 H1 ρ1 h1 E1 r1 g1 => ?_, c.x⟩
  refine h1 O σ G1 H1 _ hn E1 ⟨fun zs qs G2 H2 ρ2 h2 E2 r2 g2 => ?_, c.x.on g1⟩
  exact h2 O σ G2 H2 Q _ (gV vs zs) hn E2 (ValL.fro (hg _ _ _ _ _ (r1.mono g2).to r2.to)) ((c.on g1).on g2) fun cls d G' H' ρ' x E' g' r q => c.x cls d σ G' H' ρ' x hn E' (g1.trans (g2.trans g')) r q
end
/-- try, except x: no name -/
def tTryO (K : PySem.W.Frag) (c : Value) (tb : WX → TS) (ts : Addr → Value → Option Addr → TS) : TS := fun D σ H => tb (wOnly K c ts (fun _ _ _ _ => False) D) D σ H
theorem ps_tryO {X : Cx} {x : Str} {c : Value} {body suite : List Stmt} {b₀ : Stmt} {np pos pos' : Pos} {tb : WX → TS} {ts : Addr → Value → Option Addr → TS} {K : PySem.W.Frag} (hs : X.stack = X.env :: X.outer) (hf : X.env.frame = some X.env.locals) (hc : Names X x c)
    (hb : ∀ (W : WX) (pn : List (Addr × Obj)) (xe : Value → Shared → Prop), Takes (X.tr pn xe) W → PSs (X.tr pn xe) body (tb W))
    (hsu : ∀ (a : Addr) (oe : Obj) (cls : Value) (d : Option Addr) (pn : List (Addr × Obj)), Zc cls d oe → (∃ vs, oe.data = .fields vs) → PSs (X.suite a ((a, oe) :: pn)) (b₀ :: suite) (ts a cls d)) (hk : X.K = K := by rfl) :
    PS X (.Try body [.ExceptHandler (some (.Name x np)) none (b₀ :: suite) pos'] [] [] pos) (tTryO K c tb ts) := by
  subst hk
  exact ps_try_only hs hf hc takes0 (fun W pn xe tk _ => hb W pn xe tk) hsu
theorem es_tryO {J : Jd} {ρ : List U} {D : PD} {c : Value} {tb : WX → TS} {tsu : Addr → Value → Option Addr → TS} (Ψ : Xc → List U → Prop)
    (hb : ∀ W, EvS { J with W := W, Ψ := Ψ } (tb W) ρ D)
    (hx : ∀ (C : Addr) fs ρ', Ψ ⟨C, fs⟩ ρ' → J.n ≤ ρ'.length ∧ fs ≠ [] ∧ PySem.W.exmOne J.K (.ref C) c = some true ∧ ∀ a d, EvS J (tsu a (.ref C) (some d)) (ρ'.take J.n) D) : EvS J (tTryO J.K c tb tsu) ρ D := by
  intro O σ G H D0 hn E S
  refine hb _ O σ G H D0 hn E ⟨S.nx, S.rt, S.bk, S.ct, fun cls d σ1 G1 H1 ρ1 x hn1 E1 g1 xr q => ?_⟩
  obtain ⟨C, fs⟩ := x
  obtain ⟨hl, hne, e1, h2⟩ := hx _ fs ρ1 q
  cases xr with
  | bare => exact absurd rfl hne
  | @own _ d0 vs _ hd he hr =>
    exact ⟨true, e1, fun eb a na => h2 a d0 O σ1 G1 H1 _ hn1 (E1.cut (by show σ1.length ≤ J.n; exact Nat.le_of_eq hn1)) (S.on g1), fun eb => Bool.noConfusion eb⟩
/-- positions first, then keywords in their order -/
def kgA {α : Type} (m : Nat) (us ws : List α) : List α := if ws.length = m then us ++ ws else []
theorem paired_app {α β : Type} {P : α → β → Prop} : ∀ {vs zs : List α} {rs qs : List β}, Paired P vs rs → Paired P zs qs → Paired P (vs ++ zs) (rs ++ qs)
  | _, _, _, _, .nil, k => k
  | _, _, _, _, .cons h r, k => .cons h (paired_app r k)
theorem kpA (m : Nat) {α β : Type} (P : α → β → Prop) (vs : List α) (rs : List β) (zs : List α) (qs : List β) (r0 : Paired P vs rs) (r1 : Paired P zs qs) : Paired P (kgA m vs zs) (kgA m rs qs) := by
  unfold kgA
  rw [r1.length]
  split
  · exact paired_app r0 r1
  · exact .nil
theorem kgA_len {α : Type} {m n : Nat} {us ws : List α} (h : (kgA m us ws).length = n) (hn : n ≠ 0) : ws.length = m ∧ us.length + m = n := by
  unfold kgA at h
  split at h
  · next e => exact ⟨e, by rw [← h, List.length_append, e]⟩
  · exact absurd h.symm hn
theorem ev_callKS0 {J : Jd} {ρ : List U} {Φ : R → List U → Prop} {sp : Sp} {tr : TA} {gV : List V → List V → List V} {gR : List R → List R → List R} (hg : ∀ (P : V → R → Prop) vs rs, Paired P vs rs → Paired P (gV [] vs) (gR [] rs))
    (h : EvA J tr ρ fun qs ρ2 => SpE J sp (gR [] qs) ρ2 Φ J.Ψ) : EvE J (tCallKS sp gV (fun σ cls d H => J.W cls d σ H) tNil tr) ρ Φ := by
  intro O σ G H Q hn E c
  refine h O σ G H _ hn E ⟨fun zs qs G2 H2 ρ2 h2 E2 r2 g2 => ?_, c.x⟩
  exact h2 O σ G2 H2 Q _ (gV [] zs) hn E2 (ValL.fro (hg _ _ _ r2.to)) (c.on g2) fun cls d G' H' ρ' x E' g' r q => c.x cls d σ G' H' ρ' x hn E' (g2.trans g') r q
/-! ### bits -/
theorem ev_bits {J : Jd} {ρ : List U} {Φ : R → List U → Prop} {te : TE} (h : EvE J te ρ fun r ρ1 => ∃ z, r = .sh (.int z) ∧ Φ (.sh (.int (Builtin.Int.intBits z : Nat))) ρ1) : EvE J (tBits te) ρ Φ := by
  intro O σ G H Q hn E c
  refine h O σ G H _ hn E ⟨fun v r G1 H1 ρ1 ⟨z, e, q⟩ E1 r1 g1 => ?_, c.x⟩
  subst e
  cases r1
  exact ⟨z, rfl, (c.on g1).here E1 q (.int _)⟩
theorem bits_nat : ∀ v : Nat, v < 64 → 1 ≤ v → Builtin.Int.intBits (v : Int) = Nat.log2 v + 1 := by decide +kernel
theorem and1 {x : Nat} : Builtin.bitAnd (x : Int) 1 = ((x % 2 : Nat) : Int) := by
  rw [show (1 : Int) = ((1 : Nat) : Int) from rfl, PyProof.Rows.bitAnd_pp (by omega) (by omega), Int.toNat_natCast, Int.toNat_natCast, Nat.and_one_is_mod]
end Tr
namespace Tr
open PySem L2 Vk
/-! ### another name for a part of one's own -/
section
variable {K : PySem.W.Frag} {J : Jd} {ρ ρ1 ρ2 : List U} {Φ : R → List U → Prop} {N : List U → Prop} {to ti te : TE} {i j k : Nat} {t : T} {ts : List T} {a b c : Addr} {p : List Nat} {m : M}
theorem MRL.toL {G H : Hp} : ∀ {vs : List V} {ts : List T}, MRL K G H vs (ts.map M.t) → RepL K G vs ts
  | [], [], .nil => .nil
  | _ :: _, _ :: _, .cons h r => by
    cases h with
    | t h => exact .cons h (MRL.toL r)
/-- x = part: the part's address is kept -/
theorem eg_alias (e : (ρ.take J.n).set i (.sh (.obj b)) = ρ1) (q : N ρ1) : EvG J (gName i) (.mq j b p) ρ N := by
  intro O σ G H v Q hn E hv c xo
  subst e
  exact c _ G H _ (by rw [List.length_set]; exact hn) ((E.cut (by omega)).put (i := i) (w := .sh (.obj b)) rfl ⟨v, rfl, by cases hv; exact .obj b⟩) (fun _ _ z => z) q
theorem ev_varA (j : Nat) (p : List Nat) (h : ρ[i]? = some (.sh (.obj b))) (hi : i < J.n) (q : Φ (.mq j b p) ρ) : EvE J (tVar i) ρ Φ := by
  intro O σ G H Q hn E c
  obtain ⟨v, e, r⟩ := E.at_ i _ h (hn ▸ hi)
  cases r
  exact ⟨_, e, c.here E q rfl⟩
theorem rl_lenq (hr : ρ[j]? = some (.dp a m)) (hp : m.get p = some (.lst b (ts.map M.t))) (q : Φ (.sh (.int ts.length)) ρ) : RdL J (rLenS J.K) [.mq j b p] ρ Φ := by
  intro O σ G H Q vs hn E hv c
  cases hv with
  | cons h h0 =>
    cases h0
    cases h
    obtain ⟨_, _, mr⟩ := E.ob j _ hr
    obtain ⟨w, mw⟩ := mr.at_ hp
    cases mw with
    | lst e l =>
      have rl := MRL.toL l
      refine ⟨b, _, rfl, .inl (SqL.of e), ?_⟩
      rw [rl.len]
      exact c.here E q (.int _)
theorem rd_ixqT {z : Int} {t : T} (hr : ρ[j]? = some (.dp a m)) (hp : m.get p = some (.lst b (ts.map M.t))) (h : atI ts z = some t) (q : Φ (.sh t) ρ) : Rd2 J (rIx J.K) (.mq j b p) (.sh (.int z)) ρ Φ := by
  intro O σ G H Q v w hn E hv hw c
  cases hw
  cases hv
  obtain ⟨_, _, mr⟩ := E.ob j _ hr
  obtain ⟨w, mw⟩ := mr.at_ hp
  cases mw with
  | lst e l =>
    obtain ⟨v, ev, rv⟩ := RepL.atI (MRL.toL l) h
    exact .inl ⟨b, _, z, v, rfl, rfl, SqL.of e, ev, c.here E q rv⟩
theorem eg_subq {r : R} (f : Fz J.n r ρ t ρ1) (h : EvE J to ρ1 fun x ρ2 => EvE J ti ρ2 fun y ρ3 => ∃ (j : Nat) (a : Addr) (m : M) (b : Addr) (p : List Nat) (ts : List T) (z : Int) (k : Nat) (us : List T) (ρ4 : List U), (x = .mq j b p ∨ x = .sh (.obj b)) ∧ y = .sh (.int z) ∧ ρ3[j]? = some (.dp a m) ∧ m.get p = some (.lst b (ts.map M.t)) ∧ ixN ts.length z = some k ∧ ts.set k t = us ∧ J.n ≤ ρ3.length ∧ (ρ3.set j (.dp a (m.put p (.lst b (us.map M.t))))).take J.n = ρ4 ∧ N ρ4) :
    EvG J (gSub to ti rSetL) r ρ N := by
  intro O σ G H v Q hn E hv c xo
  obtain ⟨G', g', E', r'⟩ := f.ok hn E hv
  refine h O σ G' H _ hn E' ⟨fun o ro G1 H1 ρ2 h1 E1 r1 g1 => ?_, xo.on g'⟩
  refine h1 O σ G1 H1 _ hn E1 ⟨fun y ry G2 H2 ρ3 ⟨j, a, m, b, p, ts, z, k, us, ρ4, e1, e2, hj, hp, hk, eu, hl, e4, q⟩ E2 r2 g2 => ?_, (xo.on g').on g1⟩
  subst e2 eu e4
  obtain rfl : o = .ref b := by
    rcases e1 with rfl | rfl
    · exact r1
    · cases r1
      rfl
  cases r2
  obtain ⟨_, _, mr⟩ := E2.ob j _ hj
  obtain ⟨w, mw⟩ := mr.at_ hp
  cases mw with
  | @lst _ vs _ e l =>
    have rl := MRL.toL l
    have rt := Rep.mono (g1.trans g2) r'
    refine ⟨b, vs, z, k, rfl, rfl, e, by rw [rl.len]; exact hk, ?_⟩
    refine c σ G2 _ _ hn ((E2.writeQ (b := b) (o := .lst (vs.set k v)) hj hp rfl (fun w hw => ?_) ?_).cut (by omega)) (g'.trans (g1.trans g2)) q
    · cases hw with
      | lst e2 l2 =>
        rw [e] at e2
        cases e2
        exact .lst upd_same (MRL.of (rl.set rt k))
    · show (M.lst b ((ts.set k t).map M.t)).ads = (M.lst b (ts.map M.t)).ads
      rw [M.ads, M.ads, adsL_t, adsL_t]
end
/-! ### equal rows -/
theorem teq_tup {ts us : List T} : T.eq (.tup ts) (.tup us) = eqL ts us := by unfold T.eq eqL; simp only [T.pd, PyData.eqv]
theorem teq_nt {xs ys : List Nat} : T.eq (.tup (nt xs)) (.tup (nt ys)) = true ↔ xs = ys := by
  rw [teq_tup]
  exact eqL_map (f := fun n : Nat => T.int (n : Int)) (fun a b => by rw [eq_int, decide_eq_true_eq]; exact Int.ofNat_inj) xs ys
theorem teq_nts {ls ms : List (List Nat)} : T.eq (.tup (ls.map fun row => T.tup (nt row))) (.tup (ms.map fun row => T.tup (nt row))) = true ↔ ls = ms := by
  rw [teq_tup]
  exact eqL_map (fun a b => teq_nt) ls ms
section
variable {J : Jd} {ρ ρ1 : List U} {Φ : R → List U → Prop} {N : List U → Prop} {to ti : TE} {j : Nat} {b : Addr} {p : List Nat} {t : T}
theorem rl_objq {f : List V → Hp → VK → Prop} (j : Nat) (p : List Nat) (h : RdL J f [.mq j b p] ρ Φ) : RdL J f [.sh (.obj b)] ρ Φ := by
  intro O σ G H Q vs hn E hv c
  cases hv with
  | cons h1 h2 =>
    cases h2
    cases h1
    exact h O σ G H Q _ hn E (.cons rfl .nil) c
theorem rd_objq {f : R2} {q : R} (j : Nat) (p : List Nat) (h : Rd2 J f (.mq j b p) q ρ Φ) : Rd2 J f (.sh (.obj b)) q ρ Φ := by
  intro O σ G H Q v w hn E hv hw c
  cases hv
  exact h O σ G H Q _ w hn E rfl hw c
end
/-! ### isinstance, told by the classes -/
section
variable {K : PySem.W.Frag} {C D : Addr}
theorem kit_same : PySem.W.kitOne K (.ref C) (.ref C) = some true := by
  unfold PySem.W.kitOne
  rw [if_pos (by simp)]
theorem kit_ty {T : String} {b : Bool} (h : PySem.W.kitMeta T = true) (s : PySem.W.subIn K (.ref C) (.type T) = some b) : PySem.W.kitOne K (.ref C) (.type T) = some b := by
  unfold PySem.W.kitOne
  rw [if_neg (by rw [show (Value.ref C == Value.type T) = false from rfl]; exact Bool.false_ne_true)]
  show (if PySem.W.kitMeta T = true then _ else _) = _
  rw [if_pos h]
  exact s
theorem kit_ref {b : Bool} (hi : PySem.W.isClsIn K D = true) (ht : PySem.W.typeIn K (.ref D) = some (.type "type")) (s : PySem.W.subIn K (.ref C) (.ref D) = some b) (sc : PySem.W.subIn K (.ref C) (.ref C) = some true) : PySem.W.kitOne K (.ref C) (.ref D) = some b := by
  unfold PySem.W.kitOne
  by_cases c : C = D
  · subst c
    rw [if_pos (by simp)]
    rw [sc] at s
    exact s
  · rw [if_neg (by simpa using c)]
    have e : ((PySem.W.clsIn K D).isSome && PySem.W.typeIn K (.ref D) == some (.type "type")) = true := by
      have h2 : (PySem.W.clsIn K D).isSome = true := hi
      rw [h2, ht] <;> rfl
    show (if ((PySem.W.clsIn K D).isSome && PySem.W.typeIn K (.ref D) == some (.type "type")) = true then PySem.W.subIn K (.ref C) (.ref D) else none) = _
    rw [if_pos e]
    exact s
theorem kit_any0 {t : Value} : PySem.W.kitAny K t [] = some false := rfl
theorem kit_anyF {t c : Value} {r : List Value} {b : Option Bool} (h : PySem.W.kitOne K t c = some false) (k : PySem.W.kitAny K t r = b) : PySem.W.kitAny K t (c :: r) = b := by
  unfold PySem.W.kitAny
  rw [h]
  exact k
end
end Tr
namespace Tr
open PySem L2 Vk
/-! ### a class whose __init__ may raise -/
structure OkNewR (P : Program) (w : World) (K : PySem.W.Frag) (mg : Str → Option Value) (base : Heap) (k : Nat) (C : Addr) (x : Str) (ps : List Str) (sp : Sp) : Prop where
  ex : ∃ (j : Nat) (f : Addr) (fd : FuncData), j + 1 ≤ k ∧ Mk K C f ∧ FnOk P w K mg base (L2.CX P w) j f fd ps sp ∧ Binds K fd ps [] ∧ mg x = some (.ref C)
theorem OkNewR.mono {P w K mg base j k C x ps sp} (O : OkNewR P w K mg base j C x ps sp) (h : j ≤ k) : OkNewR P w K mg base k C x ps sp := by
  obtain ⟨i, f, fd, hj, r⟩ := O.ex
  exact ⟨i, f, fd, Nat.le_trans hj h, r⟩
def tMakeS (C : Addr) (sp : Sp) (E : L2.St → XK) (t : TA) : TE := fun σ H Q => t σ H fun vs H1 => ∀ x dx, H1 x = none → H1 dx = none → dx ≠ x →
  sp (.ref x :: vs) (upd (upd H1 dx (.own x)) x (.ins C dx [])) (fun v H2 => v = .non ∧ Q (.ref x) H2) (E σ)
section
variable {X : Cx} {CX : CXT} {k : Nat} {f C : Addr} {fd : FuncData} {ps : List Str} {sp : Sp} {E : L2.St → XK} {x : Str} {p pos : Pos} {e : Expr} {es : List Expr} {t : TA}
theorem run_makeS {pins : List (Addr × Obj)} {σ : L2.St} {H : Hp} {s : Shared} {Q : VK} {us : List Value} {vs : List V} (M : Mk X.K C f) (F : FnOk X.prog X.w X.K X.mg X.base CX k f fd ps sp) (hr : Room (k + 1) X.A) (hb : Binds X.K fd ps [])
    (hx : PassesAt CX X σ (E σ)) (I : Inv X pins σ H s) (r : Vals vs us)
    (h : ∀ x dx, H x = none → H dx = none → dx ≠ x → sp (.ref x :: vs) (upd (upd H dx (.own x)) x (.ins C dx [])) (fun v H2 => v = .non ∧ Q (.ref x) H2) (E σ)) :
    wpAny (model X.prog X.w) X.A (call (.ref C) us) (EP X pins σ Q) X.xe s := by
  have hq := h (s.heap.objs.size + 1) s.heap.objs.size (I.hok.fresh (Nat.le_succ _)) (I.hok.fresh (Nat.le_refl _)) (Nat.ne_of_lt (Nat.lt_succ_self _))
  have I2 := Inv.made (C := C) I
  have r2 : Vals (V.ref (s.heap.objs.size + 1) :: vs) (Value.ref (s.heap.objs.size + 1) :: us) := .cons rfl r
  have hl : ((Value.ref (s.heap.objs.size + 1) :: us) ++ []).length = ps.length := by
    have e := r2.length
    rw [F.len _ _ _ _ hq] at e
    rw [List.append_nil]
    exact e.symm
  have bb := hb _ (Value.ref (s.heap.objs.size + 1) :: us) I2.kIn hl
  rw [List.append_nil] at bb
  refine wpAny_call (make_map (f := f) I.kIn M.makes M.init (beq_iff_eq.mp M.fn) (codeAny_mono (F.run _ X.stack _ _ ⟨Value.ref (s.heap.objs.size + 1) :: us, []⟩ (Value.ref (s.heap.objs.size + 1) :: us) _ _ (E σ) (hr.make C us [])
    (I2.env0.make C us []) bb r2 hq) fun r s' hq' => ?_))
  cases r with
  | error e => exact hx pins _ _ e s' I2 hq'
  | ok fl =>
    cases fl with
    | ret u =>
      obtain ⟨v, H', I3, rv, ev, q3⟩ := I2.after hq'
      subst ev
      exact ⟨rv, ⟨V.ref (s.heap.objs.size + 1), H', I3, rfl, q3⟩⟩
    | next => exact False.elim hq'
    | brk => exact False.elim hq'
    | cont => exact False.elim hq'
theorem pe_newR {W : WX} (O : OkNewR X.prog X.w X.K X.mg X.base k C x ps sp) (hr : Room k X.A) (tk : Takes X W) (hg : Gl X x)
    (ha : PA X (e :: es) t) (hdb : (x == ("__debug__" : Str)) = false := by decide) (he : starEach (e :: es) X.env = (false, eval e X.env) :: starEach es X.env := by rfl) (hpl : (backTo pos (starEach es X.env)).any (·.1) = false := by rfl) :
    PE X (.Call (.Name x p) (e :: es) [] pos) (tMakeS C sp (fun σ cls d H => W cls d σ H) t) := by
  obtain ⟨j, f, fd, hj, M, F, b, hm⟩ := O.ex
  refine ⟨fun pins s σ H Q I h => ?_⟩
  refine wpAny_Call_Name_kw (ld_glob I hg hm ?_ hdb)
  refine PySem.W.callWith_K (h₀ := X.base) I.ok.mod.kin M.kp (thn (ha.run pos pins s σ H _ I h) fun us s1 ⟨vs, H1, I1, r, q⟩ => ⟨I1.kIn, ?_⟩) he hpl
  exact run_makeS M F (hr.mono hj) b (passAt tk σ) I1 r q
end
section
variable {J : Jd} {ρ : List U} {Φ : R → List U → Prop} {C : Addr}
theorem ev_makeS {ks : List PK} {Wp : WpT} {tr : TA} (h : EvA J tr ρ fun rs ρ1 => ∃ ts ρ2, ArgR J.n ks rs ρ1 ts [] [] [] ρ2 ∧ J.n ≤ ρ2.length ∧ Wp (.ins C [] :: ts) (fun t us => t = .non ∧ ∀ u, us = [u] → Φ (.sh u) ρ2) (fun x => J.Ψ x ρ2)) : EvE J (tMakeS C (spW J.K (.mt :: ks) Wp) (fun σ cls d H => J.W cls d σ H) tr) ρ Φ := by
  intro O σ G H Q hn E c
  refine h O σ G H _ hn E ⟨fun vs rs G1 H1 ρ1 ⟨ts, ρ2, ha, hl, w⟩ E1 r1 g1 => ?_, c.x⟩
  obtain ⟨G2, g2, E2, a2⟩ := ha.ok hn E1 r1
  intro x dx hx hdx ne
  have s1 : Same H1 (upd (upd H1 dx (.own x)) x (.ins C dx [])) := (same_new hdx _).trans (same_new (by rw [upd_ne ne.symm]; exact hx) _)
  have E3 := E2.push (u := .mu x (.ins C [])) s1 hx rfl ⟨E2.same.free hx, dx, [], upd_same, rfl, .nil⟩
  have a3 : ArgsOk J.K G2 (upd (upd H1 dx (.own x)) x (.ins C dx [])) ks vs ts [] := by
    have gen : ∀ {ks : List PK} {vs : List V} {ts : List T} {as : List Addr}, ArgsOk J.K G2 H1 ks vs ts as → as = [] → ArgsOk J.K G2 (upd (upd H1 dx (.own x)) x (.ins C dx [])) ks vs ts as := by
      intro ks vs ts as h
      induction h with
      | nil => intro _; exact .nil
      | pu r _ ih => intro e; exact .pu r (ih e)
      | mt _ _ _ _ => intro e; cases e
      | fe _ _ _ _ => intro e; cases e
    exact gen a2 rfl
  refine ⟨G2, .ins C [] :: ts, [x], _, _, E3.same, .mt (E2.same.free hx) ⟨dx, [], upd_same, rfl, .nil⟩ a3, by simp, w, fun v t us G' H' q f r o => ?_, fun cls d y G' H' q f r => ?_⟩
  · cases o with
    | @mt _ _ us0 _ u gx m o =>
      have e0 : us0 = [] := by
        have gen : ∀ {ks : List PK} {us : List T} {as : List Addr}, OutsOk J.K G' H' ks as us → as = [] → us = [] := by
          intro ks us as h
          induction h with
          | nil => intro _; rfl
          | pu _ ih => exact ih
          | mt _ _ _ _ => intro e; cases e
          | fe _ _ _ _ => intro e; cases e
        exact gen o rfl
      subst e0
      obtain ⟨et, q⟩ := q
      subst et
      cases r
      refine ⟨rfl, ?_⟩
      have hx0 : (ρ2 ++ [U.mu x (.ins C [])])[ρ2.length]? = some (.mu x (.ins C [])) := get_last
      have E4 : Env J.K O G' H' σ (ρ2 ++ [.mu x u]) := by
        refine E3.after (ρ1 := ρ2 ++ [.mu x u]) f (fun a ha => by rw [List.mem_singleton.mp ha]; exact own_mem hx0 (List.mem_singleton.mpr rfl)) (by rw [List.map_append, List.map_append]; rfl) (fun i w a hi ea ha => ?_) fun i w hi hna => ?_
        · rw [← set_last (u := .mu x (.ins C []))] at hi
          rcases get_set hx0 hi with ⟨rfl, rfl⟩ | ⟨ni, hi⟩
          · exact ⟨gx, m⟩
          · rw [List.mem_singleton.mp ha] at ea
            exact absurd (own_uniq E3.nd hi hx0 ea (List.mem_singleton.mpr rfl)) ni
        · rw [← set_last (u := .mu x (.ins C []))] at hi
          rcases get_set hx0 hi with ⟨rfl, rfl⟩ | ⟨_, hi⟩
          · exact absurd (List.mem_singleton.mpr rfl) (hna x (List.mem_singleton.mpr rfl))
          · exact hi
      obtain ⟨G5, g5, E5, r5⟩ := Fz.ok (v := .ref x) (.new rfl hl) hn E4 rfl
      exact c.v _ (.sh u) G5 H' ρ2 (q u rfl) E5 r5 (g1.trans (g2.trans (f.g.trans g5)))
  · have nx : ∀ b, H1 b ≠ none → b ∉ [x] := fun b hb m => hb (by rw [List.mem_singleton.mp m]; exact hx)
    have up : ∀ b, H1 b ≠ none → (upd (upd H1 dx (.own x)) x (.ins C dx [])) b ≠ none := fun b hb z => by
      cases e : H1 b with
      | none => exact hb e
      | some o => rw [s1 b o e] at z; cases z
    have f2 : Fr G2 H1 G' H' [] := by
      refine ⟨f.g, f.h, fun b o e _ => f.keep b o (s1 b o e) (nx b (by rw [e]; simp)), fun b hb => f.dom b (up b hb), fun b hb _ e => f.nofrz b (up b hb) (nx b hb) e⟩
    have E4 : Env J.K O G' H' σ ρ2 := E2.after f2 (fun a ha => by cases ha) rfl (fun i w a hi ea ha => by cases ha) fun i w hi hna => hi
    exact c.x cls d σ G' H' ρ2 y hn E4 (g1.trans (g2.trans f.g)) r q
end
end Tr
/-! enumerate over a tuple -/
namespace Vk
open PySem PySem.Spec PyProof.Rows L2
section
open Sem (wp)
open AutoSeq1 (wpAny_loadPart')
abbrev tiObj (l : Addr) : Obj := { cls := .type "tuple_iterator", data := .fields #[.ref l, .int 0 0] }
theorem enum_new_tup (l : Addr) (items : Array Value) (n : Nat) (dct : Option Addr) (sl : Array (Option Value)) :
    Meets (Builtin.«enumerate.__new__» ⟨[.type "enumerate", .ref l], []⟩) (fun _ R s => s.heap.get? l = some { cls := .type "tuple", dict := dct, data := .seq items n, slots := sl } ∧
      R (.ok (.ret (.ref (s.heap.push (tiObj l)).objs.size)))
        { s with heap := (s.heap.push (tiObj l)).push { cls := .type "enumerate", data := .fields #[.none, .bool false, .ref s.heap.objs.size, rawInt 0, .none, .none] } }) :=
  .of_wp fun prog w A R s h => by
    obtain ⟨hp, g, d, tk, os⟩ := s; obtain ⟨hl, h⟩ := h
    have hsub := sub_enumerate
    have hL : Heap.IsTuple (Shared.heap ⟨hp, g, d, tk, os⟩) l items := ⟨_, hl, rfl, n, rfl⟩
    wp_walk using wpAny_loadPart' hl
    refine wpAny_stack_any fun st => wpAny_pure ?_
    split
    · rename_i c _ _ _ _ _
      cases (c == Value.type "enumerate")
      · wp_walk using wpAny_loadPart' hl, wpAny_pyIter_tuple hL
        exact ⟨_, rfl, h⟩
      · wp_walk using wpAny_loadPart' hl, wpAny_pyIter_tuple hL
        exact ⟨_, rfl, h⟩
    · wp_walk using wpAny_loadPart' hl, wpAny_pyIter_tuple hL
      exact ⟨_, rfl, h⟩
end
section
variable {prog : Program} {w : World} {A : Around} {E : Value → Shared → Prop} {s : Shared}
theorem enum_tup {l : Addr} {items : Array Value} {Q : Value → Shared → Prop} (hL : s.heap.IsTuple l items)
    (h : ∀ h', IsEnum h' (s.heap.objs.size + 1) s.heap.objs.size 0 .none → h'.IsTupleIter s.heap.objs.size l 0 → (∀ b o, s.heap.get? b = some o → h'.get? b = some o) → Q (.ref (s.heap.objs.size + 1)) { s with heap := h' }) :
    wpAny (model prog w) A (call (.type "enumerate") [.ref l]) Q E s := by
  obtain ⟨⟨c, dct, dt, sl⟩, hl, hc, n, hd⟩ := hL
  replace hc : c = .type "tuple" := hc
  replace hd : dt = .seq items n := hd
  subst hc hd
  refine callType_new F.called_enumerate (by decide) (F.typeCall_enumerate_1 _) (F.newCall_enumerate_1 _) (fun obj => F.args_object_init_2 obj _) F.entry_enumerate_new
    (enum_new_tup l items n dct sl) ⟨hl, ?_⟩
  have hz : (s.heap.push (tiObj l)).objs.size = s.heap.objs.size + 1 := Heap.size_push ..
  show _ ∧ _
  rw [hz]
  have he : IsEnum ((s.heap.push (tiObj l)).push { cls := .type "enumerate", data := .fields #[.none, .bool false, .ref s.heap.objs.size, rawInt 0, .none, .none] }) (s.heap.objs.size + 1) s.heap.objs.size 0 .none := by
    have := Heap.get?_push_size (s.heap.push (tiObj l)) (o := { cls := .type "enumerate", data := .fields #[.none, .bool false, .ref s.heap.objs.size, rawInt 0, .none, .none] }) rfl
    rw [hz] at this; exact this
  exact ⟨⟨_, he, rfl⟩, h _ he ⟨_, Heap.get?_push_of_some _ (Heap.get?_push_size _ rfl), rfl, rfl⟩ fun b o x => Heap.get?_push_of_some _ (Heap.get?_push_of_some _ x)⟩
end
theorem enum_end_tup {prog : Program} {w : World} {A : Around} {E : Value → Shared → Prop} {s : Shared} {e it l : Addr} {i : Nat} {items : Array Value} {old : Value} {Q : Option Value → Shared → Prop} (hh : A.handled = none)
    (he : IsEnum s.heap e it i old) (hit : s.heap.IsTupleIter it l i) (hl : s.heap.IsTuple l items) (hx : items[i]? = none)
    (hQ : ∀ h', Heap.ExtBut it s.heap h' → Q none { s with heap := h' }) : wpAny (model prog w) A (pyNext (.ref e)) Q E s := by
  have hT : s.TypeIs (.ref e) "enumerate" := ⟨_, he, rfl⟩
  unfold pyNext
  refine wpAny_bind (wpAny_attempt (wpAny_callSpecial?_slot (name := Str.ofString "__next__") hT F.slot_enumerate_next
    (wpAny_call_entry F.slot_enumerate_next hT F.entry_enumerate_next ?_ (F.args_enumerate_next_1 _))))
  show wpAny _ _ (field (.ref e) 2 >>= _) _ _ _
  refine wpAny_bind (wpAny_field he rfl (x := .ref it) rfl ?_)
  refine wpAny_bind (wpAny_nextOf_tuple_end hh hit hl hx fun h' x he' hx' => ?_)
  obtain ⟨o, ho, hc⟩ := hx'
  refine wpAny_bind (wpAny_isInstance (T := "StopIteration") (b := true) ⟨o, ho, hc⟩ isSubtype_stop ?_)
  exact wpAny_pure (hQ _ he')
/-- the tuple at a, each item in a new pair -/
def IteT (K : PySem.W.Frag) (a : Addr) : It :=
  ⟨fun i H => ∃ (xs : List V) (x : V), SqT K H a xs ∧ xs[i]? = some x, fun i H v H' => ∃ T x, v = .ref T ∧ H T = none ∧ H' = upd H T (.tup [.int (i : Nat), x]) ∧ ∀ xs, SqT K H a xs → xs[i]? = some x, fun i H => ∃ xs : List V, SqT K H a xs ∧ xs.length ≤ i⟩
theorem turn_enumT {P : Program} {w : World} {K : PySem.W.Frag} {elts : List Expr} {kk : Nat} {tpos : Pos} (a e it : Addr) :
    Turn P w K (.Tuple elts kk tpos) (IteT K a) [e, it] e (fun i h => (∃ old, IsEnum h e it ((i : Nat) : Int) old) ∧ h.IsTupleIter it a i ∧ e ≠ it) where
  mem := by simp
  obj := fun i h st b hb => by
    obtain ⟨⟨old, he⟩, ⟨o, ho, hc, hd⟩, _⟩ := st
    have e' : b = e ∨ b = it := by simpa using hb
    rcases e' with z | z
    · rw [z]; exact ⟨_, he, fun v q => nomatch q⟩
    · rw [z]; exact ⟨o, ho, fun v q => by rw [hd] at q; cases q⟩
  keep := fun i h h' st k => let ⟨⟨old, he⟩, hi, hne⟩ := st; ⟨⟨old, k e (by simp) _ he⟩, hi.at fun o q => k it (by simp) o q, hne⟩
  item := by
    intro X hP hw hK hc i pins s σ H E I hf st hg
    subst hP hw hK
    obtain ⟨⟨old, he⟩, hit, hne⟩ := st
    obtain ⟨xs, x, hq, hx⟩ := hg
    obtain ⟨its, rv, p, hz⟩ := I.tuple hq
    obtain ⟨u, hu, ru⟩ := rv.get hx
    have pt : s.heap.IsTuple a its.toArray := p
    have hel : e < s.heap.objs.size := Heap.lt_size he
    have hil : it < s.heap.objs.size := by obtain ⟨_, q, _⟩ := hit; exact Heap.lt_size q
    have nai : a ≠ it := by
      intro z
      obtain ⟨o1, h1, c1, _⟩ := pt
      obtain ⟨o2, h2, c2, _⟩ := hit
      rw [z, h2] at h1
      cases h1
      rw [c1] at c2
      exact absurd c2 (by intro z; injection z with z; exact absurd z (by decide))
    have nae : e ≠ a := by
      intro z
      obtain ⟨o1, h1, c1, _⟩ := pt
      rw [← z, he] at h1
      cases h1
      exact absurd c1 (by intro z; injection z with z; exact absurd z (by decide))
    have lt : i < its.toArray.size := by
      rw [List.size_toArray]
      exact (List.getElem?_eq_some_iff.mp hu).1
    refine wpAny_pyNext_enum_itemD (Draws.tuple (A := X.A.in1) (show X.A.in1.handled = none from I.ok.hd hc) it a nai its.toArray) he ⟨hit, pt⟩ lt hne (by simp [hne, nae]) fun u' h' tk hP ho st' hT hsz hk => ?_
    have eu : u' = u := by
      have : its.toArray[i]? = some u' := hP
      rw [List.getElem?_toArray, hu] at this
      exact (Option.some.inj this).symm
    subst eu
    refine ⟨_, rfl, wpAny_letOwnedTupleGo_enum (s := { s with heap := h', toks := tk + 1 }) ho fun h'' he' sb => ?_⟩
    have hT2 : h''.get? s.heap.objs.size = some { cls := .type "tuple", data := .seq #[.int i tk, u'] } := (sb.2 _ (Nat.ne_of_gt hel)).trans hT
    have new : ObjOk X.prog X.w (upd H s.heap.objs.size (.tup [.int (i : Nat), x])) h'' s.heap.objs.size (.tup [.int (i : Nat), x]) :=
      ⟨by show 2 ≤ sizeLine; decide, [.int i tk, u'], .cons ⟨_, rfl⟩ (.cons ru .nil), ⟨_, hT2, rfl, _, rfl⟩⟩
    have I1 : Inv X pins σ (upd H s.heap.objs.size (.tup [.int (i : Nat), x])) { s with heap := h'', toks := tk + 1 } :=
      I.turnedNew (ch := [e, it]) (fun b ob hb q => (sb.2 b (fun z => hb (by simp [z]))).trans (hk b ob (fun z => hb (by simp [z])) (fun z => hb (by simp [z])) q)) hf (Nat.le_refl _) new
    refine ⟨.ref s.heap.objs.size, _, I1, rfl, ⟨_, x, rfl, I.hok.fresh (Nat.le_refl _), rfl, fun ys hy => by rw [I.tuple_inj hy hq]; exact hx⟩, ⟨⟨u', ?_⟩, st'.1.at fun o q => (sb.2 it (Ne.symm hne)).trans q, hne⟩, fun b hb => ?_⟩
    · have e1 : ((i + 1 : Nat) : Int) = (i : Int) + 1 := by omega
      rw [e1]; exact he'
    · have hb' : b < s.heap.objs.size := by
        have e' : b = e ∨ b = it := by simpa using hb
        rcases e' with z | z
        · rw [z]; exact hel
        · rw [z]; exact hil
      rw [upd_ne (Nat.ne_of_lt hb')]
      exact (hf b hb).1
  done := by
    intro X hP hw hK hc i pins s σ H E I hf st hg
    subst hP hw hK
    obtain ⟨⟨old, he⟩, hit, hne⟩ := st
    obtain ⟨xs, hq, hx⟩ := hg
    obtain ⟨its, rv, p, hz⟩ := I.tuple hq
    obtain ⟨f0, f1, f2, f3, f4, f5⟩ := hf it (by simp)
    have hl := rv.length
    exact enum_end_tup (I.ok.hd hc) he hit (show s.heap.IsTuple a its.toArray from p) (by simp; omega) fun h' eb => ⟨rfl, I.turned (t' := s.toks) (fun b o hb q => eb b o hb q) f0 f1 f3 f4 f5⟩
  self := fun A i s Q E st h => let ⟨⟨_, he⟩, _⟩ := st; wpAny_pyIter_enum he h
/-- enumerate of a list or a tuple -/
def iEnumS (K : PySem.W.Frag) (ta : TA) : TI := fun σ H R => ta σ H fun vs H1 => ∃ a xs, vs = [.ref a] ∧ ((SqL K H1 a xs ∧ R (Ite K a) H1) ∨ (SqT K H1 a xs ∧ R (IteT K a) H1))
theorem pi_enumS {X : Cx} {e : Expr} {ta : TA} {p pos tpos : Pos} {elts : List Expr} {kk : Nat} (hg : Gl X "enumerate") (hm : X.mg "enumerate" = none) (ha : PA X [e] ta) (hs : starEach [e] X.env = [(false, eval e X.env)] := by rfl) :
    PI X (.Tuple elts kk tpos) (.Call (.Name "enumerate" p) [e] [] pos) (iEnumS X.K ta) := by
  refine ⟨fun pins s σ H R I h => ?_⟩
  refine Call_ (ld_blt I hg hm boot_enumerate (PyProof.Rows.callWith_type1 (thn (ha.run pos pins s σ H _ I h) fun us s1 ⟨vs, H1, I1, r1, q1⟩ => ?_) hs rfl))
  obtain ⟨a, xs, ex, q⟩ := q1
  subst ex
  cases r1 with
  | cons r rr =>
    cases rr
    cases r
    have fin : ∀ {J : It} {st : Nat → Heap → Prop} {h' : Heap}, Turn X.prog X.w X.K (.Tuple elts kk tpos) J [s1.heap.objs.size + 1, s1.heap.objs.size] (s1.heap.objs.size + 1) st → st 0 h' → IsEnum h' (s1.heap.objs.size + 1) s1.heap.objs.size 0 .none → (∀ b o, s1.heap.get? b = some o → h'.get? b = some o) → R J H1 →
        PIE X pins σ (.Tuple elts kk tpos) R (.ref (s1.heap.objs.size + 1)) { s1 with heap := h' } := fun {J st h'} T s0 he hk qq => by
      have I2 : Inv X pins σ H1 { s1 with heap := h' } := I1.kept (t' := s1.toks) hk
      refine ⟨s1.heap.objs.size + 1, [s1.heap.objs.size + 1, s1.heap.objs.size], _, _, H1, rfl, I2, T, s0, fun b hb => ?_, qq⟩
      have e' : b = s1.heap.objs.size + 1 ∨ b = s1.heap.objs.size := by simpa using hb
      have hle : s1.heap.objs.size ≤ b := by
        rcases e' with z | z
        · rw [z]; exact Nat.le_add_right _ _
        · rw [z]; exact Nat.le_refl _
      exact I1.fpOk hle (I1.hok.fresh hle)
    rcases q with ⟨hq, q⟩ | ⟨hq, q⟩
    · obtain ⟨its, rv, p', hz⟩ := I1.list hq
      exact call_enumerate_list p'.isList fun h' he hit hsz hk => wpAny_pyIter_enum he (fin (turn_enum a (s1.heap.objs.size + 1) s1.heap.objs.size) ⟨⟨.none, he⟩, hit, Nat.succ_ne_self _⟩ he hk q)
    · obtain ⟨its, rv, p', hz⟩ := I1.tuple hq
      exact enum_tup (show s1.heap.IsTuple a its.toArray from p') fun h' he hit hk => wpAny_pyIter_enum he (fin (turn_enumT a (s1.heap.objs.size + 1) s1.heap.objs.size) ⟨⟨.none, he⟩, hit, Nat.succ_ne_self _⟩ he hk q)
theorem walk_enumT {K : PySem.W.Frag} {a : Addr} {xs : List V} : Walk (IteT K a) xs.length (fun H => SqT K H a xs) (YPair (fun i => some (.int (i : Nat))) (fun i => xs[i]?)) := by
  refine ⟨fun i _ hi q => ⟨xs, xs[i], q, by simp [hi]⟩, fun _ q => ⟨xs, q, Nat.le_refl _⟩, fun i H v H' _ q y => ?_⟩
  obtain ⟨T, x, h1, h2, h3, h4⟩ := y
  exact ⟨T, .int (i : Nat), x, h1, h2, h3, rfl, h4 xs q⟩
end Vk
namespace Tr
open PySem PySem.Spec PyProof.Rows L2 Vk
/-! ### defs called while something is handled: they loop not, they raise not -/
structure FnW (P : Program) (w : World) (K : PySem.W.Frag) (mg : Str → Option Value) (base : Heap) (k : Nat) (f : Addr) (fd : FuncData) (ps : List Str) (sp : Sp) : Prop where
  len : ∀ vs H Q E, sp vs H Q E → vs.length = ps.length
  go : ∀ (A : Around) (outer : List PySem.Env) (s : Shared) (H : Hp) (args : Args) (us : List Value) (vs : List V) (Q : VK) (E : XK), L2H.RoomH k A → Env0 P w K mg base A outer s H → BindsTo s fd args (ps.zip us) → Vals vs us →
    sp vs H Q E → codeAny (model P w) A (.call (.ref f) args) (CR CX0 outer P w H s Q E) s
/-- where its body runs -/
def cxW (P : Program) (w : World) (K : PySem.W.Frag) (mg : Str → Option Value) (base : Heap) (N : List Str) (qual : Str) (scope : Scope) (f : Addr) (cd : Value) (A : Around) (outer : List PySem.Env) (s : Shared) (H : Hp) (E : XK) : Cx :=
  { cxOf CX0 P w K mg base N qual scope f cd A outer s H E with calm := false }
theorem warm {P : Program} {w : World} {K : PySem.W.Frag} {mg : Str → Option Value} {base : Heap} {N : List Str} {qual : Str} {scope : Scope} {f : Addr} {cd : Value} {A : Around} {outer : List PySem.Env} {s s1 : Shared} {H : Hp} {E : XK} {σ : L2.St}
    (fr : A.frames = some outer) (I : Inv (cxOf CX0 P w K mg base N qual scope f cd ({ A with handled := none } : Around) outer s H E) [] σ H s1) : Inv (cxW P w K mg base N qual scope f cd A outer s H E) [] σ H s1 := by
  have ok : (cxW P w K mg base N qual scope f cd A outer s H E).Ok :=
    { mod := I.ok.mod, kind := I.ok.kind, glob := I.ok.glob, blt := I.ok.blt, above := I.ok.above, inj := I.ok.inj, has := I.ok.has, cab := I.ok.cab, hd := (fun z => nomatch z),
      frames := Around.frames_deeper fr, stk := I.ok.stk, exf := I.ok.exf, bs := I.ok.bs, bsz := I.ok.bsz, noex := I.ok.noex, exfs := I.ok.exfs, funs := I.ok.funs, frf := I.ok.frf }
  exact { ok := ok, os := I.os, bare := I.bare, base := I.base, loc := I.loc, cell := I.cell, free := I.free, freeC := I.freeC, pin := I.pin, hok := I.hok, len := I.len }
theorem Fun.okW {P : Program} {w : World} {K : PySem.W.Frag} {mg : Str → Option Value} {base : Heap} {x qual : Str} {st : Stmt} {f : Addr} {fd : FuncData} {N ps : List Str} {k : Nat} {sp : Sp} (F : L2.Fun K x qual st f fd) (S : FnScope N ps (defScope st)) (ln : ∀ vs H Q E, sp vs H Q E → vs.length = ps.length)
    (body : ∀ (cdv : Value) (A : Around) (outer : List PySem.Env) (s : Shared) (H : Hp) (vs : List V) (Q : VK) (E : XK), L2H.RoomH k (A.deeper (envOfC qual (defScope st) s.heap.objs.size f cdv)) → sp vs H Q E →
      ∃ t, PSs (cxW P w K mg base N qual (defScope st) f cdv A outer s H E) (defBody st) t ∧ t { nx := fun _ H' => Q .non H', rt := Q } (L2.start N vs) H) : FnW P w K mg base (k + 1) f fd ps sp := by
  obtain ⟨oc, od, kV, doc, pm, an, cdv, ct, osl, rfl, lk, hcd⟩ := F.ex
  constructor
  · exact ln
  intro A outer s H args us vs Q E hr e0 hb r hsp
  have kx : K.In s.heap := e0.mod.kin.keeps fun b o e => (e0.bs b o e).1
  have nl : s.heap.NoLimit := e0.mod.nolimit.keeps fun b o e => (e0.bs b o e).1
  apply codeAny_call_function hr.depth (kx _ _ lk) rfl S.co S.gen rfl (PySem.W.codeRec_of kx hcd)
  apply hb
  refine wpAny_newFunctionEnv_cells S.kind (fun y hy => ?_) fun env he s1 ic => ?_
  · obtain ⟨n, v⟩ := y
    exact (S.par n (List.of_mem_zip hy).1).elim Or.inl fun q => .inr ⟨q, PySem.W.cellsFrom_some _ _ _ (.inl q)⟩
  cases he
  refine ⟨nl.keeps ic.toInCall.keep, codeAny_func ?_⟩
  obtain ⟨t, ht, hq⟩ := body cdv A outer s H vs Q E (hr.deeper _) hsp
  have e0' : Env0 P w K mg base ({ A with handled := none } : Around) outer s H := ⟨e0.frames, e0.mod, e0.bs, e0.bsz, e0.funs, e0.frf, e0.hok, e0.bare⟩
  have J0 := warm e0.frames (inv_start (CX := CX0) (E := E) S rfl e0' (ln _ _ _ _ hsp) r ic)
  refine wpAny_mono (ht.run [] s1 _ H _ J0 hq) (fun fl s' hs => ?_) fun e s' hs => hs
  match fl, hs with
  | .ret u, ⟨v, σ', H', J, rv, q⟩ => exact ⟨v, H', J.os, J.bare, J.base, J.hok, rv, q⟩
  | .next, ⟨σ', H', J, q⟩ => exact ⟨V.non, H', J.os, J.bare, J.base, J.hok, rfl, q⟩
  | .brk, ⟨_, _, _, q⟩ => exact q.elim
  | .cont, ⟨_, _, _, q⟩ => exact q.elim
/-- by its name -/
structure OkW (P : Program) (w : World) (K : PySem.W.Frag) (mg : Str → Option Value) (base : Heap) (k : Nat) (x : Str) (ps : List Str) (sp : Sp) : Prop where
  ex : ∃ (f : Addr) (fd : FuncData), FnW P w K mg base k f fd ps sp ∧ Binds K fd ps [] ∧ PySem.W.keepIn K (.ref f) = true ∧ mg x = some (.ref f)
theorem OkW.mono {P w K mg base j k x ps sp} (O : OkW P w K mg base j x ps sp) (h : j ≤ k) : OkW P w K mg base k x ps sp := by
  obtain ⟨f, fd, F, r⟩ := O.ex
  exact ⟨f, fd, ⟨F.len, fun A outer s H args us vs Q E hr => F.go A outer s H args us vs Q E (hr.mono h)⟩, r⟩
section
variable {X : Cx} {k : Nat} {ps : List Str} {sp : Sp} {x : Str} {p pos : Pos} {e : Expr} {es : List Expr} {t : TA}
theorem pe_cW (O : OkW X.prog X.w X.K X.mg X.base k x ps sp) (hr : L2H.RoomH k X.A) (hg : Gl X x)
    (ha : PA X (e :: es) t) (hdb : (x == ("__debug__" : Str)) = false := by decide) (he : starEach (e :: es) X.env = (false, eval e X.env) :: starEach es X.env := by rfl) (hpl : (backTo pos (starEach es X.env)).any (·.1) = false := by rfl) :
    PE X (.Call (.Name x p) (e :: es) [] pos) (tCall sp [] E0 t) := by
  obtain ⟨f, fd, F, b, kp, m⟩ := O.ex
  constructor
  intro pins s σ H Q I h
  apply wpAny_Call_Name_kw
  refine ld_glob I hg m ?_ hdb
  apply PySem.W.callWith_K (h₀ := X.base) I.ok.mod.kin kp _ he hpl
  refine thn (ha.run pos pins s σ H _ I h) ?_
  rintro us s1 ⟨vs, H1, I1, r, q⟩
  rw [List.append_nil] at q
  refine ⟨I1.kIn, ?_⟩
  have hl : us.length = ps.length := r.length.symm.trans (F.len _ _ _ _ q)
  have b1 := b s1 us I1.kIn (by rw [List.append_nil]; exact hl)
  rw [List.append_nil] at b1
  refine wpAny_call (codeAny_mono (F.go X.A X.stack s1 H1 ⟨us, []⟩ us vs Q _ hr I1.env0 b1 r q) ?_)
  intro r s' hq
  match r, hq with
  | .error e, hq => exact hq.elim
  | .ok (.ret u), hq => exact I1.after hq
  | .ok .next, hq => exact hq.elim
  | .ok .brk, hq => exact hq.elim
  | .ok .cont, hq => exact hq.elim
end
theorem roomW {k : Nat} {A : Around} (hr : Room k A) (h : Option Value) : L2H.RoomH k (A.mark h) := L2H.roomH_mark hr h
/-! ### more objects of one's own handed over -/
theorem as3 {as : List Addr} (h : as.length = 3) : ∃ a b c, as = [a, b, c] := by
  match as, h with
  | [a, b, c], _ => exact ⟨a, b, c, rfl⟩
section
variable {K : PySem.W.Frag} {J : Jd} {O : Out} {G H G' H' : Hp} {σ : List (Option V)} {ρ ρ2 : List U} {Φ : R → List U → Prop} {ts : List T} {as : List Addr} {ks : List PK} {n : Nat}
theorem ArgR.muAt {rs : List R} {is : List Nat} {js : List (Nat × Addr)} (h : ArgR n ks rs ρ ts as is js ρ2) : ∀ i a, (i, a) ∈ js → a ∈ as ∧ ∃ t, ρ2[i]? = some (.mu a t) := by
  induction h with
  | nil => intro i a e; cases e
  | pu _ _ ih => exact ih
  | mt _ hi ih =>
    intro i a e
    rcases List.mem_cons.mp e with e | e
    · cases e; exact ⟨List.mem_cons_self .., _, hi⟩
    · exact ⟨List.mem_cons_of_mem _ (ih i a e).1, (ih i a e).2⟩
  | fe _ _ ih => exact fun i a e => ⟨List.mem_cons_of_mem _ (ih i a e).1, (ih i a e).2⟩
theorem Env.after2 {rs : List R} {is : List Nat} {us : List T} {m l : Nat} {c d : Addr} (E : Env K O G H σ ρ2) (h : ArgR n ks rs ρ ts as is [(m, c), (l, d)] ρ2) (f : Fr G H G' H' as) (o : OutsOk K G' H' ks as us) (ne : m ≠ l) : ∃ u w, us = [u, w] ∧ Env K O G' H' σ ((ρ2.set m (.mu c u)).set l (.mu d w)) := by
  obtain ⟨hc, t0, ht0⟩ := h.muAt m c (List.mem_cons_self ..)
  obtain ⟨hd, t1, ht1⟩ := h.muAt l d (List.mem_cons_of_mem _ (List.mem_cons_self ..))
  obtain ⟨len, q⟩ := h.outs o
  obtain ⟨u, w, rfl⟩ : ∃ u w, us = [u, w] := by
    match us, len with
    | [u, w], _ => exact ⟨u, w, rfl⟩
  have cd : c ≠ d := fun e => by
    subst e
    exact ne (own_uniq E.nd ht0 ht1 (List.mem_singleton.mpr rfl) (List.mem_singleton.mpr rfl))
  have nofd : ∀ {i j : Nat} {a : Addr} {t : T}, ρ2[i]? = some (.fd a) → ρ2[j]? = some (.mu a t) → False := fun {i j a t} h1 h2 => by
    have := own_uniq E.nd h1 h2 (List.mem_singleton.mpr rfl) (List.mem_singleton.mpr rfl)
    subst this
    rw [h1] at h2
    cases h2
  have rc : G' c = none ∧ MRep K G' H' c u := by
    rcases q c hc with ⟨_, _, i, hi⟩ | ⟨i2, t, u2, z, ng, mr, hi⟩
    · exact (nofd hi ht0).elim
    · simp only [List.zip_cons_cons, List.zip_nil_right, List.mem_cons, List.not_mem_nil, or_false, Prod.mk.injEq] at z
      rcases z with ⟨⟨_, _⟩, rfl⟩ | ⟨⟨_, e⟩, _⟩
      · exact ⟨ng, mr⟩
      · exact absurd e cd
  have rd : G' d = none ∧ MRep K G' H' d w := by
    rcases q d hd with ⟨_, _, i, hi⟩ | ⟨i2, t, u2, z, ng, mr, hi⟩
    · exact (nofd hi ht1).elim
    · simp only [List.zip_cons_cons, List.zip_nil_right, List.mem_cons, List.not_mem_nil, or_false, Prod.mk.injEq] at z
      rcases z with ⟨⟨_, e⟩, _⟩ | ⟨⟨_, _⟩, rfl⟩
      · exact absurd e.symm cd
      · exact ⟨ng, mr⟩
  have ht1' : (ρ2.set m (.mu c u))[l]? = some (.mu d t1) := by rw [List.getElem?_set_ne ne]; exact ht1
  refine ⟨u, w, rfl, E.after f h.mem ?_ (fun i v a hi ea ha => ?_) fun i v hi hna => ?_⟩
  · exact (ad_set (w := .mu d w) ht1' rfl).trans (ad_set ht0 rfl)
  · rcases get_set ht1' hi with ⟨rfl, rfl⟩ | ⟨n1, hi⟩
    · obtain rfl := mem_one ea
      exact rd
    · rcases get_set ht0 hi with ⟨rfl, rfl⟩ | ⟨n0, hi⟩
      · obtain rfl := mem_one ea
        exact rc
      · rcases q a ha with ⟨ng, mm, i2, e2⟩ | ⟨i2, t, u2, z, ng, mr, h2⟩
        · have := own_uniq E.nd hi e2 ea (List.mem_singleton.mpr rfl)
          subst this
          rw [hi] at e2
          cases e2
          exact ⟨ng, mm⟩
        · simp only [List.zip_cons_cons, List.zip_nil_right, List.mem_cons, List.not_mem_nil, or_false, Prod.mk.injEq] at z
          have := own_uniq E.nd hi h2 ea (List.mem_singleton.mpr rfl)
          subst this
          rcases z with ⟨⟨rfl, _⟩, _⟩ | ⟨⟨rfl, _⟩, _⟩
          · exact absurd rfl n0
          · exact absurd rfl n1
  · rcases get_set ht1' hi with ⟨rfl, rfl⟩ | ⟨_, hi⟩
    · exact absurd hd (hna d (List.mem_singleton.mpr rfl))
    · rcases get_set ht0 hi with ⟨rfl, rfl⟩ | ⟨_, hi⟩
      · exact absurd hc (hna c (List.mem_singleton.mpr rfl))
      · exact hi
/-- two of one's own are handed over -/
theorem spe_W2 {Wp : WpT} {rs : List R} {is : List Nat} {Ψ : Xc → List U → Prop} {m l : Nat} {p q : Addr} (ha : ArgR J.n ks rs ρ ts as is [(m, p), (l, q)] ρ2) (hi : is.Nodup) (ne : m ≠ l) (w : Wp ts (fun t us => ∀ u v, us = [u, v] → Φ (.sh t) ((ρ2.set m (.mu p u)).set l (.mu q v))) (fun _ => False)) : SpE J (spW J.K ks Wp) rs ρ Φ Ψ := by
  intro O σ G H Q E vs hn En hv c hx
  obtain ⟨G1, g1, E1, a1⟩ := ha.ok hn En hv
  refine ⟨G1, ts, as, _, _, E1.same, a1, ha.nodup hi E1.nd, w, fun v t us G' H' k f r o => ?_, fun cls d x G' H' q f r => q.elim⟩
  obtain ⟨u, v2, eu, E2⟩ := E1.after2 ha f o ne
  exact c.v v (.sh t) G' H' _ (k u v2 eu) E2 r (g1.trans f.g)
end
end Tr
namespace Tr
open PySem PySem.Spec PyProof.Rows L2 Vk
/-! ### texts by their signs -/
def tx (l : List Nat) : Str := ⟨l.toArray⟩
theorem tl_tx (l : List Nat) : TL.tl (tx l) = l := rfl
theorem tx_tl (s : Str) : tx (TL.tl s) = s := TL.mk_tl s
theorem tx_inj {l m : List Nat} : tx l = tx m ↔ l = m := ⟨fun h => by have := congrArg TL.tl h; exact this, fun h => h ▸ rfl⟩
theorem tx_app (l m : List Nat) : tx l ++ tx m = tx (l ++ m) := TL.ext_tl (TL.tl_append _ _)
theorem tx_len (l : List Nat) : (tx l).length = l.length := by show l.toArray.size = _; simp
theorem tx_cut (l : List Nat) (lo hi : Option Int) : cutS (tx l) lo hi = tx (cutL l lo hi) := by
  apply TL.ext_tl
  show (((tx l).cps.toList.drop (HT.sIx (tx l).length 0 lo)).take (HT.sIx (tx l).length (tx l).length hi - HT.sIx (tx l).length 0 lo)) = cutL l lo hi
  rw [tx_len]
  rfl
theorem tx_join (s : List Nat) (ls : List (List Nat)) : Txt.join (tx s) (ls.map tx) = tx (TL.joinL s ls) := by
  rw [TL.join_eq]
  apply TL.ext_tl
  rw [TL.tl_join]
  show TL.joinL s _ = TL.joinL s ls
  congr 1
  rw [List.map_map]
  exact (List.map_congr_left fun x _ => rfl).trans (List.map_id _)
theorem tx_join0 (ls : List (List Nat)) : Txt.join "" (ls.map tx) = tx ls.flatten := by
  have : (("" : Str)) = tx [] := rfl
  rw [this, tx_join, strJ_nil]
theorem tx_items (l : List Nat) : (tx l).cps.toList.map (fun c => T.str ⟨#[c]⟩) = l.map fun c => T.str (tx [c]) := rfl
def txs (ws : List (List Nat)) : List T := ws.map fun w => T.str (tx w)
theorem txs_len (ws : List (List Nat)) : (txs ws).length = ws.length := by simp [txs]
theorem txs_get {ws : List (List Nat)} {i : Nat} {w : List Nat} (h : ws[i]? = some w) : (txs ws)[i]? = some (.str (tx w)) := by rw [txs, List.getElem?_map, h]; rfl
theorem get_txs {ws : List (List Nat)} {i : Nat} {t : T} (h : (txs ws)[i]? = some t) : ∃ w, ws[i]? = some w ∧ t = .str (tx w) := by
  obtain ⟨w, h1, h2⟩ := get_map h
  exact ⟨w, h1, h2⟩
/-! ### readings -/
def rAddT : R2 := fun x y H Q => ∃ i j, x = .str i ∧ y = .str j ∧ i.length + j.length ≤ sizeLine ∧ Q (.str (i ++ j)) H
theorem op_addT {X : Cx} : OpR X (binaryOp .Add) rAddT := op_add_str
def rMulT : R2 := fun x y H Q => ∃ (a : Str) (n : Int), x = .str a ∧ y = .int n ∧ PySem.MulOk a n ∧ Q (.str (Txt.mul a n)) H
theorem op_mulT {X : Cx} : OpR X (binaryOp .Mult) rMulT := by
  intro pins s σ H x y v u Q I rx ry h
  obtain ⟨a, n, rfl, rfl, ok, q⟩ := h
  obtain ⟨t, rfl⟩ := rx
  obtain ⟨t', rfl⟩ := ry
  exact SB.mul ok fun t' k => ⟨.str (Txt.mul a n), H, I.tok _, ⟨_, rfl⟩, q⟩
def rInC : R2 := fun x y H Q => ∃ (c : Nat) (z : Str), x = .str ⟨#[c]⟩ ∧ y = .str z ∧ Q (.bl (decide (c ∈ z.cps.toList))) H
theorem op_inC {X : Cx} : OpR X (compareOp .In) rInC := op_in_sign
def rNotInC : R2 := fun x y H Q => ∃ (c : Nat) (z : Str), x = .str ⟨#[c]⟩ ∧ y = .str z ∧ Q (.bl (!decide (c ∈ z.cps.toList))) H
theorem op_notInC {X : Cx} : OpR X (compareOp .NotIn) rNotInC := op_notIn_sign
/-! ### enumerate of a text -/
def ItES (x : Str) : It :=
  ⟨fun i _ => i < x.cps.size, fun i H v H' => ∃ T c, v = .ref T ∧ H T = none ∧ H' = upd H T (.tup [.int (i : Nat), .str ⟨#[c]⟩]) ∧ x.cps[i]? = some c, fun i _ => x.cps.size ≤ i⟩
theorem turn_enumX {P : Program} {w : World} {K : PySem.W.Frag} {elts : List Expr} {kk : Nat} {tpos : Pos} (e it : Addr) (x : Str) (t : Tok) :
    Turn P w K (.Tuple elts kk tpos) (ItES x) [e, it] e (fun i h => (∃ old, IsEnum h e it ((i : Nat) : Int) old) ∧ h.IsStrIter it (strIterType x) x t i ∧ e ≠ it ∧ i ≤ x.cps.size) := by
  have two : ∀ {b : Addr}, b ∈ [e, it] → b = e ∨ b = it := fun {b} hb => by simpa using hb
  constructor
  · simp
  · rintro i h ⟨⟨old, he⟩, ⟨o, ho, hc, hd⟩, _, _⟩ b hb
    rcases two hb with z | z
    · rw [z]; exact ⟨_, he, fun v q => nomatch q⟩
    · rw [z]; exact ⟨o, ho, fun v q => by rw [hd] at q; cases q⟩
  · rintro i h h' ⟨⟨old, he⟩, ⟨o, ho, r⟩, hne, hle⟩ k
    exact ⟨⟨old, k e (by simp) _ he⟩, ⟨o, k it (by simp) o ho, r⟩, hne, hle⟩
  · intro X hP hw hK hc i pins s σ H E I hf st hg
    subst hP hw hK
    obtain ⟨⟨old, he⟩, hit, hne, hle⟩ := st
    have hel : e < s.heap.objs.size := Heap.lt_size he
    have hil : it < s.heap.objs.size := by obtain ⟨_, q, _⟩ := hit; exact Heap.lt_size q
    apply wpAny_pyNext_enum_itemD (Draws.text (A := X.A.in1) (show X.A.in1.handled = none from I.ok.hd hc) it x t) he hit hg hne (by simp [hne])
    rintro u h' tk ⟨c, tc, hcx, rfl⟩ ho st' hT hsz hk
    refine ⟨_, rfl, wpAny_letOwnedTupleGo_enum (s := { s with heap := h', toks := tk + 1 }) ho fun h'' he' sb => ?_⟩
    have hT2 : h''.get? s.heap.objs.size = some { cls := .type "tuple", data := .seq #[.int i tk, .str ⟨#[c]⟩ tc] } := (sb.2 _ (Nat.ne_of_gt hel)).trans hT
    have I1 : Inv X pins σ (upd H s.heap.objs.size (.tup [.int (i : Nat), .str ⟨#[c]⟩])) { s with heap := h'', toks := tk + 1 } :=
      I.turnedNew (ch := [e, it]) (fun b ob hb q => (sb.2 b (fun z => hb (by simp [z]))).trans (hk b ob (fun z => hb (by simp [z])) (fun z => hb (by simp [z])) q)) hf (Nat.le_refl _)
        ⟨by show 2 ≤ sizeLine; decide, [.int i tk, .str ⟨#[c]⟩ tc], .cons ⟨_, rfl⟩ (.cons ⟨_, rfl⟩ .nil), ⟨_, hT2, rfl, _, rfl⟩⟩
    have it' : h''.IsStrIter it (strIterType x) x t (i + 1) := by
      obtain ⟨o, ho, r⟩ := st'
      exact ⟨o, (sb.2 it (Ne.symm hne)).trans ho, r⟩
    refine ⟨.ref s.heap.objs.size, _, I1, rfl, ⟨_, c, rfl, I.hok.fresh (Nat.le_refl _), rfl, hcx⟩, ⟨⟨.str ⟨#[c]⟩ tc, ?_⟩, it', hne, hg⟩, fun b hb => ?_⟩
    · rw [show ((i + 1 : Nat) : Int) = (i : Int) + 1 by omega]
      exact he'
    · have hb' : b < s.heap.objs.size := by
        rcases two hb with z | z
        · rw [z]; exact hel
        · rw [z]; exact hil
      rw [upd_ne (Nat.ne_of_lt hb')]
      exact (hf b hb).1
  · intro X hP hw hK hc i pins s σ H E I hf st hg
    subst hP hw hK
    obtain ⟨⟨old, he⟩, hit, hne, hle⟩ := st
    obtain ⟨f0, f1, f2, f3, f4, f5⟩ := hf it (by simp)
    have hi : i = x.cps.size := Nat.le_antisymm hle hg
    subst hi
    exact wpAny_pyNext_enum_endD (Draws.text (A := X.A.in1) (show X.A.in1.handled = none from I.ok.hd hc) it x t) he hit fun h' eb => ⟨rfl, I.turned (t' := s.toks) (fun b o hb q => eb b o hb q) f0 f1 f3 f4 f5⟩
  · rintro A i s Q E ⟨⟨_, he⟩, _, _, _⟩ h
    exact wpAny_pyIter_enum he h
/-- enumerate(s), s a text -/
def iEnumX (ta : TA) : TI := fun σ H R => ta σ H fun vs H1 => ∃ x : Str, vs = [.str x] ∧ R (ItES x) H1
theorem pi_enumX {X : Cx} {e : Expr} {ta : TA} {p pos tpos : Pos} {elts : List Expr} {kk : Nat} (hg : Gl X "enumerate") (hm : X.mg "enumerate" = none) (ha : PA X [e] ta) (hs : starEach [e] X.env = [(false, eval e X.env)] := by rfl) :
    PI X (.Tuple elts kk tpos) (.Call (.Name "enumerate" p) [e] [] pos) (iEnumX ta) := by
  constructor
  intro pins s σ H R I h
  refine Call_ (ld_blt I hg hm boot_enumerate ?_)
  refine PyProof.Rows.callWith_type1 (thn (ha.run pos pins s σ H _ I h) ?_) hs rfl
  rintro us s1 ⟨vs, H1, I1, r1, x, rfl, q⟩
  cases r1 with
  | cons r rr =>
    cases rr
    obtain ⟨t, rfl⟩ := r
    refine call_enumerate_str fun h' he hit hsz hk => wpAny_pyIter_enum he ?_
    refine ⟨s1.heap.objs.size + 1, [s1.heap.objs.size + 1, s1.heap.objs.size], _, _, H1, rfl, I1.kept (t' := s1.toks) hk, turn_enumX (s1.heap.objs.size + 1) s1.heap.objs.size x t, ⟨⟨.none, he⟩, hit, Nat.succ_ne_self _, Nat.zero_le _⟩, fun b hb => ?_, q⟩
    have le : s1.heap.objs.size ≤ b := by
      rcases (by simpa using hb : b = s1.heap.objs.size + 1 ∨ b = s1.heap.objs.size) with z | z
      · rw [z]; exact Nat.le_succ _
      · rw [z]; exact Nat.le_refl _
    exact I1.fpOk le (I1.hok.fresh le)
/-! ### walks with numbers -/
def nums (ts : List T) : List T := (List.range ts.length).map fun i : Nat => T.tup [.int (i : Int), ts.getD i .non]
theorem nums_len (ts : List T) : (nums ts).length = ts.length := by simp [nums]
theorem nums_get {ts : List T} {i : Nat} {u : T} (h : (nums ts)[i]? = some u) : ∃ t, ts[i]? = some t ∧ u = .tup [.int (i : Int), t] := by
  obtain ⟨j, hj, rfl⟩ := get_map h
  have hl := lt_of_get hj
  rw [List.length_range] at hl
  rw [List.getElem?_range hl] at hj
  cases hj
  obtain ⟨t, ht⟩ := get_of_lt hl
  exact ⟨t, ht, by rw [List.getD_eq_getElem?_getD, ht]; rfl⟩
section
variable {K : PySem.W.Frag} {J : Jd} {ρ ρ1 ρ2 : List U} {Φ : R → List U → Prop} {Φ' : List T → List U → Prop} {te to ta tb : TE} {tr : TA} {i j : Nat} {t t1 t2 u : T} {ts us : List T} {a b : Addr} {x y z : Int}
theorem WalkT.nums {G : Hp} {I : It} {vs : List V} (r : RepL K G vs ts) (w : Walk I vs.length (fun H => Same G H) (YPair (fun i => some (.int (i : Nat))) fun i => vs[i]?)) : WalkT K G I (nums ts) := by
  have w2 : Walk I (Tr.nums ts).length (fun H => Same G H) (YPair (fun i => some (.int (i : Nat))) fun i => vs[i]?) := by rw [nums_len, ← r.len]; exact w
  refine ⟨⟨_, w2, fun i G1 H x H' u g1 g2 y e => .inr ?_⟩⟩
  obtain ⟨p, n, v, h1, h2, h3, h4, h5⟩ := y
  cases h4
  obtain ⟨t, ht, rfl⟩ := nums_get e
  obtain ⟨t', ht', r'⟩ := r.getV h5
  rw [ht] at ht'
  cases ht'
  exact ⟨p, _, _, h2, h3, h1, rfl, .cons (.int _) (.cons (r'.mono g1) .nil)⟩
theorem ei_enumS (h : EvA J tr ρ fun rs ρ1 => ∃ r t ts ρ2, rs = [r] ∧ Fz J.n r ρ1 t ρ2 ∧ t.row = some ts ∧ Φ' (nums ts) ρ2) : EvI J (iEnumS J.K tr) ρ Φ' := by
  intro O σ G H R hn E c xo
  refine h O σ G H _ hn E ⟨fun vs rs G1 H1 ρ1 ⟨r, t, ts, ρ2, e, f, et, q⟩ E1 r1 g1 => ?_, xo⟩
  subst e
  cases r1 with
  | cons rv r0 =>
    cases r0
    obtain ⟨G2, g2, E2, r2⟩ := f.ok hn E1 rv
    obtain ⟨a, vs, rfl, hs, rl⟩ := Rep.row r2 et
    refine ⟨a, vs, rfl, ?_⟩
    rcases hs with hs | hs
    · exact .inl ⟨E2.same.seq hs, c _ _ G2 H1 ρ2 q E2 (g1.trans g2) (.nums rl (walk_enum.mono (fun H s => s.seq hs) fun _ _ _ _ _ _ y => y))⟩
    · exact .inr ⟨Vk.Same.tup E2.same hs, c _ _ G2 H1 ρ2 q E2 (g1.trans g2) (.nums rl (walk_enumT.mono (fun H s => Vk.Same.tup s hs) fun _ _ _ _ _ _ y => y))⟩
theorem walk_enumX {x : Str} : Walk (ItES x) x.cps.size (fun _ => True) (YPair (fun i => some (.int (i : Nat))) fun i => (x.cps.toList.map fun c => V.str ⟨#[c]⟩)[i]?) := by
  refine ⟨fun i _ hi _ => hi, fun _ _ => Nat.le_refl _, fun i H v H' _ _ y => ?_⟩
  obtain ⟨p, c, h1, h2, h3, h4⟩ := y
  refine ⟨p, _, _, h1, h2, h3, rfl, ?_⟩
  show (x.cps.toList.map fun c => V.str ⟨#[c]⟩)[i]? = _
  rw [List.getElem?_map, Array.getElem?_toList, h4]
  rfl
theorem ei_enumX (h : EvA J tr ρ fun rs ρ1 => ∃ s : Str, rs = [.sh (.str s)] ∧ Φ' (nums (s.cps.toList.map fun c => T.str ⟨#[c]⟩)) ρ1) : EvI J (iEnumX tr) ρ Φ' := by
  intro O σ G H R hn E c xo
  refine h O σ G H _ hn E ⟨fun vs rs G1 H1 ρ1 ⟨s, e, q⟩ E1 r1 g1 => ?_, xo⟩
  subst e
  cases r1 with
  | cons rv r0 =>
    cases r0
    cases rv
    refine ⟨s, rfl, c _ _ G1 H1 ρ1 q E1 g1 (.nums RepL.ofS ?_)⟩
    have e : (s.cps.toList.map fun c => V.str ⟨#[c]⟩).length = s.cps.size := by rw [List.length_map, Array.length_toList]
    rw [e]
    exact walk_enumX.mono (fun _ _ => trivial) fun _ _ _ _ _ _ y => y
/-! ### operators on texts -/
theorem rd_addT {s s' : Str} (hl : s.length + s'.length ≤ 100000) (q : Φ (.sh (.str (s ++ s'))) ρ) : Rd2 J rAddT (.sh (.str s)) (.sh (.str s')) ρ Φ := by
  intro O σ G H Q v w hn E hv hw c
  cases hv
  cases hw
  exact ⟨s, s', rfl, rfl, by rw [sizeLine_eq]; omega, c.here E q (.str _)⟩
theorem rd_inC {n : Nat} {s : Str} (q : Φ (.sh (.bl (decide (n ∈ s.cps.toList)))) ρ) : Rd2 J rInC (.sh (.str ⟨#[n]⟩)) (.sh (.str s)) ρ Φ := by
  intro O σ G H Q v w hn E hv hw c
  cases hv
  cases hw
  exact ⟨n, s, rfl, rfl, c.here E q (.bl _)⟩
theorem rd_notInC {n : Nat} {s : Str} (q : Φ (.sh (.bl (!decide (n ∈ s.cps.toList)))) ρ) : Rd2 J rNotInC (.sh (.str ⟨#[n]⟩)) (.sh (.str s)) ρ Φ := by
  intro O σ G H Q v w hn E hv hw c
  cases hv
  cases hw
  exact ⟨n, s, rfl, rfl, c.here E q (.bl _)⟩
theorem rd_slS {s : Str} {lo hi : Option Int} (hl : s.length ≤ 100000) (q : Φ (.sh (.str (cutS s lo hi))) ρ) : Rd1 J (fun x => rSlS x lo hi) (.sh (.str s)) ρ Φ := by
  intro O σ G H Q v hn E hv c
  cases hv
  exact ⟨s, rfl, by rw [sizeLine_eq]; omega, c.here E q (.str _)⟩
theorem mul_ok {s : Str} {n : Nat} (hl : s.length ≤ 1000) (hn : n ≤ 1000) : PySem.MulOk s (n : Int) := mulOk_of 1000 1000 hl (by omega) (by omega) (by decide) (by decide)
theorem foldl_app : ∀ (n : Nat) (l : List Nat) (acc : Array Nat), (List.foldl (fun x1 x2 => x1 ++ x2) acc (List.replicate n l.toArray)).toList = acc.toList ++ (List.replicate n l).flatten
  | 0, l, acc => by simp
  | n + 1, l, acc => by
    rw [List.replicate_succ, List.foldl_cons, foldl_app n l, List.replicate_succ, List.flatten_cons]
    simp
theorem mul_tx {l : List Nat} {n : Nat} : Txt.mul (tx l) (n : Int) = tx (List.replicate n l).flatten := by
  apply TL.ext_tl
  show TL.tl (Txt.mul (tx l) (n : Int)) = (List.replicate n l).flatten
  unfold Txt.mul
  by_cases h0 : n = 0
  · subst h0
    rw [if_pos (by decide)]
    rfl
  · rw [if_neg (by omega)]
    by_cases h1 : n = 1
    · subst h1
      rw [if_pos (by simp)]
      show l = _
      simp
    · by_cases h2 : l = []
      · subst h2
        rw [if_pos (by simp [tx, Str.length])]
        show [] = _
        simp
      · rw [if_neg (by
          have : l.length ≠ 0 := fun e => h2 (List.length_eq_zero_iff.mp e)
          simp only [tx_len, Bool.or_eq_true, beq_iff_eq, not_or]
          exact ⟨by omega, this⟩)]
        have := foldl_app n l #[]
        show (List.foldl _ #[] (List.replicate (n : Int).toNat l.toArray)).toList = _
        rw [Int.toNat_natCast, this]
        simp
theorem rd_mulT {s : Str} {n : Nat} (hl : s.length ≤ 1000) (hn : n ≤ 1000) (q : Φ (.sh (.str (Txt.mul s (n : Int)))) ρ) : Rd2 J rMulT (.sh (.str s)) (.sh (.int (n : Int))) ρ Φ := by
  intro O σ G H Q v w hh E hv hw c
  cases hv
  cases hw
  exact ⟨s, n, rfl, rfl, mul_ok hl hn, c.here E q (.str _)⟩
theorem rl_minN {ns : List Nat} (d : RD ρ r (.lst (nt ns))) (hp : 0 < ns.length) (q : ∀ m : Nat, m ∈ ns → (∀ k ∈ ns, m ≤ k) → Φ (.sh (.int (m : Int))) ρ) : RdL J (rMin J.K) [r] ρ Φ := by
  intro O σ G H Q vs hn E hv c
  cases hv with
  | cons h h0 =>
    cases h0
    obtain ⟨a, vs, rfl, e, rl⟩ := d.lst E h
    have en : nt ns = (ns.map fun n : Nat => (n : Int)).map T.int := by rw [List.map_map]; rfl
    rw [en] at rl
    rw [RepL.ints rl] at e
    refine ⟨a, _, rfl, SqL.of e, by rw [List.length_map]; exact hp, fun m hm hle => ?_⟩
    obtain ⟨k, hk, rfl⟩ := List.mem_map.mp hm
    exact c.here E (q k hk fun l hl => by have := hle l (List.mem_map.mpr ⟨l, hl, rfl⟩); omega) (.int _)
end
end Tr
namespace Tr
open PySem PySem.Spec PyProof.Rows L2 Vk RT
/-! ### list(reversed(x)), x a list -/
section
variable {prog : Program} {w : World} {A : Around} {E : Value → Shared → Prop} {s : Shared}
theorem call_listRev {it l : Addr} {items : Array Value} {Q : Value → Shared → Prop} (hh : A.handled = none) (hit : s.heap.IsRevIter it l ((items.size : Int) - 1)) (hl : s.heap.IsList l items) (hne : l ≠ it) (hn : items.size ≤ sizeLine)
    (hQ : ∀ (h' : Heap) (tk : Nat) (acc : Array Value) (c : Nat), (∀ b o, b ≠ it → s.heap.get? b = some o → h'.get? b = some o) → h'.get? s.heap.objs.size = some { cls := .type "list", dict := none, data := .seq acc c, slots := #[] } →
      ItemsOf (fun i v => items[items.size - 1 - i]? = some v) acc items.size → Q (.ref s.heap.objs.size) { s with heap := h', toks := tk }) : wpAny (model prog w) A (call (.type "list") [.ref it]) Q E s := by
  refine callType_codes (Q₁ := fun ob sb => ob = .ref s.heap.objs.size ∧ sb = { s with heap := s.heap.push { cls := .type "list", data := .seq #[] } }) F.called_list (F.typeCall_list_1 _) F.entry_list_init (code_list_new _ ⟨rfl, rfl⟩) ?_
  rintro ob sb ⟨rfl, rfl⟩
  have old : ∀ b o, s.heap.get? b = some o → b < s.heap.objs.size := fun b o e => Heap.lt_size e
  have lt1 : it < s.heap.objs.size := by obtain ⟨o, e, _⟩ := id hit; exact old _ _ e
  have lt2 : l < s.heap.objs.size := by obtain ⟨o, e, _⟩ := id hl; exact old _ _ e
  generalize hN : s.heap.objs.size = N at lt1 lt2
  have S0 : (s.heap.push { cls := .type "list", data := .seq #[] }).get? N = some { cls := .type "list", data := .seq #[] } := hN ▸ Heap.get?_push_size _ rfl
  have p0 : ∀ b o, s.heap.get? b = some o → (s.heap.push { cls := .type "list", data := .seq #[] }).get? b = some o := fun b o e => Heap.get?_push_of_some _ e
  generalize hH : s.heap.push { cls := .type "list", data := .seq #[] } = h0 at S0 p0
  refine ⟨⟨_, S0, rfl⟩, F.args_list_init_2 _ _, ?_⟩
  have W := (Walks.listRev (prog := prog) (w := w) (A := A.in1.in1) hh it l hne items).toS
  have nf : N ∉ [it, l] := by
    simp only [List.mem_cons, List.not_mem_nil, or_false, not_or]
    exact ⟨Nat.ne_of_gt lt1, Nat.ne_of_gt lt2⟩
  -- its items are put aside
  show wpAny _ A.in1.in1 (do let o ← Builtin.List.listItems (.ref N); Builtin.List.listUpdate (.ref N) (fun _ => #[]); letGo o.toList.reverse; Builtin.List.listExtendWith (.ref N) (.ref it) .none) _ _ _
  apply wpAny_bind
  unfold Builtin.List.listItems
  apply wpAny_bind
  apply wpAny_seqItems S0 rfl
  apply wpAny_pure
  refine wpAny_bind (m := updateSeq N (fun _ => #[])) (wpAny_updateSeq S0 rfl ?_)
  have S1 := Heap.get?_update_self (Obj.mapSeq (fun _ => (#[] : Array Value))) S0 rfl
  have p1 : ∀ b o, b ≠ N → h0.get? b = some o → (h0.update N (Obj.mapSeq (fun _ => (#[] : Array Value)))).get? b = some o := fun b o hb e => (Heap.get?_update_other _ _ (Ne.symm hb)).trans e
  generalize h0.update N (Obj.mapSeq (fun _ => (#[] : Array Value))) = h1 at S1 p1
  have q1 : ∀ b o, s.heap.get? b = some o → h1.get? b = some o := fun b o e => p1 b o (Nat.ne_of_lt (hN ▸ old b o e)) (p0 b o e)
  apply wpAny_bind
  apply wpAny_letGo
  have it1 : h1.IsRevIter it l ((items.size : Int) - 1) := hit.at fun o e => q1 _ _ e
  have l1 : h1.IsList l items := hl.at fun o e => q1 _ _ e
  have ty1 : ({ s with heap := h1 } : Shared).TypeIs (.ref it) "list_reverseiterator" := Heap.IsRevIter.typeIs (s := { s with heap := h1 }) it1
  have ns : Builtin.List.listSameRef (.ref N) (.ref it) = false := by simp [Builtin.List.listSameRef, Nat.ne_of_gt lt1]
  unfold Builtin.List.listExtendWith
  apply wpAny_bind
  apply wpAny_typeOf ty1
  rw [if_neg (by rw [ns]; decide)]
  apply wpAny_bind
  apply wpAny_pyIter_revIter (s := { s with heap := h1 }) it1
  apply wpAny_bind
  apply wpAny_holding
  unfold Builtin.List.listLengthHint
  refine wpAny_bind (wpAny_specialOf ty1 nolen_lri ?_)
  refine wpAny_bind (m := specialOf (Value.ref it) (Str.ofString "__length_hint__")) (wpAny_specialOf ty1 hint_lri ?_)
  generalize hid : ("list_reverseiterator.__length_hint__" : String) = idn
  wp_delta
  rw [show splitId idn = some ("list_reverseiterator", "__length_hint__") by subst hid; decide +kernel]
  subst hid
  refine wpAny_bind (wpAny_isInstance (b := true) ty1 (by rw [isSubtype_type]; kernel_rfl) ?_)
  apply wpAny_pure
  rw [if_neg (by decide)]
  have z0 : ((items.size : Nat) : Int) - 1 - ((0 : Nat) : Int) = (items.size : Int) - 1 := by omega
  refine wpAny_pure ⟨plainId_quiet F.plain_extend_loop _, codeAny_extend_loopS W hn N nf _ items.size 0 _ _ _ rfl (Nat.zero_le _) ⟨Nat.zero_le _, by rw [z0]; exact it1, l1⟩ S1 (ItemsOf.nil _) fun s' acc c hm hS' hacc => ?_⟩
  rw [Moved.eq_with hm]
  refine ⟨rfl, ?_⟩
  have := hQ s'.heap s'.toks acc c (fun b o hb e => hm.heap b o (fun hmem => ?_) (q1 b o e)) (hN ▸ hS') hacc
  · rw [hN] at this
    exact this
  · rcases List.mem_cons.mp hmem with e' | hmem
    · exact Nat.ne_of_lt (hN ▸ old b o e) e'
    · exact hb (List.mem_singleton.mp hmem)
end
def tListRev (K : PySem.W.Frag) (te : TE) : TE := fun σ H Q => te σ H fun v H1 => ∃ (a : Addr) (xs : List V), v = .ref a ∧ SqL K H1 a xs ∧ ∀ q, H1 q = none → Q (.ref q) (upd H1 q (.lst xs.reverse))
theorem pe_listRev {X : Cx} {K : PySem.W.Frag} {e : Expr} {te : TE} {p p2 pos pos2 : Pos} (hc : X.calm = true) (hg : Gl X "list") (hm : X.mg "list" = none) (hg2 : Gl X "reversed") (hm2 : X.mg "reversed" = none) (he : PE X e te)
    (hs : starEach [e] X.env = (false, eval e X.env) :: starEach [] X.env := by rfl) (hs2 : starEach [.Call (.Name "reversed" p2) [e] [] pos2] X.env = (false, eval (.Call (.Name "reversed" p2) [e] [] pos2) X.env) :: starEach [] X.env := by rfl) (hk : X.K = K := by rfl) :
    PE X (.Call (.Name "list" p) [.Call (.Name "reversed" p2) [e] [] pos2] [] pos) (tListRev K te) := by
  subst hk
  constructor
  intro pins s σ H Q I h
  refine Call_ (ld_blt I hg hm boot_list (PyProof.Rows.callWith_type1 (args_cons ?_ hs2) hs2 rfl))
  refine Call_ (ld_blt I hg2 hm2 PyProof.Rows.boot_reversed (PyProof.Rows.callWith_type1 (args_cons ?_ hs) hs rfl))
  refine thn (he.run pins s σ H _ I h) ?_
  rintro u s1 ⟨v, H1, I1, r1, a, xs, rfl, hq, q⟩
  cases r1
  obtain ⟨its, rv, p', hz⟩ := I1.list hq
  have p' := p'.isList
  refine args_nil (call_reversed_list p' (args_nil ?_))
  have fp := I1.fpOk (H' := H1) (b := s1.heap.objs.size) (Nat.le_refl _) (I1.hok.fresh (Nat.le_refl _))
  obtain ⟨ol, hol, _⟩ := id p'
  have ne : a ≠ s1.heap.objs.size := Nat.ne_of_lt (Heap.lt_size hol)
  have hsz : (s1.heap.push (revObj a ((its.toArray.size : Int) - 1))).objs.size = s1.heap.objs.size + 1 := Heap.size_push ..
  refine call_listRev (s := { s1 with heap := s1.heap.push (revObj a ((its.toArray.size : Int) - 1)) }) (I1.ok.hd hc) ⟨_, Heap.get?_push_size _ rfl, rfl, rfl⟩ (p'.push _) ne (by rw [List.size_toArray, ← rv.length]; exact hz) ?_
  intro h' tk acc c hk hS hi
  rw [hsz] at hS ⊢
  have hn : H1 (s1.heap.objs.size + 1) = none := I1.hok.fresh (Nat.le_succ _)
  refine ⟨.ref (s1.heap.objs.size + 1), upd H1 (s1.heap.objs.size + 1) (.lst xs.reverse), I1.turnedNew (t' := tk) (ch := [s1.heap.objs.size]) (fun b o hb e => hk b o (fun z => hb (by rw [z]; exact List.mem_singleton.mpr rfl)) (Heap.get?_push_of_some _ e)) (fun b hb => by rw [List.mem_singleton.mp hb]; exact fp) (Nat.le_succ _)
    (show ObjOk X.prog X.w _ _ _ (.lst xs.reverse) from ⟨by rw [List.length_reverse]; exact hz, acc.toList, c, vals_rev rv hi, ?_⟩), rfl, q _ hn⟩
  rw [Array.toArray_toList]
  exact hS
end Tr
namespace Tr
open PySem L2 Vk
section
variable {K : PySem.W.Frag} {J : Jd} {ρ ρ1 ρ2 : List U} {Φ : R → List U → Prop} {te : TE} {ts : List T}
theorem ev_listRev (h : EvE J te ρ fun r ρ1 => ∃ ts, RD ρ1 r (.lst ts) ∧ Φ (.sh (.lst ts.reverse)) ρ1) : EvE J (tListRev J.K te) ρ Φ := by
  intro O σ G H Q hn E c
  refine h O σ G H _ hn E ⟨fun v r G1 H1 ρ1 ⟨ts, d, q⟩ E1 r1 g1 => ?_, c.x⟩
  obtain ⟨a, vs, rfl, e, rl⟩ := d.lst E1 r1
  exact ⟨a, vs, rfl, SqL.of e, fun p np => (c.on g1).lst E1 np rl.rev q⟩
end
theorem pi_enumSK {X : Cx} {K : PySem.W.Frag} {e : Expr} {ta : TA} {p pos tpos : Pos} {elts : List Expr} {kk : Nat} (hg : Gl X "enumerate") (hm : X.mg "enumerate" = none) (ha : L2.PA X [e] ta) (hs : starEach [e] X.env = [(false, eval e X.env)] := by rfl) (hk : X.K = K := by rfl) :
    PI X (.Tuple elts kk tpos) (.Call (.Name "enumerate" p) [e] [] pos) (iEnumS K ta) := hk ▸ pi_enumS hg hm ha hs
end Tr
namespace Tr
open PySem L2 Vk
section
variable {J : Jd} {ρ : List U} {Φ : R → List U → Prop}
theorem rl_allM {α : Type} {xs : List α} {c : α → Bool} (q : Φ (.sh (.bl (xs.all c))) ρ) : RdL J (rAll J.K) [.sh (.lst (xs.map fun x => T.bl (c x)))] ρ Φ := by
  refine rl_all (bs := xs.map c) (by rw [List.map_map]; rfl) ?_
  rw [List.all_map]
  exact q
end
end Tr
namespace Tr
open PySem L2 Vk
theorem lit_len {l : List Nat} {n : Nat} (h : l.length ≤ n) : (tx l).length ≤ n := by rw [tx_len]; exact h
theorem one_eq {c d : Nat} : decide ((⟨#[c]⟩ : Str) = ⟨#[d]⟩) = decide (c = d) := by
  rw [Bool.eq_iff_iff, decide_eq_true_iff, decide_eq_true_iff]
  constructor
  · intro h
    have := congrArg TL.tl h
    exact (List.cons.inj this).1
  · intro h; rw [h]
theorem nums_str (l : List Nat) : nums (l.map fun c => T.str ⟨#[c]⟩) = (List.range l.length).map fun i : Nat => T.tup [.int (i : Int), .str ⟨#[l.getD i 0]⟩] := by
  unfold nums
  rw [List.length_map]
  refine List.map_congr_left fun i hi => ?_
  have hi := List.mem_range.mp hi
  rw [List.getD_eq_getElem?_getD, List.getElem?_map, List.getD_eq_getElem?_getD, List.getElem?_eq_getElem hi]
  rfl
theorem sum_const1 {α : Type} : ∀ {xs : List α}, (xs.map fun _ => 1).sum = xs.length
  | [] => rfl
  | x :: xs => by rw [List.map_cons, List.sum_cons, sum_const1 (xs := xs), List.length_cons]; omega
end Tr
namespace Tr
theorem rep_single {α : Type} {n : Nat} {a : α} : (List.replicate n [a]).flatten = List.replicate n a := by
  induction n with
  | zero => rfl
  | succ n ih => rw [List.replicate_succ, List.flatten_cons, ih]; rfl
end Tr
set_option maxHeartbeats 4000000
namespace Tr
open PySem PySem.Spec PyProof.Rows L2 Vk
theorem tuple_mul0 (l : Addr) (items : Array Value) (n : Nat) (dd : Option Addr) (sl : Array (Option Value)) (u : Tok) (hi : items.isEmpty = false) :
    Meets (Builtin.«tuple.__mul__» ⟨[.ref l, .int 0 u], []⟩) (fun _ R s => s.heap.get? l = some { cls := .type "tuple", dict := dd, data := .seq items n, slots := sl } ∧ R (.ok (.ret (Value.ref s.heap.objs.size))) { s with heap := s.heap.push { cls := Value.type "tuple", data := Data.seq #[] }, toks := s.toks }) :=
  .of_wp fun prog w A R s h => by
    obtain ⟨hp, g, d, tk, os⟩ := s
    obtain ⟨hl, h⟩ := h
    have f1 := AutoSeq1.idx_int
    wp_walk using AutoSeq1.wpAny_loadPart' hl
    repeat (first
      | (refine wpAny_ite_false (decide_eq_false (by decide)) ?_; wp_walk using AutoSeq1.wpAny_loadPart' hl)
      | (refine wpAny_ite_false (decide_eq_false (by rw [hi]; decide)) ?_; wp_walk using AutoSeq1.wpAny_loadPart' hl)
      | (refine wpAny_ite_true (decide_eq_true (by simp)) ?_; wp_walk using AutoSeq1.wpAny_loadPart' hl))
    exact ⟨_, rfl, h⟩
def rRep0 (K : PySem.W.Frag) : R2 := fun x y H Q => ∃ l xs, x = .ref l ∧ y = .int 0 ∧ SqT K H l xs ∧ xs ≠ [] ∧ ∀ p, H p = none → Q (.ref p) (upd H p (.tup []))
theorem op_repT0 {X : Cx} : OpR X (binaryOp .Mult) (rRep0 X.K) := by
  intro pins s σ H x y v u Q I rx ry h
  obtain ⟨l, xs, rfl, rfl, hT, hne, q⟩ := h
  cases rx
  obtain ⟨t, rfl⟩ := ry
  obtain ⟨its, r, ⟨⟨cls, dd, data, sl⟩, ho, hc, n, hd⟩, hs⟩ := I.tuple hT
  simp only at hc hd
  subst hc hd
  have hi : its.toArray.isEmpty = false := by
    cases r with
    | nil => exact absurd rfl hne
    | cons _ _ => rfl
  have m0 := tuple_mul0 l its.toArray n dd sl t hi
  have ty : s.TypeIs (.ref l) "tuple" := ⟨_, ho, rfl⟩
  refine wpAny_binaryOp_repeat_ref (T := "tuple") (U := "int") (by decide) ty (fun s' => typeIs_int s' 0 t) noFill_tuple_mul F.fills_int_mul F.slot_int_rmul repeat_tuple F.slot_int_index.lookup ?_
  refine call_meets F.slot_int_rmul (typeIs_int s 0 t) F.entry_int_rmul (F.args_int_rmul_2 _ _) (int_rmul_tuple 0 t l its.toArray n dd sl) ⟨ho, rfl, ⟨_, ho, rfl⟩, ?_⟩
  refine call_meets F.slot_tuple_mul ⟨_, ho, rfl⟩ F.entry_tuple_mul (F.args_tuple_mul_2 _ _) m0 ⟨ho, ?_⟩
  exact ⟨.ref s.heap.objs.size, _, I.laid (t' := s.toks) (o := .tup []) (fun b ob q => Heap.get?_push_of_some _ q) (Nat.le_refl _) ⟨Nat.zero_le _, [], .nil, IsTup.new _ _⟩, rfl, q _ (I.hok.fresh (Nat.le_refl _))⟩
def rRepA (K : PySem.W.Frag) : R2 := fun x y H Q => rRep0 K x y H Q ∨ rRepZ K x y H Q
theorem op_repA {X : Cx} : OpR X (binaryOp .Mult) (rRepA X.K) := op_or op_repT0 op_repZ
section
variable {J : Jd} {ρ : List U} {Φ : R → List U → Prop} {ts : List T} {z : Int}
theorem rd_repA (ne : ts ≠ []) (hs : ts.length ≤ 1000) (z1 : 0 ≤ z) (z2 : z ≤ 1000) (q : Φ (.sh (.tup (List.replicate z.toNat ts).flatten)) ρ) : Rd2 J (rRepA J.K) (.sh (.tup ts)) (.sh (.int z)) ρ Φ := by
  intro O σ G H Q v w hn E hv hw c
  by_cases c0 : z = 0
  · subst c0
    cases hv with
    | tup h r =>
      cases hw
      have hne : ∀ {vs : List V}, RepL J.K G vs ts → vs ≠ [] := fun {vs} r z => by
        subst z
        cases r
        exact ne rfl
      exact .inl ⟨_, _, rfl, rfl, Vk.Same.tup E.same h, hne r, fun p np => c.tup E np .nil q⟩
  · exact .inr (rd_repZ ne hs (by omega) z2 q O σ G H Q v w hn E hv hw c)
end
theorem cutL_to {α : Type} {xs : List α} {k : Nat} : cutL xs none (some (k : Int)) = xs.take k := by
  unfold cutL
  rw [HT.sIx_nat, HT.sIx_none, Nat.sub_zero, List.drop_zero]
  rw [← List.take_eq_take_min]
theorem cutL_from {α : Type} {xs : List α} {k : Nat} : cutL xs (some (k : Int)) none = xs.drop k := by
  unfold cutL
  rw [HT.sIx_nat, HT.sIx_none]
  by_cases h : k ≤ xs.length
  · rw [Nat.min_eq_left h]
    exact List.take_of_length_le (by rw [List.length_drop]; omega)
  · rw [Nat.min_eq_right (by omega), List.drop_eq_nil_of_le (Nat.le_refl _), List.drop_eq_nil_of_le (by omega)]
    exact List.take_nil
theorem txof (x : String) : Str.ofString x = tx (x.toList.map Char.toNat) := TL.ext_tl (TL.tl_ofString x)
theorem tx1 (c : Nat) : (⟨#[c]⟩ : Str) = tx [c] := rfl
section
variable {J : Jd} {ρ : List U} {Φ : R → List U → Prop} {s s' : Str} {l m : List Nat}
theorem rd_addTx (h1 : s = tx l) (h2 : s' = tx m) (hl : l.length ≤ 50000) (hm : m.length ≤ 50000) (q : Φ (.sh (.str (tx (l ++ m)))) ρ) : Rd2 J rAddT (.sh (.str s)) (.sh (.str s')) ρ Φ := by
  subst h1 h2
  exact rd_addT (by rw [tx_len, tx_len]; omega) (by rw [tx_app]; exact q)
theorem rd_slTx {lo hi : Option Int} (h1 : s = tx l) (hl : l.length ≤ 100000) (q : Φ (.sh (.str (tx (cutL l lo hi)))) ρ) : Rd1 J (fun x => rSlS x lo hi) (.sh (.str s)) ρ Φ := by
  subst h1
  exact rd_slS (by rw [tx_len]; omega) (by rw [tx_cut]; exact q)
theorem rl_lenTx (h1 : s = tx l) (hl : l.length ≤ 100000) (q : Φ (.sh (.int (l.length : Nat))) ρ) : RdL J rLenX [.sh (.str s)] ρ Φ := by
  subst h1
  exact rl_lenX (by rw [tx_len]; omega) (by rw [tx_len]; exact q)
theorem rd_ixTx {z : Int} {c : Nat} (h1 : s = tx l) (hl : l.length ≤ 100000) (h : atI l z = some c) (q : Φ (.sh (.str (tx [c]))) ρ) : Rd2 J (rIx J.K) (.sh (.str s)) (.sh (.int z)) ρ Φ := by
  subst h1
  exact rd_ixs (by rw [tx_len]; omega) h q
theorem rd_eqTx (h1 : s = tx l) (h2 : s' = tx m) (q : Φ (.sh (.bl (decide (l = m)))) ρ) : Rd2 J rEq (.sh (.str s)) (.sh (.str s')) ρ Φ := by
  subst h1 h2
  exact rd_eqs (by rw [show decide (tx l = tx m) = decide (l = m) from decide_eq_decide.mpr tx_inj]; exact q)
theorem rd_neTx (h1 : s = tx l) (h2 : s' = tx m) (q : Φ (.sh (.bl (!decide (l = m)))) ρ) : Rd2 J rNe (.sh (.str s)) (.sh (.str s')) ρ Φ := by
  subst h1 h2
  exact rd_nes (by rw [show decide (tx l = tx m) = decide (l = m) from decide_eq_decide.mpr tx_inj]; exact q)
end
/-- a raising def called by keywords where it raises nothing -/
theorem pe_ckR0 {X : Cx} {k : Nat} {ps ks : List Str} {sp : Sp} {x : Str} {p pos : Pos} {tk : TA} {kws : List Keyword} {g : List Value → List Value → List Value} {gV : List V → List V → List V} (O : OkKR X.prog X.w X.K X.mg X.base k x ps ks g gV sp) (hr : Room k X.A) (hg : Gl X x) (hkw : L2.PK X kws tk)
    (hall : (backToKw pos (keywordEach kws X.env)).all (·.1.isSome) = true := by rfl) (hks : (backToKw pos (keywordEach kws X.env)).filterMap (·.1) = ks := by rfl) (hdb : (x == ("__debug__" : Str)) = false := by decide)
    (hpl : ((backTo pos (starEach [] X.env)).any (·.1) || (backToKw pos (keywordEach kws X.env)).any (·.1.isNone)) = false := by rfl) :
    PE X (.Call (.Name x p) [] kws pos) (tCallK sp gV E0 tNil tk) := by
  obtain ⟨f, fd, F, hb, hk, hm⟩ := O.ex
  refine ⟨fun pins s σ H Q I h => ?_⟩
  refine wpAny_Call_Name_kw (ld_glob I hg hm ?_ hdb)
  refine PySem.W.callWith_KW0 (h₀ := X.base) I.ok.mod.kin hk hall (thn (hkw.run pos pins s σ H _ I h) ?_) hpl
  rintro ws s2 ⟨zs, H2, I2, rz, q2⟩
  refine ⟨I2.kIn, ?_⟩
  rw [hks]
  exact run_fnkS (us := []) (vs := []) (E := fun _ => E0) F hr hb (fun pins H s e s' I h => passL pins σ H s e s' I h) I2 .nil rz q2
end Tr
namespace Tr
open PySem PySem.Spec PyProof.Rows L2 Vk RZ
/-! ### f'..' -/
def tJ (ts : List TE) : TE := fun σ H Q => tJs ts Str.empty σ H fun out H1 => Q (.str out) H1
theorem pe_joinedK {X : Cx} {v1 v2 : Expr} {rest : List Expr} {ts : List TE} {pos : Pos} (h : PJ X (v1 :: v2 :: rest) ts) : PE X (.JoinedStr (v1 :: v2 :: rest) pos) (tJ ts) := pe_joined h
def EvJ (J : Jd) (ts : List TE) (l : List Nat) (ρ : List U) (Φ : List Nat → List U → Prop) : Prop := ∀ O σ G H (Q : Str → Hp → Prop), σ.length = J.n → Env J.K O G H σ ρ →
  (∀ m G' H' ρ', Φ m ρ' → Env J.K O G' H' σ ρ' → Same G G' → Q (tx m) H') → XOk J O G → tJs ts (tx l) σ H Q
section
variable {J : Jd} {ρ ρ1 : List U} {Φ : R → List U → Prop} {Φj : List Nat → List U → Prop} {te : TE} {ts : List TE} {l : List Nat}
theorem ej_nil (q : Φj l ρ) : EvJ J [] l ρ Φj := fun O σ G H Q hn E c xo => c l G H ρ q E fun _ _ z => z
theorem ej_cons (h : EvE J te ρ fun r ρ1 => ∃ s m, r = .sh (.str s) ∧ s = tx m ∧ (l ++ m).length ≤ 100000 ∧ EvJ J ts (l ++ m) ρ1 Φj) : EvJ J (te :: ts) l ρ Φj := by
  intro O σ G H Q hn E c xo
  refine h O σ G H _ hn E ⟨fun v r G1 H1 ρ1 ⟨s, m, e, es, hl, q⟩ E1 r1 g1 => ?_, xo⟩
  subst e es
  cases r1
  refine ⟨tx m, rfl, ?_, ?_⟩
  · rw [tx_app, tx_len, sizeLine_eq]
    omega
  · rw [tx_app]
    exact q O σ G1 H1 Q hn E1 (fun m G' H' ρ' h1 E' g' => c m G' H' ρ' h1 E' (g1.trans g')) (xo.on g1)
theorem ev_joined (h : EvJ J ts [] ρ fun m ρ1 => Φ (.sh (.str (tx m))) ρ1) : EvE J (tJ ts) ρ Φ := fun O σ G H Q hn E c =>
  h O σ G H _ hn E (fun m G' H' ρ' q E' g => c.v _ _ G' H' ρ' q E' (show Rep J.K G' _ _ from .str _) g) c.x
theorem log_lt {n : Nat} (h : n < 100000000000000000000) : ((n : Int)).natAbs.log2 < 1920 := by
  rw [Int.natAbs_natCast]
  by_cases c : n = 0
  · subst c
    decide
  · exact (Nat.log2_lt c).mpr (Nat.lt_of_lt_of_le h (by decide +kernel))
theorem num_tx (n : Nat) : (Str.ofString (toString ((n : Nat) : Int))) = tx (TL.numL n) := TL.ext_tl (TL.tl_num n)
/-- {x}: a text, or a number -/
theorem ev_fmt (h : EvE J te ρ fun r ρ1 => (∃ s, r = .sh (.str s) ∧ s.length ≤ 100000 ∧ Φ (.sh (.str s)) ρ1) ∨ ∃ n : Nat, r = .sh (.int (n : Int)) ∧ n < 100000000000000000000 ∧ Φ (.sh (.str (tx (TL.numL n)))) ρ1) : EvE J (tFmt te) ρ Φ := by
  intro O σ G H Q hn E c
  refine h O σ G H _ hn E ⟨fun v r G1 H1 ρ1 q E1 r1 g1 => ?_, c.x⟩
  rcases q with ⟨s, e, hl, q⟩ | ⟨n, e, hl, q⟩
  · subst e
    cases r1
    exact .inl ⟨s, rfl, by rw [sizeLine_eq]; omega, (c.on g1).here E1 q (.str _)⟩
  · subst e
    cases r1
    refine .inr ⟨n, rfl, log_lt hl, ?_⟩
    have := (c.on g1).here (v := .str (tx (TL.numL n))) E1 q (.str _)
    rw [← num_tx] at this
    exact this
end
/-! ### str(n), int(s), s.split(t) -/
def rStrI : List V → Hp → VK → Prop := fun xs H Q => ∃ i : Int, xs = [.int i] ∧ i.natAbs.log2 < 1920 ∧ Q (.str (toString i)) H
theorem call_strI {X : Cx} : CallR X (.type "str") rStrI := call_str_int
def rIntT : List V → Hp → VK → Prop := fun xs H Q => ∃ a n, xs = [.str a] ∧ PySem.intText? a = some n ∧ a.length ≤ 640 ∧ Q (.int n) H
theorem call_intT {X : Cx} : CallR X (.type "int") rIntT := call_int_str
def rSplit : V → List V → Hp → VK → Prop := fun x xs H Q => ∃ a b, x = .str a ∧ xs = [.str b] ∧ (b.length == 0) = false ∧ a.length + 2 ≤ sizeLine ∧ rNewStrs (Txt.split a b) H Q
theorem pe_splitK {X : Cx} {o e : Expr} {to te : TE} {apos pos : Pos} (ho : PE X o to) (he : PE X e te) (hs : starEach [e] X.env = [(false, eval e X.env)] := by rfl) (hbase : attributeBase o "split" X.env (eval o X.env) = eval o X.env := by rfl) (hline : (apos.endLine == pos.line) = true := by rfl) :
    PE X (.Call (.Attribute o "split" apos) [e] [] pos) (tM1 rSplit to te) := pe_split ho he hs hbase hline
/-- a text cut at a sign -/
def splL (c : Nat) (l : List Nat) : List (List Nat) := TL.spl [c] 0 [] l
theorem splL_eq {c : Nat} (hc : c < 256) (l : List Nat) : Txt.split (tx l) (tx [c]) = (splL c l).map tx := by
  apply TL.map_tl_inj
  rw [TL.split_spl (tx l) (tx [c]) (by rw [tl_tx]; simp) (TL.kind_ok (by show [c].toArray.all (· < 256) = true; simp [hc]))]
  show TL.spl [c] 0 [] l = _
  rw [List.map_map]
  exact ((List.map_congr_left fun x _ => rfl).trans (List.map_id _)).symm
section
variable {J : Jd} {ρ ρ1 : List U} {Φ : R → List U → Prop} {to te : TE} {s : Str} {l : List Nat} {n : Nat} {z : Int}
theorem rl_strN (hn : n < 100000000000000000000) (q : Φ (.sh (.str (tx (TL.numL n)))) ρ) : RdL J rStrI [.sh (.int (n : Int))] ρ Φ := by
  intro O σ G H Q vs hl E hv c
  cases hv with
  | cons h h0 =>
    cases h0
    cases h
    refine ⟨n, rfl, log_lt hn, ?_⟩
    have := c.here (v := .str (tx (TL.numL n))) E q (.str _)
    rw [← num_tx] at this
    exact this
theorem rl_intT (hi : PySem.intText? s = some z) (hs : s.length ≤ 640) (q : Φ (.sh (.int z)) ρ) : RdL J rIntT [.sh (.str s)] ρ Φ := by
  intro O σ G H Q vs hl E hv c
  cases hv with
  | cons h h0 =>
    cases h0
    cases h
    exact ⟨s, z, rfl, hi, hs, c.here E q (.int _)⟩
theorem ev_split (h : EvE J to ρ fun r ρ1 => ∃ s l, r = .sh (.str s) ∧ s = tx l ∧ l.length ≤ 100000 ∧ EvE J te ρ1 fun q ρ2 => ∃ b c, q = .sh (.str b) ∧ b = tx [c] ∧ c < 256 ∧ Φ (.sh (.lst (txs (splL c l)))) ρ2) : EvE J (tM1 rSplit to te) ρ Φ := by
  intro O σ G H Q hn E c
  refine h O σ G H _ hn E ⟨fun v r G1 H1 ρ1 ⟨s, l, e, es, hl, h1⟩ E1 r1 g1 => ?_, c.x⟩
  subst e es
  cases r1
  refine ⟨⟨_, rfl⟩, h1 O σ G1 H1 _ hn E1 ⟨fun w q G2 H2 ρ2 ⟨b, d, e2, e3, hd, k⟩ E2 r2 g2 => ?_, c.x.on g1⟩⟩
  subst e2 e3
  cases r2
  refine ⟨tx l, tx [d], rfl, rfl, rfl, by rw [tx_len, sizeLine_eq]; omega, fun p np => ?_⟩
  rw [splL_eq hd]
  have rl : ∀ {ws : List (List Nat)}, RepL J.K G2 ((ws.map tx).map V.str) (txs ws) := fun {ws} => by
    induction ws with
    | nil => exact .nil
    | cons w ws ih => exact .cons (.str _) ih
  exact ((c.on g1).on g2).lst E2 np rl k
end
/-! ### enumerate(xs, start = k), xs a list that stays -/
def ItEk (K : PySem.W.Frag) (a : Addr) (xs : List V) (k : Int) : It :=
  ⟨fun i H => SqL K H a xs ∧ i < xs.length, fun i H v H' => ∃ T x, v = .ref T ∧ H T = none ∧ H' = upd H T (.tup [.int (k + (i : Nat)), x]) ∧ xs[i]? = some x, fun i H => SqL K H a xs ∧ xs.length ≤ i⟩
theorem turn_enumK {P : Program} {w : World} {K : PySem.W.Frag} {elts : List Expr} {kk : Nat} {tpos : Pos} (e it a : Addr) (xs : List V) (k : Int) :
    Turn P w K (.Tuple elts kk tpos) (ItEk K a xs k) [e, it] e (fun i h => (∃ old, IsEnum h e it (k + (i : Nat)) old) ∧ h.IsListIter it a i ∧ e ≠ it ∧ i ≤ xs.length) := by
  have two : ∀ {b : Addr}, b ∈ [e, it] → b = e ∨ b = it := fun {b} hb => by simpa using hb
  have look : ∀ {X : Cx} {pins : List (Addr × Obj)} {σ : L2.St} {H : Hp} {s : Shared}, Inv X pins σ H s → X.K = K → SqL K H a xs → ∃ its, Vals xs its ∧ s.heap.IsList a its.toArray := fun {X pins σ H s} I hK hq => by
    subst hK
    obtain ⟨its, rv, p, _⟩ := I.list hq
    exact ⟨its, rv, p.isList⟩
  constructor
  · simp
  · rintro i h ⟨⟨old, he⟩, ⟨o, ho, hc, hd⟩, _, _⟩ b hb
    rcases two hb with z | z
    · rw [z]; exact ⟨_, he, fun v q => nomatch q⟩
    · rw [z]; exact ⟨o, ho, fun v q => by rw [hd] at q; cases q⟩
  · rintro i h h' ⟨⟨old, he⟩, hi, hne, hle⟩ k
    exact ⟨⟨old, k e (by simp) _ he⟩, hi.at fun o q => k it (by simp) o q, hne, hle⟩
  · intro X hP hw hK hc i pins s σ H E I hf st hg
    obtain ⟨hq, hlt⟩ := hg
    obtain ⟨its, rv, pl⟩ := look I hK hq
    subst hP hw hK
    obtain ⟨⟨old, he⟩, hit, hne, hle⟩ := st
    have hel : e < s.heap.objs.size := Heap.lt_size he
    have hil : it < s.heap.objs.size := by obtain ⟨_, q, _⟩ := hit; exact Heap.lt_size q
    have ty : ∀ {b : Addr} {o1 o2 : Obj} {T1 T2 : String}, s.heap.get? b = some o1 → s.heap.get? b = some o2 → o1.cls = .type T1 → o2.cls = .type T2 → T1 = T2 := fun h1 h2 c1 c2 => by
      rw [h1] at h2
      cases h2
      rw [c1] at c2
      injection c2
    have nai : a ≠ it := by
      rintro rfl
      obtain ⟨o1, h1, c1, _⟩ := id pl
      obtain ⟨o2, h2, c2, _⟩ := id hit
      exact absurd (ty h1 h2 c1 c2) (by decide)
    have nae : e ≠ a := by
      rintro rfl
      obtain ⟨o1, h1, c1, _⟩ := id pl
      exact absurd (ty h1 he c1 rfl) (by decide)
    have lt : i < its.toArray.size := by rw [List.size_toArray, ← rv.length]; exact hlt
    apply wpAny_pyNext_enum_itemC (Draws.list (A := X.A.in1) (show X.A.in1.handled = none from I.ok.hd hc) it a nai its.toArray) he ⟨hit, pl⟩ lt hne (by simp [hne, nae])
    intro u h' tk hPx ho st' hT hsz hk
    obtain ⟨x, hx⟩ := get_of_lt hlt
    obtain ⟨u2, hu, ru⟩ := rv.get hx
    have eu : u = u2 := by
      have hPx : its.toArray[i]? = some u := hPx
      rw [List.getElem?_toArray, hu] at hPx
      exact (Option.some.inj hPx).symm
    subst eu
    refine ⟨_, rfl, wpAny_letOwnedTupleGo_enum (s := { s with heap := h', toks := tk + 1 }) ho fun h'' he' sb => ?_⟩
    have hT2 : h''.get? s.heap.objs.size = some { cls := .type "tuple", data := .seq #[.int (k + (i : Nat)) tk, u] } := (sb.2 _ (Nat.ne_of_gt hel)).trans hT
    have I1 : Inv X pins σ (upd H s.heap.objs.size (.tup [.int (k + (i : Nat)), x])) { s with heap := h'', toks := tk + 1 } :=
      I.turnedNew (ch := [e, it]) (fun b ob hb q => (sb.2 b (fun z => hb (by simp [z]))).trans (hk b ob (fun z => hb (by simp [z])) (fun z => hb (by simp [z])) q)) hf (Nat.le_refl _)
        ⟨by show 2 ≤ sizeLine; decide, [.int (k + (i : Nat)) tk, u], .cons ⟨_, rfl⟩ (.cons ru .nil), ⟨_, hT2, rfl, _, rfl⟩⟩
    refine ⟨.ref s.heap.objs.size, _, I1, rfl, ⟨_, x, rfl, I.hok.fresh (Nat.le_refl _), rfl, hx⟩, ⟨⟨u, ?_⟩, st'.1.at fun o q => (sb.2 it (Ne.symm hne)).trans q, hne, hlt⟩, fun b hb => ?_⟩
    · rw [show k + ((i + 1 : Nat) : Int) = k + (i : Nat) + 1 by omega]
      exact he'
    · have hb' : b < s.heap.objs.size := by
        rcases two hb with z | z
        · rw [z]; exact hel
        · rw [z]; exact hil
      rw [upd_ne (Nat.ne_of_lt hb')]
      exact (hf b hb).1
  · intro X hP hw hK hc i pins s σ H E I hf st hg
    obtain ⟨hq, hge⟩ := hg
    obtain ⟨its, rv, pl⟩ := look I hK hq
    subst hP hw hK
    obtain ⟨⟨old, he⟩, hit, hne, hle⟩ := st
    obtain ⟨f0, f1, f2, f3, f4, f5⟩ := hf it (by simp)
    have nai : a ≠ it := by
      rintro rfl
      obtain ⟨o1, h1, c1, _⟩ := id pl
      obtain ⟨o2, h2, c2, _⟩ := id hit
      rw [h1] at h2
      cases h2
      rw [c1] at c2
      injection c2 with c2
      exact absurd c2 (by decide)
    have hi : i = its.toArray.size := by rw [List.size_toArray, ← rv.length]; exact Nat.le_antisymm hle hge
    subst hi
    exact wpAny_pyNext_enum_endD (Draws.list (A := X.A.in1) (show X.A.in1.handled = none from I.ok.hd hc) it a nai its.toArray) he ⟨hit, pl⟩ fun h' eb => ⟨rfl, I.turned (t' := s.toks) (fun b o hb q => eb b o hb q) f0 f1 f3 f4 f5⟩
  · rintro A i s Q E ⟨⟨_, he⟩, _, _, _⟩ h
    exact wpAny_pyIter_enum he h
section
variable {M : Model} {A : Around} {E : Value → Shared → Prop} {s : Shared}
theorem callWith_typeKw {pos : Pos} {T : String} {args : List (Bool × Sem Value)} {kws : List (Option Str × Sem Value)} {Q : Value → Shared → Prop} (h1 : args.any (·.1) = false) (h2 : kws.any (·.1.isNone) = false)
    (h : wpAny M A (evalArgs (.type T) true args kws) (fun a t => wpAny M A (call (.type T) a.pos a.kw) Q E t) E s) : wpAny M A (callWith pos (.type T) [] args kws) Q E s := by
  unfold callWith
  refine wpAny_bind (wpAny_holding (wpAny_mono h (fun a t ht => wpAny_bind (wpAny_standAt ?_)) fun _ _ z => z))
  simp only [h1, h2, Bool.or_false]
  apply wpAny_bind
  apply wpAny_pure
  exact wpAny_bind (wpAny_mono ht (fun r u hr => wpAny_bind (wpAny_holding (wpAny_point (wpAny_pure hr)))) fun _ _ z => z)
end
/-- enumerate(xs, start = k) -/
def iEnumK (K : PySem.W.Frag) (ta tk : TA) : TI := fun σ H R => ta σ H fun vs H1 => tk σ H1 fun zs H2 => ∃ a xs k, vs = [.ref a] ∧ zs = [.int k] ∧ SqL K H2 a xs ∧ -(2 ^ 62) ≤ k ∧ k < 2 ^ 62 ∧ R (ItEk K a xs k) H2
theorem pi_enumKw {X : Cx} {K : PySem.W.Frag} {e : Expr} {ta tk : TA} {p pos tpos : Pos} {elts : List Expr} {kk : Nat} {kws : List Keyword} (hg : Gl X "enumerate") (hm : X.mg "enumerate" = none) (ha : L2.PA X [e] ta) (hkw : L2.PK X kws tk)
    (hall : (backToKw pos (keywordEach kws X.env)).all (·.1.isSome) = true := by rfl) (hks : (backToKw pos (keywordEach kws X.env)).filterMap (·.1) = [Str.ofString "start"] := by rfl)
    (hs : starEach [e] X.env = (false, eval e X.env) :: starEach [] X.env := by rfl) (h1 : (backTo pos (starEach [e] X.env)).any (·.1) = false := by rfl) (h2 : (backToKw pos (keywordEach kws X.env)).any (·.1.isNone) = false := by rfl) (hk : X.K = K := by rfl) :
    PI X (.Tuple elts kk tpos) (.Call (.Name "enumerate" p) [e] kws pos) (iEnumK K ta tk) := by
  subst hk
  constructor
  intro pins s σ H R I h
  refine wpAny_Call_Name_kw (ld_blt I hg hm boot_enumerate ?_)
  refine callWith_typeKw h1 h2 (PyProof.Rows.evalArgs_kw2 hall (thn (ha.run pos pins s σ H _ I h) ?_) hs)
  rintro us s1 ⟨vs, H1, I1, r1, q1⟩
  refine thn (hkw.run pos pins s1 σ H1 _ I1 q1) ?_
  rintro ws s2 ⟨zs, H2, I2, r2, a, xs, k, rfl, rfl, hq, k0, k1, q⟩
  rw [hks]
  cases r1 with
  | cons ra rr =>
    cases rr
    cases ra
    cases r2 with
    | cons rk rr =>
      cases rr
      obtain ⟨t, rfl⟩ := rk
      obtain ⟨its, rv, p', hz⟩ := I2.list hq
      refine enum_begins_start (begins_list a its.toArray) p'.isList (by omega) (by omega) fun h' he hit hsz hk => wpAny_pyIter_enum he ?_
      have st : h'.IsListIter s2.heap.objs.size a 0 := ⟨_, hit, rfl, rfl⟩
      refine ⟨s2.heap.objs.size + 1, [s2.heap.objs.size + 1, s2.heap.objs.size], _, _, H2, rfl, I2.kept (t' := s2.toks) hk, turn_enumK (s2.heap.objs.size + 1) s2.heap.objs.size a xs k, ⟨⟨.none, ?_⟩, st, Nat.succ_ne_self _, Nat.zero_le _⟩, fun b hb => ?_, q⟩
      · rw [show k + ((0 : Nat) : Int) = k by omega]
        exact he
      · have le : s2.heap.objs.size ≤ b := by
          rcases (by simpa using hb : b = s2.heap.objs.size + 1 ∨ b = s2.heap.objs.size) with z | z
          · rw [z]; exact Nat.le_succ _
          · rw [z]; exact Nat.le_refl _
        exact I2.fpOk le (I2.hok.fresh le)
def numsF (k : Int) (ts : List T) : List T := (List.range ts.length).map fun i : Nat => T.tup [.int (k + (i : Int)), ts.getD i .non]
theorem numsF_len (k : Int) (ts : List T) : (numsF k ts).length = ts.length := by simp [numsF]
theorem numsF_get {k : Int} {ts : List T} {i : Nat} {u : T} (h : (numsF k ts)[i]? = some u) : ∃ t, ts[i]? = some t ∧ u = .tup [.int (k + (i : Int)), t] := by
  obtain ⟨j, hj, rfl⟩ := get_map h
  have hl := lt_of_get hj
  rw [List.length_range] at hl
  rw [List.getElem?_range hl] at hj
  cases hj
  obtain ⟨t, ht⟩ := get_of_lt hl
  exact ⟨t, ht, by rw [List.getD_eq_getElem?_getD, ht]; rfl⟩
/-- pairs of two rows -/
def zipTs (ts us : List T) : List T := (List.range (min ts.length us.length)).map fun i : Nat => T.tup [ts.getD i .non, us.getD i .non]
theorem zipTs_len (ts us : List T) : (zipTs ts us).length = min ts.length us.length := by simp [zipTs]
theorem zipTs_get {ts us : List T} {i : Nat} {v : T} (h : (zipTs ts us)[i]? = some v) : ∃ t u, ts[i]? = some t ∧ us[i]? = some u ∧ v = .tup [t, u] := by
  obtain ⟨j, hj, rfl⟩ := get_map h
  have hl := lt_of_get hj
  rw [List.length_range] at hl
  rw [List.getElem?_range hl] at hj
  cases hj
  obtain ⟨t, ht⟩ := get_of_lt (xs := ts) (i := i) (by omega)
  obtain ⟨u, hu⟩ := get_of_lt (xs := us) (i := i) (by omega)
  exact ⟨t, u, ht, hu, by rw [List.getD_eq_getElem?_getD, List.getD_eq_getElem?_getD, ht, hu]; rfl⟩
section
variable {K : PySem.W.Frag} {J : Jd} {ρ ρ1 : List U} {Φ' : List T → List U → Prop} {ta tk : TA} {ts us : List T}
theorem walk_enumK {a : Addr} {xs : List V} {k : Int} : Walk (ItEk K a xs k) xs.length (fun H => SqL K H a xs) (YPair (fun i => some (.int (k + (i : Nat)))) (fun i => xs[i]?)) := by
  refine ⟨fun i _ hi q => ⟨q, hi⟩, fun _ q => ⟨q, Nat.le_refl _⟩, fun i H v H' _ q y => ?_⟩
  obtain ⟨T, x, h1, h2, h3, h4⟩ := y
  exact ⟨T, .int (k + (i : Nat)), x, h1, h2, h3, rfl, h4⟩
theorem WalkT.numsF {G : Hp} {I : It} {vs : List V} {k : Int} (r : RepL K G vs ts) (w : Walk I vs.length (fun H => Same G H) (YPair (fun i => some (.int (k + (i : Nat)))) fun i => vs[i]?)) : WalkT K G I (numsF k ts) := by
  have w2 : Walk I (Tr.numsF k ts).length (fun H => Same G H) (YPair (fun i => some (.int (k + (i : Nat)))) fun i => vs[i]?) := by rw [numsF_len, ← r.len]; exact w
  refine ⟨⟨_, w2, fun i G1 H x H' u g1 g2 y e => .inr ?_⟩⟩
  obtain ⟨p, n, v, h1, h2, h3, h4, h5⟩ := y
  cases h4
  obtain ⟨t, ht, rfl⟩ := numsF_get e
  obtain ⟨t', ht', r'⟩ := r.getV h5
  rw [ht] at ht'
  cases ht'
  exact ⟨p, _, _, h2, h3, h1, rfl, .cons (.int _) (.cons (r'.mono g1) .nil)⟩
theorem ei_enumK (h : EvA J ta ρ fun rs ρ1 => EvA J tk ρ1 fun qs ρ2 => ∃ ts k, rs = [.sh (.lst ts)] ∧ qs = [.sh (.int k)] ∧ -(2 ^ 62) ≤ k ∧ k < 2 ^ 62 ∧ Φ' (numsF k ts) ρ2) : EvI J (iEnumK J.K ta tk) ρ Φ' := by
  intro O σ G H R hn E c xo
  refine h O σ G H _ hn E ⟨fun vs rs G1 H1 ρ1 h1 E1 r1 g1 => ?_, xo⟩
  refine h1 O σ G1 H1 _ hn E1 ⟨fun zs qs G2 H2 ρ2 ⟨ts, k, e1, e2, k0, k1, q⟩ E2 r2 g2 => ?_, xo.on g1⟩
  subst e1 e2
  cases r1 with
  | cons ra rr =>
    cases rr
    cases r2 with
    | cons rk rr =>
      cases rr
      cases rk
      cases ra with
      | lst hs rl =>
        have rl2 := rl.mono g2
        exact ⟨_, _, k, rfl, rfl, SqL.of (E2.same _ _ (g2 _ _ hs)), k0, k1, c _ _ G2 H2 ρ2 q E2 (g1.trans g2) (.numsF rl2 (walk_enumK.mono (fun H s => SqL.of (s _ _ (g2 _ _ hs))) fun _ _ _ _ _ _ y => y))⟩
theorem WalkT.zips {G : Hp} {I : It} {vs ws : List V} (r : RepL K G vs ts) (r' : RepL K G ws us) (w : Walk I (min vs.length ws.length) (fun H => Same G H) (YPair (fun i => vs[i]?) fun i => ws[i]?)) : WalkT K G I (zipTs ts us) := by
  have w2 : Walk I (zipTs ts us).length (fun H => Same G H) (YPair (fun i => vs[i]?) fun i => ws[i]?) := by rw [zipTs_len, ← r.len, ← r'.len]; exact w
  refine ⟨⟨_, w2, fun i G1 H x H' u g1 g2 y e => .inr ?_⟩⟩
  obtain ⟨p, n, v, h1, h2, h3, h4, h5⟩ := y
  obtain ⟨t, u, ht, hu, rfl⟩ := zipTs_get e
  obtain ⟨t', ht', q1⟩ := r.getV h4
  rw [ht] at ht'
  cases ht'
  obtain ⟨u', hu', q2⟩ := r'.getV h5
  rw [hu] at hu'
  cases hu'
  exact ⟨p, _, _, h2, h3, h1, rfl, .cons (q1.mono g1) (.cons (q2.mono g1) .nil)⟩
end
theorem walk_zipT {K : PySem.W.Frag} {a b : Addr} {xs ys : List V} : Walk (ItzT K a b) (min xs.length ys.length) (fun H => SqT K H a xs ∧ SqT K H b ys) (YPair (fun i => xs[i]?) (fun i => ys[i]?)) := by
  constructor
  · intro i H hi q
    obtain ⟨x, hx⟩ := get_of_lt (xs := xs) (i := i) (by omega)
    obtain ⟨y, hy⟩ := get_of_lt (xs := ys) (i := i) (by omega)
    exact ⟨xs, ys, x, y, q.1, q.2, hx, hy⟩
  · intro H q
    exact ⟨xs, ys, q.1, q.2, by omega⟩
  · intro i H v H' _ q y
    obtain ⟨T, x, z, h1, h2, h3, h4, h5⟩ := y
    exact ⟨T, x, z, h1, h2, h3, h4 xs q.1, h5 ys q.2⟩
theorem ei_zipT {J : Jd} {ρ : List U} {Φ' : List T → List U → Prop} {ta : TA} (h : EvA J ta ρ fun rs ρ1 => ∃ ts us, rs = [.sh (.tup ts), .sh (.tup us)] ∧ Φ' (zipTs ts us) ρ1) : EvI J (iZipA J.K ta) ρ Φ' := by
  intro O σ G H R hn E c xo
  refine h O σ G H _ hn E ⟨fun vs rs G1 H1 ρ1 ⟨ts, us, e, q⟩ E1 r1 g1 => ?_, xo⟩
  subst e
  cases r1 with
  | cons ra rr =>
    cases rr with
    | cons rb rr =>
      cases rr
      cases ra with
      | tup h1 l1 =>
        cases rb with
        | tup h2 l2 =>
          exact ⟨_, _, _, _, rfl, .inr ⟨Vk.Same.tup E1.same h1, Vk.Same.tup E1.same h2, c _ _ G1 H1 ρ1 q E1 g1 (.zips l1 l2 (walk_zipT.mono (fun H s => ⟨Vk.Same.tup s h1, Vk.Same.tup s h2⟩) fun _ _ _ _ _ _ y => y))⟩⟩
theorem pi_zipAK {X : Cx} {K : PySem.W.Frag} {e e2 : Expr} {ta : TA} {p pos tpos : Pos} {elts : List Expr} {kk : Nat} (hg : Gl X "zip") (hm : X.mg "zip" = none) (ha : L2.PA X [e, e2] ta)
    (hs : starEach [e, e2] X.env = (false, eval e X.env) :: starEach [e2] X.env := by rfl) (hpl : (backTo pos (starEach [e2] X.env)).any (·.1) = false := by rfl) (hk : X.K = K := by rfl) :
    PI X (.Tuple elts kk tpos) (.Call (.Name "zip" p) [e, e2] [] pos) (iZipA K ta) := hk ▸ pi_zipA hg hm ha hs hpl
end Tr
namespace Tr
open PySem PySem.Spec PyProof.Rows L2 Vk RZ
theorem numL_le : ∀ (n : Nat), (TL.numL n).length ≤ n + 1 := by
  intro n
  induction n using Nat.strongRecOn with
  | ind n ih =>
    by_cases c : n < 10
    · rw [TL.numL_lt c]
      exact Nat.succ_le_succ (Nat.zero_le _)
    · rw [TL.numL_step (by omega), List.length_append]
      have := ih (n / 10) (by omega)
      simp only [List.length_cons, List.length_nil]
      omega
theorem numL2 {n : Nat} (h : n < 100) : (TL.numL n).length ≤ 2 := by
  by_cases c : n < 10
  · rw [TL.numL_lt c]
    exact Nat.succ_le_succ (Nat.zero_le _)
  · rw [TL.numL_step (by omega), TL.numL_lt (by omega)]
    exact Nat.le_refl 2
theorem numL_pos (n : Nat) : 1 ≤ (TL.numL n).length := by
  by_cases c : n < 10
  · rw [TL.numL_lt c]
    exact Nat.le_refl 1
  · rw [TL.numL_step (by omega), List.length_append]
    simp
theorem any_txs {ws : List (List Nat)} {w : List Nat} : ((txs ws).any fun y => T.eq y (.str (tx w))) = decide (w ∈ ws) := by
  rw [Bool.eq_iff_iff, decide_eq_true_iff, List.any_eq_true]
  constructor
  · rintro ⟨t, ht, e⟩
    obtain ⟨v, hv, rfl⟩ := List.mem_map.mp ht
    have e : T.eq (.str (tx v)) (.str (tx w)) = true := e
    have : tx v = tx w := by unfold T.eq at e; simpa [T.pd, PyData.eqv] using e
    rw [← tx_inj.mp this]
    exact hv
  · intro hw
    exact ⟨_, List.mem_map.mpr ⟨w, hw, rfl⟩, by unfold T.eq; simp [T.pd, PyData.eqv]⟩
theorem joinL_len {c m : Nat} : ∀ {ws : List (List Nat)}, (∀ w ∈ ws, w.length ≤ m) → (TL.joinL [c] ws).length ≤ ws.length * (m + 1)
  | [], _ => by simp [TL.joinL]
  | [w], h => by
    have := h w (by simp)
    simp only [TL.joinL, List.length_cons, List.length_nil]
    omega
  | w :: v :: ws, h => by
    have h1 := h w (by simp)
    have h2 := joinL_len (c := c) (ws := v :: ws) (fun x hx => h x (List.mem_cons_of_mem _ hx))
    show (w ++ ([c] ++ TL.joinL [c] (v :: ws))).length ≤ _
    rw [List.length_append, List.length_append]
    simp only [List.length_cons, List.length_nil] at h2 ⊢
    have : (ws.length + 1 + 1) * (m + 1) = (ws.length + 1) * (m + 1) + (m + 1) := by rw [Nat.add_mul (ws.length + 1) 1]; omega
    omega
theorem sum_le {m : Nat} : ∀ {ws : List (List Nat)}, (∀ w ∈ ws, w.length ≤ m) → (ws.map (·.length)).sum ≤ ws.length * m
  | [], _ => by simp
  | w :: ws, h => by
    have h1 := h w (by simp)
    have h2 := sum_le (ws := ws) (fun x hx => h x (List.mem_cons_of_mem _ hx))
    simp only [List.map_cons, List.sum_cons, List.length_cons]
    rw [Nat.add_mul]
    omega
/-- the parts of a cut text are no longer than the text -/
theorem spl1_sum {c : Nat} : ∀ (l acc : List Nat), ((TL.spl [c] 0 acc l).map (·.length)).sum + (TL.spl [c] 0 acc l).length = acc.length + l.length + 1
  | [], acc => by rw [TL.spl_nil]; simp
  | d :: l, acc => by
    by_cases h : TL.pre [c] (d :: l) = true
    · rw [TL.spl_hit h]
      have := spl1_sum (c := c) l []
      show ((acc :: TL.spl [c] 0 [] l).map (·.length)).sum + (acc :: TL.spl [c] 0 [] l).length = _
      simp only [List.map_cons, List.sum_cons, List.length_cons, List.length_nil] at this ⊢
      omega
    · rw [TL.spl_miss (by simpa using h)]
      have := spl1_sum (c := c) l (acc ++ [d])
      simp only [List.length_append, List.length_cons, List.length_nil] at this ⊢
      omega
theorem splL_sum {c : Nat} (l : List Nat) : ((splL c l).map (·.length)).sum + (splL c l).length = l.length + 1 := by
  have := spl1_sum (c := c) l []
  rw [List.length_nil, Nat.zero_add] at this
  exact this
theorem mem_sum {ws : List (List Nat)} {w : List Nat} (h : w ∈ ws) : w.length ≤ (ws.map (·.length)).sum := by
  induction ws with
  | nil => cases h
  | cons v ws ih =>
    simp only [List.map_cons, List.sum_cons]
    rcases List.mem_cons.mp h with e | h
    · subst e; omega
    · have := ih h; omega
theorem splL_mem {c : Nat} {l w : List Nat} (h : w ∈ splL c l) : w.length ≤ l.length := by
  have h1 := splL_sum (c := c) l
  have h2 := mem_sum h
  have h3 : 1 ≤ (splL c l).length := List.length_pos_of_mem h
  omega
theorem splL_ne {c : Nat} {l : List Nat} : splL c l ≠ [] := fun z => by
  have h1 := splL_sum (c := c) l
  rw [z] at h1
  simp at h1
theorem splL_len {c : Nat} (l : List Nat) : (splL c l).length ≤ l.length + 1 := by
  have h1 := splL_sum (c := c) l
  omega
theorem splL_join {c : Nat} {ws : List (List Nat)} (h1 : ws ≠ []) (h : ∀ w ∈ ws, c ∉ w) : splL c (TL.joinL [c] ws) = ws := TL.spl_join h1 h
section
variable {J : Jd} {ρ ρ1 : List U} {Φ : R → List U → Prop} {to te : TE} {i : Nat} {a : Addr} {ws : List (List Nat)} {w : List Nat}
theorem ev_joinTx (h : EvE J to ρ fun r ρ1 => ∃ s S, r = .sh (.str s) ∧ s = tx S ∧ EvE J te ρ1 fun q ρ2 => ∃ ts ws, (q = .sh (.lst ts) ∨ ∃ i a, q = .mr i a ∧ ρ2[i]? = some (.mu a (.lst ts))) ∧ ts = txs ws ∧ (ws.map (·.length)).sum + ws.length * S.length ≤ 10000000 ∧ Φ (.sh (.str (tx (TL.joinL S ws)))) ρ2) : EvE J (tM1 (rJoin J.K) to te) ρ Φ := by
  intro O σ G H Q hn E c
  refine h O σ G H _ hn E ⟨fun v r G1 H1 ρ1 ⟨s, S, e, es, h1⟩ E1 r1 g1 => ?_, c.x⟩
  subst e es
  cases r1
  refine ⟨⟨_, rfl⟩, h1 O σ G1 H1 _ hn E1 ⟨fun w q G2 H2 ρ2 ⟨ts, ws, e2, e3, hl, k⟩ E2 r2 g2 => ?_, c.x.on g1⟩⟩
  subst e3
  have hl2 : ((ws.map tx).map (·.length)).sum + (ws.map tx).length * (tx S).length ≤ 16777216 := by
    rw [List.map_map, List.length_map, tx_len]
    have : ((ws.map ((·.length) ∘ tx))).sum = (ws.map (·.length)).sum := congrArg _ (List.map_congr_left fun x _ => tx_len x)
    rw [this]
    omega
  have fin : ∀ {a : Addr} {vs : List V}, SqL J.K H2 a vs → RepL J.K G2 vs (txs ws) → w = .ref a → rJoin J.K (.str (tx S)) [w] H2 fun r H' => Q r H' := fun {a vs} hs rl ew => by
    subst ew
    have e : vs = (ws.map tx).map V.str := RepL.strs (ns := ws.map tx) (by rw [List.map_map]; exact rl)
    rw [e] at hs
    refine ⟨tx S, _, ws.map tx, rfl, rfl, .inl hs, hl2, ?_⟩
    rw [tx_join]
    exact ((c.on g1).on g2).here E2 k (.str _)
  rcases e2 with e2 | ⟨i, a, e2, hi⟩
  · subst e2
    cases r2 with
    | lst h rl => exact fin (SqL.of (E2.same _ _ h)) rl rfl
  · subst e2
    cases r2
    obtain ⟨_, vs, e1, rx⟩ := E2.ob i _ hi
    exact fin (SqL.of e1) rx rfl
theorem pl_txs {k : Nat} : ∀ t ∈ txs ws, Pl (k + 1) t := fun t h => by
  obtain ⟨w, _, rfl⟩ := List.mem_map.mp h
  exact pl_str
theorem rd_inTx {s : Str} (hs : s = tx w) (q : Φ (.sh (.bl (decide (w ∈ ws)))) ρ) : Rd2 J (rInP J.K) (.sh (.str s)) (.sh (.lst (txs ws))) ρ Φ := by
  subst hs
  exact rd_inP rfl pl_str pl_txs (by rw [any_txs]; exact q)
theorem rd_notInTx {s : Str} (hs : s = tx w) (q : Φ (.sh (.bl (!decide (w ∈ ws)))) ρ) : Rd2 J (rNotInP J.K) (.sh (.str s)) (.sh (.lst (txs ws))) ρ Φ := by
  subst hs
  exact rd_notInP rfl pl_str pl_txs (by rw [any_txs]; exact q)
theorem rd_notInTxM {us : List T} {s : Str} (hi : ρ[i]? = some (.mu a (.lst us))) (hu : us = txs ws) (hs : s = tx w) (q : Φ (.sh (.bl (!decide (w ∈ ws)))) ρ) : Rd2 J (rNotInP J.K) (.sh (.str s)) (.mr i a) ρ Φ := by
  subst hs hu
  exact rd_notInM hi pl_str pl_txs (by rw [any_txs]; exact q)
theorem idx_first {w : List Nat} : ∀ {ws : List (List Nat)} {m : Nat}, ws[m]? = some w → ws.idxOf w ≤ m
  | [], m, h => by cases h
  | v :: ws, 0, h => by
    cases h
    rw [List.idxOf_cons_self]
    exact Nat.le_refl 0
  | v :: ws, m + 1, h => by
    rw [List.idxOf_cons]
    have := idx_first (ws := ws) (m := m) h
    cases (v == w) <;> simp [cond] <;> omega
theorem idx_txs (hw : w ∈ ws) : (txs ws)[ws.idxOf w]? = some (.str (tx w)) := txs_get (by rw [List.getElem?_eq_getElem (List.idxOf_lt_length_iff.mpr hw), List.getElem_idxOf])
theorem rm_idxS {ts : List T} {s : Str} (ht : ts = txs ws) (hs : s = tx w) (hw : w ∈ ws) (q : Φ (.sh (.int (ws.idxOf w : Nat))) ρ) : RdM J (rIndex J.K) (.sh (.lst ts)) [.sh (.str s)] ρ Φ := by
  intro O σ G H Q v vs hn E hv hvs c
  subst ht hs
  cases hvs with
  | cons h1 h2 =>
    cases h2
    cases h1
    cases hv with
    | lst h rl =>
    rename_i a xs
    have e : xs = (ws.map tx).map V.str := RepL.strs (ns := ws.map tx) (by rw [List.map_map]; exact rl)
    subst e
    refine ⟨a, _, .str (tx w), ws.idxOf w, .str (tx w), rfl, rfl, SqL.of (E.same _ _ h), rfl, ?_, ?_, ?_, ?_, c.here E q (.int _)⟩
    · rw [List.all_eq_true]
      intro x hx
      obtain ⟨y, _, rfl⟩ := List.mem_map.mp hx
      rfl
    · rw [List.getElem?_map, List.getElem?_map, List.getElem?_eq_getElem (List.idxOf_lt_length_iff.mpr hw), List.getElem_idxOf]
      rfl
    · show (tx w == tx w) = true
      simp
    · intro m z' hm hz
      rw [List.getElem?_map, List.getElem?_map] at hz
      cases hz' : ws[m]? with
      | none => rw [hz'] at hz; cases hz
      | some u =>
        rw [hz'] at hz
        cases hz
        show (tx u == tx w) = false
        rw [beq_eq_false_iff_ne]
        intro z
        have z := tx_inj.mp z
        subst z
        exact absurd hm (Nat.not_lt.mpr (idx_first hz'))
theorem rm_idxT {ts : List T} {s : Str} (hi : ρ[i]? = some (.mu a (.lst ts))) (ht : ts = txs ws) (hs : s = tx w) (hw : w ∈ ws) (q : Φ (.sh (.int (ws.idxOf w : Nat))) ρ) : RdM J (rIndex J.K) (.mr i a) [.sh (.str s)] ρ Φ := by
  intro O σ G H Q v vs hn E hv hvs c
  subst ht hs
  cases hv
  cases hvs with
  | cons h1 h2 =>
    cases h2
    cases h1
    obtain ⟨_, xs, e1, rx⟩ := E.ob i _ hi
    have e : xs = (ws.map tx).map V.str := RepL.strs (ns := ws.map tx) (by rw [List.map_map]; exact rx)
    subst e
    refine ⟨a, _, .str (tx w), ws.idxOf w, .str (tx w), rfl, rfl, SqL.of e1, rfl, ?_, ?_, ?_, ?_, c.here E q (.int _)⟩
    · rw [List.all_eq_true]
      intro x hx
      obtain ⟨y, _, rfl⟩ := List.mem_map.mp hx
      rfl
    · rw [List.getElem?_map, List.getElem?_map, List.getElem?_eq_getElem (List.idxOf_lt_length_iff.mpr hw), List.getElem_idxOf]
      rfl
    · show (tx w == tx w) = true
      simp
    · intro m z' hm hz
      rw [List.getElem?_map, List.getElem?_map] at hz
      cases hz' : ws[m]? with
      | none => rw [hz'] at hz; cases hz
      | some u =>
        rw [hz'] at hz
        cases hz
        show (tx u == tx w) = false
        rw [beq_eq_false_iff_ne]
        intro z
        have z := tx_inj.mp z
        subst z
        exact absurd hm (Nat.not_lt.mpr (idx_first hz'))
end
theorem tx_sp : Str.ofString " " = tx [32] := rfl
theorem tx_nl : Str.ofString "\n" = tx [10] := rfl
theorem tx_e : Str.ofString "" = tx [] := rfl
theorem tx_hd : Str.ofString "height " = tx [104, 101, 105, 103, 104, 116, 32] := rfl
theorem tx_01 : Str.ofString "01" = tx [48, 49] := rfl
theorem lcat {l m : List Nat} {n : Nat} (h1 : l.length ≤ n / 2) (h2 : m.length ≤ n / 2) : (l ++ m).length ≤ n := by rw [List.length_append]; omega
end Tr
namespace Tr
open PySem PySem.Spec PyProof.Rows L2 Vk RZ
theorem txs_app (A B : List (List Nat)) : txs (A ++ B) = txs A ++ txs B := List.map_append
theorem cutT_to {ws : List (List Nat)} {k : Nat} : cutT (txs ws) none (some (k : Int)) = txs (ws.take k) := (cutL_to (xs := txs ws)).trans (by unfold txs; rw [List.map_take])
theorem cutT_from {ws : List (List Nat)} {k : Nat} : cutT (txs ws) (some (k : Int)) none = txs (ws.drop k) := (cutL_from (xs := txs ws)).trans (by unfold txs; rw [List.map_drop])
theorem rd_mulTx {J : Jd} {ρ : List U} {Φ : R → List U → Prop} {s : Str} {l : List Nat} {n : Nat} {z : Int} (hs : s = tx l) (hz : z = (n : Int)) (hl : l.length ≤ 1000) (hn : n ≤ 1000) (q : Φ (.sh (.str (tx (List.replicate n l).flatten))) ρ) : Rd2 J rMulT (.sh (.str s)) (.sh (.int z)) ρ Φ := by
  subst hs hz
  exact rd_mulT (by rw [tx_len]; exact hl) hn (by rw [mul_tx]; exact q)
theorem rep_flat {n : Nat} {c : Nat} : (List.replicate n [c]).flatten.length = n := by
  induction n with
  | zero => rfl
  | succ n ih => rw [List.replicate_succ, List.flatten_cons, List.length_append, ih]; simp only [List.length_cons, List.length_nil]; omega
theorem splL_two {c : Nat} {a b : List Nat} (ha : c ∉ a) (hb : c ∉ b) : splL c (a ++ c :: b) = [a, b] :=
  splL_join (c := c) (ws := [a, b]) (by simp) fun w hw => by
    simp only [List.mem_cons, List.not_mem_nil, or_false] at hw
    rcases hw with e | e <;> subst e <;> assumption
theorem all_app {α : Type} {A B : List α} {P : α → Prop} (h1 : ∀ u ∈ A, P u) (h2 : ∀ u ∈ B, P u) : ∀ u ∈ A ++ B, P u := fun u hu => (List.mem_append.mp hu).elim (h1 u) (h2 u)
theorem all_one {α : Type} {a : α} {P : α → Prop} (h : P a) : ∀ u ∈ [a], P u := fun u hu => by rw [List.mem_singleton.mp hu]; exact h
end Tr
set_option maxHeartbeats 2000000
/-! a try whose suite, under a name, raises -/
namespace Tr
open PySem PySem.Spec PyProof.Rows L2 Vk
theorem cxN_cx {P : Program} {w : World} {outer : List PySem.Env} {H : Hp} {s s' : Shared} {E : XK} {u : Value} (h : L2N.CX P w outer H s E u s') : L2.CX P w outer H s E u s' := by
  obtain ⟨a, B, H', cls, d, e, fl, r⟩ := h
  exact ⟨a, B, H', cls, d, e, L2H.flyingZ_imp (fun _ z => z.zc) fl, r⟩
theorem fnN_fn {P : Program} {w : World} {K : PySem.W.Frag} {mg : Str → Option Value} {base : Heap} {k : Nat} {f : Addr} {fd : FuncData} {ps : List Str} {sp : Sp} (F : FnOk P w K mg base (L2N.CX P w) k f fd ps sp) : FnOk P w K mg base (L2.CX P w) k f fd ps sp :=
  ⟨F.len, fun A outer s H args us vs Q E hr e0 hb r hsp => codeAny_mono (F.run A outer s H args us vs Q E hr e0 hb r hsp) fun r s' hq => by
    cases r with
    | error e => exact cxN_cx hq
    | ok fl =>
      cases fl with
      | ret u => exact hq
      | next => exact hq
      | brk => exact hq
      | cont => exact hq⟩
/-- a def that may raise where nothing is handled -/
structure OkRN (P : Program) (w : World) (K : PySem.W.Frag) (mg : Str → Option Value) (base : Heap) (k : Nat) (x : Str) (ps : List Str) (sp : Sp) : Prop where
  ex : ∃ (f : Addr) (fd : FuncData), FnOk P w K mg base (L2N.CX P w) k f fd ps sp ∧ Binds K fd ps [] ∧ PySem.W.keepIn K (.ref f) = true ∧ mg x = some (.ref f)
theorem OkRN.mono {P w K mg base j k x ps sp} (O : OkRN P w K mg base j x ps sp) (h : j ≤ k) : OkRN P w K mg base k x ps sp := by
  obtain ⟨f, fd, F, r⟩ := O.ex
  exact ⟨f, fd, F.mono h, r⟩
theorem OkRN.toR {P w K mg base k x ps sp} (O : OkRN P w K mg base k x ps sp) : OkR P w K mg base k x ps sp := by
  obtain ⟨f, fd, F, r⟩ := O.ex
  exact ⟨f, fd, fnN_fn F, r⟩
theorem Fun.okN {P : Program} {w : World} {K : PySem.W.Frag} {mg : Str → Option Value} {base : Heap} {x qual : Str} {st : Stmt} {f : Addr} {fd : FuncData} {N ps : List Str} {k : Nat} {sp : Sp} (F : L2.Fun K x qual st f fd) (S : FnScope N ps (defScope st)) (len : ∀ vs H Q E, sp vs H Q E → vs.length = ps.length)
    (hbody : ∀ (cdv : Value) (A : Around) (outer : List PySem.Env) (s : Shared) (H : Hp) (vs : List V) (Q : VK) (E : XK), Room k (A.deeper (envOfC qual (defScope st) s.heap.objs.size f cdv)) → sp vs H Q E →
      ∃ t, PSs (cxOf (L2N.CX P w) P w K mg base N qual (defScope st) f cdv A outer s H E) (defBody st) t ∧ t { nx := fun _ H' => Q .non H', rt := Q } (L2.start N vs) H) : FnOk P w K mg base (L2N.CX P w) (k + 1) f fd ps sp := by
  obtain ⟨oc, od, kV, doc, pm, an, cdv, ct, osl, rfl, lk, hcd⟩ := F.ex
  exact fn_of lk hcd S len fun A outer s H vs Q E hr hsp => hbody cdv A outer s H vs Q E hr hsp
section
variable {X : Cx} {k : Nat} {ps : List Str} {sp : Sp} {x : Str} {p pos : Pos} {e : Expr} {es : List Expr} {t : TA}
theorem pe_cRN {W : WX} (O : OkRN X.prog X.w X.K X.mg X.base k x ps sp) (hr : Room k X.A) (tk : L2N.Takes X W) (hg : Gl X x)
    (ha : PA X (e :: es) t) (hdb : (x == ("__debug__" : Str)) = false := by decide) (he : starEach (e :: es) X.env = (false, eval e X.env) :: starEach es X.env := by rfl) (hpl : (backTo pos (starEach es X.env)).any (·.1) = false := by rfl) :
    PE X (.Call (.Name x p) (e :: es) [] pos) (tCallS sp (fun σ cls d H => W cls d σ H) t) := by
  obtain ⟨f, fd, F, b, kp, m⟩ := O.ex
  exact pe_callS F hr hg m kp b (fun σ => L2N.passAt tk σ) ha hdb he hpl
end
/-- an exception made where nothing is handled: its context is None -/
theorem pmk_oexN {X : Cx} {CX : CXT} {x : Str} {e : Expr} {es : List Expr} {ta : TA} {p pos : Pos} {C fI : Addr} {k : Nat} {fd : FuncData} {ps : List Str} {sp : Sp} (T : OexC X.K C) (iC : PySem.W.findIn X.K (.ref C) "__init__" = some (some (.ref fI))) (tI : PySem.W.typeIn X.K (.ref fI) = some (.type "function"))
    (F1 : FnOk X.prog X.w X.K X.mg X.base CX k fI fd ps sp) (hr : Room (k + 1) X.A) (hb : Binds X.K fd ps []) (hx : Passes CX X (fun _ _ _ => False)) (hg : Gl X x) (hm : X.mg x = some (.ref C)) (ha : PA X (e :: es) ta)
    (hdb : (x == ("__debug__" : Str)) = false := by decide) (he : starEach (e :: es) X.env = (false, eval e X.env) :: starEach es X.env := by rfl) (hpl : (backTo pos (starEach es X.env)).any (·.1) = false := by rfl) :
    L2N.PMk X (.Call (.Name x p) (e :: es) [] pos) (tMkO C sp [] ta) := by
  intro pins s σ H Q I h
  obtain ⟨nm, q, N, bs, bm, sn, sub, ab, col, dd, k0, k1, k2, k3, k5, hC, hbm⟩ := T.cls
  refine wpAny_Call_Name_kw (ld_glob I hg hm ?_ hdb)
  refine PySem.W.callWith_K (h₀ := X.base) I.ok.mod.kin T.kC (thn (ha.run pos pins s σ H _ I h) ?_) he hpl
  rintro us s1 ⟨vs, H1, I1, r1, hz, q1⟩
  refine ⟨I1.kIn, ?_⟩
  show wpAny _ _ (call (.ref C) us) _ _ _
  obtain ⟨hp, g, dr, tk, os⟩ := s1
  have hsz : hp.objs.size ≤ hp.objs.size + 1 := Nat.le_succ _
  have hn : H1 (hp.objs.size + 1) = none := I1.hok.fresh hsz
  have hq := q1 (hp.objs.size + 1) hn
  rw [List.append_nil] at hq
  have kk : ∀ b o, hp.get? b = some o → ((hp.push (PySem.W.kdv_tup us)).push (PySem.HandSPX.excO C hp.objs.size)).get? b = some o := fun b o z => Heap.get?_push_of_some _ (Heap.get?_push_of_some _ z)
  have hget : ((hp.push (PySem.W.kdv_tup us)).push (PySem.HandSPX.excO C hp.objs.size)).get? (hp.objs.size + 1) = some (PySem.HandSPX.excO C hp.objs.size) := by heap_get
  have I2 : Inv X pins σ (upd H1 (hp.objs.size + 1) (exo (hp.objs.size + 1) C none)) ⟨(hp.push (PySem.W.kdv_tup us)).push (PySem.HandSPX.excO C hp.objs.size), g, dr, tk, os⟩ :=
    I1.laid (t' := tk) (a := hp.objs.size + 1) (o := exo (hp.objs.size + 1) C none) (h' := (hp.push (PySem.W.kdv_tup us)).push (PySem.HandSPX.excO C hp.objs.size)) kk hsz (exo_ok hget)
  have r2 : Vals (V.ref (hp.objs.size + 1) :: vs) (Value.ref (hp.objs.size + 1) :: us) := .cons rfl r1
  have hl : (Value.ref (hp.objs.size + 1) :: us ++ []).length = ps.length := by
    have z := r2.length
    rw [F1.len _ _ _ _ hq] at z
    rw [List.append_nil]
    exact z.symm
  have hus : us.length ≤ sizeLine := by
    rw [← Paired.length r1, sizeLine_eq]
    omega
  have b2 := hb _ (Value.ref (hp.objs.size + 1) :: us) I2.kIn hl
  rw [List.append_nil] at b2
  refine wpAny_call (PySem.HandSPX.call_own F.excBase_ValueError (fun Y => PySem.HandSPX.refsVE_contains Y bm hbm) (I1.kIn _ _ hC) (PySem.W.looks_findIn I1.kIn iC) (fun self => PySem.W.bind_fn I1.kIn self tI) hus
    (codeAny_mono (F1.run _ X.stack _ _ ⟨Value.ref (hp.objs.size + 1) :: us, []⟩ (Value.ref (hp.objs.size + 1) :: us) _ _ (fun _ _ _ => False) (hr.make C us []) (I2.env0.make C us []) b2 r2 hq) ?_))
  intro r s' hq'
  match r, hq' with
  | .error er, hq' => exact hx pins σ _ _ er s' I2 hq'
  | .ok (.ret u), hq' =>
    obtain ⟨v, H2, os2, bare2, un2, hok2, rv, ev, d, fs, ea, ed, hd1, q2⟩ := hq'
    subst ev
    obtain ⟨h2, g2, d2, t2, os'⟩ := s'
    obtain ⟨t0, G, J, kG, ge, hoe, na⟩ := mk_end0 (d2 := d2) (t2 := t2) I1 hsz kk un2 hok2 os2 bare2 ea ed hd1
    exact ⟨rv, ⟨hp.objs.size + 1, _, _, ⟨G, g2, d2, t2, os'⟩, _, .ref C, some d, rfl, J, kG, ge, hoe, ⟨rfl, rfl, fun vs hv => by cases hv; rfl⟩, rfl, rfl, na, rfl, bare2, raises_own T.exC T.tyC, q2⟩⟩
  | .ok .next, hq' => exact hq'.elim
  | .ok .brk, hq' => exact hq'.elim
  | .ok .cont, hq' => exact hq'.elim
theorem ps_raiseXN {X : Cx} {k : Nat} {C : Addr} {x : Str} {ps ns : List Str} {W : WX} {e : Expr} {es : List Expr} {ta : TA} {p pos pos2 : Pos} (hc : X.calm = true) (tk : L2N.Takes X W) (O : OkX X.prog X.w X.K X.mg X.base k C x ps ns) (hr : Room k X.A) (hg : Gl X x) (ha : PA X (e :: es) ta)
    (hdb : (x == ("__debug__" : Str)) = false := by decide) (he : starEach (e :: es) X.env = (false, eval e X.env) :: starEach es X.env := by rfl) (hpl : (backTo pos (starEach es X.env)).any (·.1) = false := by rfl) :
    PS X (.Raise (some (.Call (.Name x p) (e :: es) [] pos)) none pos2) (tRaiseX C ns W ta) := by
  obtain ⟨j, fI, fd, hj, iC, tI, F1, hb⟩ := O.ex
  exact L2N.ps_raise hc tk (pmk_oexN O.T iC tI F1 (hr.mono hj) hb (fun _ _ _ _ _ _ _ h => h.elim) hg O.m ha hdb he hpl)
/-- the same made while something is handled -/
structure OkXH (P : Program) (w : World) (K : PySem.W.Frag) (mg : Str → Option Value) (base : Heap) (k : Nat) (C : Addr) (x : Str) (ps ns : List Str) : Prop where
  T : OexC K C
  ex : ∃ (j : Nat) (fI : Addr) (fd : FuncData), j + 1 ≤ k ∧ PySem.W.findIn K (.ref C) "__init__" = some (some (.ref fI)) ∧ PySem.W.typeIn K (.ref fI) = some (.type "function") ∧ FnW P w K mg base j fI fd ps (spOI C ns) ∧ Binds K fd ps []
  m : mg x = some (.ref C)
theorem OkXH.mono {P w K mg base j k C x ps ns} (O : OkXH P w K mg base j C x ps ns) (h : j ≤ k) : OkXH P w K mg base k C x ps ns := by
  obtain ⟨i, f, fd, hj, r⟩ := O.ex
  exact ⟨O.T, ⟨i, f, fd, Nat.le_trans hj h, r⟩, O.m⟩
theorem fnW_H {P : Program} {w : World} {K : PySem.W.Frag} {mg : Str → Option Value} {base : Heap} {k : Nat} {f : Addr} {fd : FuncData} {ps : List Str} {sp : Sp} (F : FnW P w K mg base k f fd ps sp) : L2H.FnH P w K mg base CX0 k f fd ps sp :=
  ⟨F.len, fun A outer s H args us vs Q E p hr _ _ e0 hb r hsp => F.go A outer s H args us vs Q E hr e0 hb r hsp⟩
/-- raise C(e, ..) from None, in an except suite -/
theorem ps_raiseXH {X : Cx} {k : Nat} {C : Addr} {x : Str} {ps ns : List Str} {W : WX} {e : Expr} {es : List Expr} {ta : TA} {p pos pos2 cpos : Pos} {j : Nat} (hc : L2H.HotC X) (tk : L2.Takes X W) (O : OkXH X.prog X.w X.K X.mg X.base k C x ps ns) (hr : L2H.RoomH k X.A) (hg : Gl X x) (ha : PA X (e :: es) ta)
    (hdb : (x == ("__debug__" : Str)) = false := by decide) (he : starEach (e :: es) X.env = (false, eval e X.env) :: starEach es X.env := by rfl) (hpl : (backTo pos (starEach es X.env)).any (·.1) = false := by rfl) :
    PS X (.Raise (some (.Call (.Name x p) (e :: es) [] pos)) (some (.Constant .none j cpos)) pos2) (tRaiseX C ns W ta) := by
  obtain ⟨i, fI, fd, hj, iC, tI, F1, hb⟩ := O.ex
  exact L2H.ps_raiseHN hc tk (L2H.pmk5_oexH O.T iC tI (fnW_H F1) (hr.mono hj) hc hb (fun _ _ _ _ _ _ _ h => h.elim) hg O.m ha hdb he hpl)
/-! ### the name goes while the suite's exception is on its way -/
theorem restrictS (h : Heap) (p : Addr → Bool) : ∃ G : Heap, G.objs.size = h.objs.size ∧ (∀ b, p b = true → G.get? b = h.get? b) ∧ ∀ b, p b = false → G.get? b = none := by
  obtain ⟨l, hl⟩ : ∃ l : List Addr, l = (List.range h.objs.size).filter fun b => !p b := ⟨_, rfl⟩
  have m1 : ∀ b, b ∈ l → p b = false := fun b hb => by
    rw [hl] at hb
    have z := (List.mem_filter.mp hb).2
    simpa using z
  have m2 : ∀ b, b < h.objs.size → p b = false → b ∈ l := fun b h1 h2 => by
    rw [hl]
    exact List.mem_filter.mpr ⟨List.mem_range.mpr h1, by simp [h2]⟩
  refine ⟨PySem.W.hideAll h l, PySem.W.hideAll_size l h, fun b hb => ?_, fun b hb => ?_⟩
  · cases e : h.get? b with
    | some o => exact PySem.W.hideAll_get l e fun hm => by rw [m1 b hm] at hb; cases hb
    | none =>
      cases q : (PySem.W.hideAll h l).get? b with
      | none => rfl
      | some o =>
        have z := PySem.W.of_hideAll l q
        rw [e] at z; cases z
  · cases q : (PySem.W.hideAll h l).get? b with
    | none => rfl
    | some o =>
      have z := PySem.W.of_hideAll l q
      rw [PySem.W.hideAll_none l (m2 b (Heap.lt_size z) hb)] at q; cases q
theorem traced_sameBut {h h' base : Heap} {e L : Addr} {Z : Obj → Prop} {fl : Value} {m : Str → Option Value} (x : HandSPX.TracedZ h base e Z fl) (hn : h.Ns L m) (hs : Heap.SameBut L h h') : HandSPX.TracedZ h' base e Z fl := by
  obtain ⟨oe, vs, T, oT, ts, he, hz, hd, h1, hnT, hTe, hT, hdT, h3⟩ := x
  obtain ⟨oL, es, ep, hoL, hdL, _⟩ := hn
  have neE : e ≠ L := fun q => by
    rw [q, hoL] at he
    cases he
    rw [hdL] at hd
    cases hd
  have neT : T ≠ L := fun q => by
    rw [q, hoL] at hT
    cases hT
    rw [hdL] at hdT
    cases hdT
  exact ⟨oe, vs, T, oT, ts, (hs.2 e neE).trans he, hz, hd, h1, hnT, hTe, (hs.2 T neT).trans hT, hdT, h3⟩
section
variable {X : Cx} {pins : List (Addr × Obj)} {σ : L2.St} {H : Hp} {sI s s' : Shared} {B : Heap}
/-- the state without the exception, made of the frames and of the ground -/
theorem grounded {h : Heap} (I : Inv X pins σ H sI) (nb : ∀ b o, sI.heap.get? b = some o → b ∉ frs X.stack → B.get? b = some o) (st : B.StaysIn h) (up : sI.heap.UpToSlots h) {s' : Shared} (os : s'.os = sI.os) (ag : AllBare s'.gens) :
    ∃ G : Heap, (G.objs.size = h.objs.size ∧ ∀ b, ((B.get? b).isSome || decide (b ∈ frs X.stack)) = true → G.get? b = h.get? b) ∧ Inv X pins σ H { s' with heap := G } ∧ (∀ b, b ∈ frs X.stack → G.get? b = h.get? b) ∧ (∀ b o, G.get? b = some o → h.get? b = some o) ∧ (∀ b o, G.get? b = some o → b ∉ frs X.stack → B.get? b = some o) ∧ ∀ b, (B.get? b).isSome = false → b ∉ frs X.stack → G.get? b = none := by
  obtain ⟨G, gz, g1, g2⟩ := restrictS h fun b => (B.get? b).isSome || decide (b ∈ frs X.stack)
  have gB : ∀ b o, B.get? b = some o → G.get? b = some o := fun b o e => by
    rw [g1 b (by simp [e])]
    exact st b o e
  have gF : ∀ b, b ∈ frs X.stack → G.get? b = h.get? b := fun b hb => g1 b (by simp [hb])
  have og : ∀ b o, G.get? b = some o → h.get? b = some o ∧ ((B.get? b).isSome = true ∨ b ∈ frs X.stack) := fun b o e => by
    cases q : ((B.get? b).isSome || decide (b ∈ frs X.stack)) with
    | false => rw [g2 b q] at e; cases e
    | true =>
      rw [g1 b q] at e
      exact ⟨e, by simpa [Bool.or_eq_true] using q⟩
  have nf : ∀ b ∈ frs X.stack, ∀ o, sI.heap.get? b = some o → ∃ sl, G.get? b = some { o with slots := sl } := fun b hb o e => by
    obtain ⟨_, o', e', hd⟩ := I.stack.mem hb
    rw [e] at e'; cases e'
    obtain ⟨sl, q⟩ := up b o e hd
    exact ⟨sl, by rw [gF b hb]; exact q⟩
  have J := I.call (ch := []) (h' := G) (g' := s'.gens) (t' := s'.toks) (d' := s'.drawn) (H' := H)
    ⟨fun b o e _ hb _ => gB b o (nb b o e hb), fun b o e _ hb _ => nf b hb o e, fun _ _ _ n _ => n, fun b o e _ => by
      by_cases hb : b ∈ frs X.stack
      · obtain ⟨sl, q⟩ := nf b hb o e
        exact ⟨_, q⟩
      · exact ⟨o, gB b o (nb b o e hb)⟩, fun _ _ e => e, fun _ _ _ e => e, fun b ps e => ⟨#[], by rw [e]; simp⟩⟩
    ((I.inGround nb).kept gB) ag (fun _ z => nomatch z)
  refine ⟨G, ⟨gz, g1⟩, ?_, gF, fun b o e => (og b o e).1, fun b o e hb => ?_, fun b hb hf => g2 b (by simp [hb, hf])⟩
  · obtain ⟨a1, a2, a3, a4, a5⟩ := s'
    have e5 : a5 = sI.os := os
    subst e5
    exact J
  · obtain ⟨e1, q | q⟩ := og b o e
    · obtain ⟨o', q'⟩ := Option.isSome_iff_exists.mp q
      have := st b o' q'
      rw [e1] at this
      cases this
      exact q'
    · exact absurd q hb
theorem gone_inv {i : Nat} {n : Str} (I : Inv X pins σ H s) (hN : X.N.Nodup) (hi : X.N[i]? = some n) (hl : X.env.kindOf n = some .local) :
    ∃ m, s.heap.Ns X.env.locals m ∧ ∀ (h' : Heap) (v : Option Value) (t' : Nat), h'.Ns X.env.locals (fun x => if x = n then v else m x) → Heap.SameBut X.env.locals s.heap h' → Inv X pins (σ.set i none) H { s with heap := h', toks := t' } := by
  obtain ⟨m, hn, hlk⟩ := id I.loc
  refine ⟨m, hn, fun h' v t' hn' hs => ?_⟩
  obtain ⟨oL, _, _, hoL, _⟩ := id hn
  have neL : ∀ b o, X.s_0.heap.get? b = some o → b ≠ X.env.locals := fun b o e => Nat.ne_of_lt (Nat.lt_of_lt_of_le (Heap.lt_size e) I.ok.above)
  refine ⟨I.ok, I.os, I.bare, ⟨fun b o e n hb hx => ?_, fun b o e n hb hx => ?_, I.base.free, fun b o e hx => ?_, I.base.tups, I.base.frzs, I.base.tbls⟩, ⟨_, hn', fun j y v' e1 e2 e3 => ?_⟩, fun y c e => ?_, I.free, I.freeC, fun p hp => ?_, fun b ob e => ?_, by simpa using I.len⟩
  · exact (hs.2 b (neL b o e)).trans (I.base.keep b o e n hb hx)
  · obtain ⟨sl, e1⟩ := I.base.slot b o e n hb hx
    exact ⟨sl, (hs.2 b (neL b o e)).trans e1⟩
  · obtain ⟨o', e1⟩ := I.base.there b o e hx
    exact ⟨o', (hs.2 b (neL b o e)).trans e1⟩
  · by_cases hj : j = i
    · subst hj
      by_cases hlt : j < σ.length
      · rw [List.getElem?_set_self hlt] at e2; cases e2
      · rw [List.getElem?_eq_none (by simpa using hlt)] at e2; cases e2
    · rw [List.getElem?_set_ne (Ne.symm hj)] at e2
      obtain ⟨u', r', q⟩ := hlk j y v' e1 e2 e3
      refine ⟨u', r', ?_⟩
      rcases q with ⟨k, e⟩ | ⟨k, c, e, z⟩
      · have ny : y ≠ n := fun e => hj (nodup_ix hN e1 (e ▸ hi))
        exact .inl ⟨k, (if_neg ny).trans e⟩
      · exact .inr ⟨k, c, e, z.sameBut hs (I.cne y c e)⟩
  · obtain ⟨w', z⟩ := I.cell y c e
    exact ⟨w', z.sameBut hs (I.cne y c e)⟩
  · obtain ⟨e, n, ne, nf, d⟩ := I.pin p hp
    exact ⟨(hs.2 p.1 ne).trans e, n, ne, nf, d⟩
  · refine (I.hok b ob e).stay (fun c w' hc q => (hs.2 c ?_).trans q) (fun _ q => q) fun _ _ q => q
    intro z
    subst z
    rcases hc with hc | hc
    · rw [← hc, I.free] at e; cases e
    · rw [I.free] at hc; cases hc
/-- noted, then held -/
theorem sky_note {M : Model} {A : Around} {E₁ : Value → Shared → Prop} {env : PySem.Env} {outer : List PySem.Env} {L a : Addr} {Z : Obj → Prop} {Q : Unit → Shared → Prop} (hZ : HandSPX.Steady Z) (hfr : A.frames = some (env :: outer)) (hf : env.frame = some L)
    (x : Sky B (env :: outer) a Z L s.heap) (hQ : ∀ h', HandSPX.HeldZ B (env :: outer) a Z L h' → s.heap.UpToSlots h' → Q () { s with heap := h' }) : wpAny M A (noteFrame (.ref a) env) Q E₁ s := by
  rcases x with ⟨hB, hn, hl, oe, vs, he, hz, hd, h1⟩ | fl | hh
  · exact HandSPX.look_newZ hZ hfr hl hf he hB hn hd h1 hz hQ
  · exact HandSPX.looks_onZ hZ hfr hf fl hQ
  · exact HandSPX.againZ hf hh.2.2.2 (hQ s.heap hh (Heap.UpToSlots.refl _))
/-- the tail of an except suite under a name: the name goes, the exception goes on -/
theorem as_tail {a : Addr} {cls : Value} {d : Option Addr} {i : Nat} {n : Str} {pos : Pos} {E₂ E₃ : Value → Shared → Prop} {A' : Around} {W : WX} (hs : X.stack = X.env :: X.outer) (hf : X.env.frame = some X.env.locals) (hN : X.N.Nodup) (hi : X.N[i]? = some n) (hln : X.env.kindOf n = some .local)
    (hpa : PassesOwnAt (model X.prog X.w) A' X.A X.env X.xe) (tk : L2.Takes X W) (hfr : A'.frames = some (X.env :: X.outer))
    (I : Inv X pins σ H sI) (nb : ∀ b o, sI.heap.get? b = some o → b ∉ frs X.stack → B.get? b = some o) (up : sI.heap.UpToSlots s.heap) (sky : Sky B X.stack a (Zc cls d) X.env.locals s.heap) (na : H a = none) (os : s.os = sI.os) (ag : AllBare s.gens) (w : W cls d (σ.set i none) H) :
    wpAny (model X.prog X.w) A' (noteFrame (.ref a) X.env) (fun _ s₃ => wpAny (model X.prog X.w) A' (do bindName X.env n .none; unbindBehindTheSuite X.env n pos)
      (fun _ s₄ => wpAny (model X.prog X.w) A' (PySem.passOn "try.except-as" (.ref a) X.env : Sem Flow) (fun _ _ => False) (notedBy (model X.prog X.w) A' X.env (cameBackBy (model X.prog X.w) X.A X.env X.xe)) s₄) E₂ s₃) E₃ s := by
  rw [hs] at sky
  refine sky_note Zc.steady hfr hf sky fun h7 hh up7 => ?_
  have hcls : (X.env.scope.kind == .class || (X.env.scope.kind == .module && X.env.locals != X.env.globals)) = false := by rw [I.ok.kind]; rfl
  obtain ⟨G, ⟨gz, gE⟩, J, gF, og, gB, g0⟩ := grounded (h := h7) (s' := s) I nb hh.1 (up.trans up7) os ag
  obtain ⟨m, hnG, gone⟩ := gone_inv J hN hi hln
  have Lfr : X.env.locals ∈ frs X.stack := by rw [hs]; exact List.mem_filterMap.mpr ⟨X.env, List.mem_cons_self, hf⟩
  have hn7 : h7.Ns X.env.locals m := by
    obtain ⟨o, es, ep, ho, r⟩ := hnG
    exact ⟨o, es, ep, (gF _ Lfr).symm.trans ho, r⟩
  have BL : B.get? X.env.locals = none := by
    obtain ⟨b1, b0, f1, t1⟩ := hh
    exact (f1.mem (List.mem_filterMap.mpr ⟨X.env, List.mem_cons_self, hf⟩)).1
  refine wpAny_nameGoes_keeps hln hn7 hcls fun h8 v hn8 hs8 => ?_
  obtain ⟨b1, b0, f1, t1⟩ := hh
  have b8 : B.StaysIn h8 := fun b o hb => (hs8.2 b fun q => by rw [q, BL] at hb; cases hb).trans (b1 b o hb)
  have f8 : h8.FunFrames B (X.env :: X.outer) := Heap.FunFrames.sameBut hs8 hn8 f1
  have t8 := traced_sameBut t1 hn7 hs8
  obtain ⟨G8, gz8, g81, g82⟩ := restrictS h8 fun b => (B.get? b).isSome || decide (b ∈ frs X.stack)
  have hs88 : Heap.SameBut X.env.locals G G8 := ⟨by rw [gz8, hs8.1]; exact gz.symm, fun b hb => by
    cases q : ((B.get? b).isSome || decide (b ∈ frs X.stack)) with
    | true => rw [g81 b q, gE b q]; exact hs8.2 b hb
    | false =>
      have q2 : (B.get? b).isSome = false ∧ b ∉ frs X.stack := by simpa using q
      rw [g82 b q, g0 b q2.1 q2.2]⟩
  have hnG8 : G8.Ns X.env.locals (fun x => if x = n then v else m x) := by
    obtain ⟨o, es, ep, ho, r⟩ := hn8
    exact ⟨o, es, ep, (g81 _ (by simp [Lfr])).trans ho, r⟩
  have J8 := gone G8 v (s.toks + 1) hnG8 hs88
  have og8 : ∀ b o, G8.get? b = some o → h8.get? b = some o := fun b o e => by
    cases q : ((B.get? b).isSome || decide (b ∈ frs X.stack)) with
    | false => rw [g82 b q] at e; cases e
    | true => rw [g81 b q] at e; exact e
  have gB8 : ∀ b o, G8.get? b = some o → b ∉ frs X.stack → B.get? b = some o := fun b o e hb => by
    cases q : (B.get? b) with
    | none => rw [g82 b (by simp [q, hb])] at e; cases e
    | some o' =>
      have := b8 b o' q
      rw [og8 b o e] at this
      cases this
      rfl
  obtain ⟨oe, vs, T, oT, ts, he, hz, hd, h1, r⟩ := id t8
  unfold PySem.passOn
  refine wpAny_bind (wpAny_field he hd h1 ?_)
  rw [if_neg (show ¬ ((Value.ref T == Value.none) = true) from by simp)]
  have fin : wpAny (model X.prog X.w) A' (setFlight (.ref a) X.env.frame) (fun _ s5 => wpAny (model X.prog X.w) A' (throw (.ref a) : Sem Flow) (fun _ _ => False) (notedBy (model X.prog X.w) A' X.env (cameBackBy (model X.prog X.w) X.A X.env X.xe)) s5) (notedBy (model X.prog X.w) A' X.env (cameBackBy (model X.prog X.w) X.A X.env X.xe)) { s with heap := h8, toks := s.toks + 1 } := by
    rw [hf]
    refine HandSPX.setFlight_anyZ (fl := rawInt X.env.locals) b8 f8 t8 fun h9 k1 k2 k3 k4 => wpAny_throw (hpa _ _ (tk _ _ ?_))
    exact ⟨a, B, { s with heap := G8, toks := s.toks + 1 }, pins, σ.set i none, H, cls, d, rfl, J8, gB8, (Heap.UpToSlots.of_keeps og8).trans k4, .inr (.inr (by rw [hs]; exact ⟨k1, b0, k2, k3⟩)), na, rfl, ag, w⟩
  first
    | exact wpAny_bind (wpAny_pure (wpAny_bind fin))
    | exact wpAny_bind fin
end
/-- the context of such a suite -/
abbrev hotX (X : Cx) (a : Addr) (pn : List (Addr × Obj)) (xe : Value → Shared → Prop) : Cx := { X with A := X.A.mark (some (.ref a)), calm := false, pn := pn, xe := xe }
theorem ps_tryX {X : Cx} {x n : Str} {c : Value} {i : Nat} {body suite : List Stmt} {b₀ : Stmt} {np pos pos' : Pos} {tb : WX → TS} {ts : Addr → Value → Option Addr → TS} {E : XK} {K : PySem.W.Frag} (hs : X.stack = X.env :: X.outer) (hf : X.env.frame = some X.env.locals) (hN : X.N.Nodup) (hi : X.N[i]? = some n) (hln : X.env.kindOf n = some .local) (hc : Names X x c)
    (hpa : ∀ hd : Option Value, PassesOwnAt (model X.prog X.w) (X.A.mark hd) X.A X.env X.xe) (tk : L2.Takes X (fun cls d _ H => E cls d H))
    (hb : ∀ (W : WX) (pn : List (Addr × Obj)) (xe : Value → Shared → Prop), L2N.Takes (X.tr pn xe) W → PassesOwn (model X.prog X.w) X.A X.env xe → PSs (X.tr pn xe) body (tb W))
    (hsu : ∀ (a : Addr) (oe : Obj) (cls : Value) (d : Option Addr) (pn : List (Addr × Obj)) (xe : Value → Shared → Prop), Zc cls d oe → (∃ vs, oe.data = .fields vs) → L2.Takes (hotX X a ((a, oe) :: pn) xe) (fun cls d _ H => E cls d H) → L2H.HotC (hotX X a ((a, oe) :: pn) xe) → PSs (hotX X a ((a, oe) :: pn) xe) (b₀ :: suite) (ts a cls d)) (hk : X.K = K := by rfl) :
    PS X (.Try body [.ExceptHandler (some (.Name x np)) (some n) (b₀ :: suite) pos'] [] [] pos) (tTryAs K c i (fun cls d _ H => E cls d H) tb ts) := by
  subst hk
  refine ⟨fun pins s σ H D I h => ?_⟩
  have ok := I.ok
  have hfr : X.A.frames = some (X.env :: X.outer) := by rw [ok.frames, hs]
  have hloc : Loc X.env.scope n := .inl hln
  refine wpAny_Try_except ?_
  refine wpAny_mono ((hb (wAs X.K c i ts (fun cls d _ H => E cls d H) D) (X.pn ++ pins) (fun e s₁ => wpAny (model X.prog X.w) X.A (noteFrame e X.env) (fun _ s₂ => wpAny (model X.prog X.w) X.A (setFlight e none) (fun _ s₃ =>
    wpAny (model X.prog X.w) X.A (handleBy e X.env [.ExceptHandler (some (.Name x np)) (some n) (b₀ :: suite) pos']) (SP X pins D) X.xe s₃) X.xe s₂) X.xe s₁) (fun u s' xx => ?_) PassesOwn.looking).run [] s σ H D (I.toTry _) h) (fun f s1 hsp => ?_) (fun e s1 he => he)
  · obtain ⟨a, B, sI, pins', σ', H', cls, d, rfl, J', nb, up, sky, na, os, ag, b, hb1, hyes, hno⟩ := xx
    have J : Inv X pins σ' H' sI := J'.ofTry ok
    have sky' : Sky B (X.env :: X.outer) a (L2N.Zn cls d) X.env.locals s'.heap := by rw [← hs]; exact sky
    show wpAny (model X.prog X.w) X.A (noteFrame (.ref a) X.env) _ _ _
    refine L2N.Sky.land L2N.Zn.steady hfr hf sky' fun h3 fl3 up3 => ?_
    have J3 : Inv X pins σ' H' { s' with heap := h3 } := J.landed nb fl3.1 (up.trans up3) os ag
    obtain ⟨oe3, vs3, he3, hz3, hd3⟩ := fl3.there
    have notFr : ∀ {h : Heap} {o : Obj} {vs : Array Value}, h.FunFrames B (X.env :: X.outer) → h.get? a = some o → o.data = .fields vs → a ∉ frs (X.env :: X.outer) := fun {h o vs} ff e dd hm => by
      obtain ⟨_, o', e', hnf⟩ := ff.mem hm
      rw [e] at e'; cases e'
      exact hnf _ dd
    have nfr := notFr fl3.2.2.1 he3 hd3
    have nL : a ≠ X.env.locals := fun z => nfr (List.mem_filterMap.mpr ⟨X.env, List.mem_cons_self, by rw [hf, z]⟩)
    have nF : a ∉ X.fs := fun hm => by
      obtain ⟨e, he, q⟩ := List.mem_filterMap.mp hm
      exact nfr (List.mem_filterMap.mpr ⟨e, List.mem_cons_of_mem _ he, q⟩)
    have S3 := J3.suite he3 hd3 na nL nF
    refine wpAny_handleBy_cons (codeAny_handlers_test ?_) (by intro q; cases q)
    have LT : PySem.W.Looks (model X.prog X.w) h3 (typeOf (.ref a)) cls := fun A Q E s k q => wpAny_typeOf_ref (k _ _ he3) (by rw [hz3.1]; exact q)
    have LM := PySem.W.exm_one (M := model X.prog X.w) (J3.kIn) LT hb1
    have test : ∀ {Q : Value → Shared → Prop} {E : Value → Shared → Prop}, Q c { s' with heap := h3 } → wpAny (model X.prog X.w) (X.A.mark (some (.ref a))) (eval (.Name x np) X.env) Q E { s' with heap := h3 } := fun {Q E} q => by
      obtain ⟨hg, hdbg, hm | ⟨hm, hv, hnn⟩⟩ := hc
      · exact ld_glob (X := X.suite a ((a, oe3) :: (X.pn ++ pins))) S3 hg hm q hdbg
      · exact ld_blt (X := X.suite a ((a, oe3) :: (X.pn ++ pins))) S3 hg hm hv q hnn hdbg
    refine test (LM.here ?_)
    cases b with
    | true =>
      refine codeAny_handlers_suite_as ?_
      refine HandSPX.lands_againZ fl3 fun h4 fl4 up4 => ?_
      have J4 : Inv X pins σ' H' { s' with heap := h4 } := J.landed nb fl4.1 ((up.trans up3).trans up4) os ag
      obtain ⟨oe4, vs4, he4, hz4, hd4⟩ := fl4.there
      have S4 := J4.suite he4 hd4 na nL nF
      have hot : L2H.HotC (hotX X a ((a, oe4) :: (X.pn ++ pins)) (fun u s2 => L2.XE (L2H.suiteX X a ((a, oe4) :: (X.pn ++ pins))) (fun cls d _ H => E cls d H) u s2)) := ⟨(a, oe4), ⟨rfl, vs4, hd4, hz4.2.2 vs4 hd4⟩, List.mem_cons_self⟩
      have tkS : L2.Takes (hotX X a ((a, oe4) :: (X.pn ++ pins)) (fun u s2 => L2.XE (L2H.suiteX X a ((a, oe4) :: (X.pn ++ pins))) (fun cls d _ H => E cls d H) u s2)) (fun cls d _ H => E cls d H) := fun u2 s2 x2 => by
        obtain ⟨a2, B2, sI2, pn2, σ2, H2, cls2, d2, e2, I2, r2⟩ := x2
        exact ⟨a2, B2, sI2, pn2, σ2, H2, cls2, d2, e2, Inv.unwish (X := L2H.suiteX X a ((a, oe4) :: (X.pn ++ pins))) I2, r2⟩
      refine store_ok (X := X.suite a ((a, oe4) :: (X.pn ++ pins))) (v := .ref a) S4 hN hi hloc rfl (fun s5 S5 => ?_) (.inr hln)
      have S5' := Inv.wish (L2H.suiteX_of S5) (fun u s2 => L2.XE (L2H.suiteX X a ((a, oe4) :: (X.pn ++ pins))) (fun cls d _ H => E cls d H) u s2)
      refine wpAny_mono ((hsu a oe4 cls d (X.pn ++ pins) _ hz4.zc ⟨_, hd4⟩ tkS hot).run [] s5 _ H' _ S5' (hyes rfl a na)) (fun f s6 hsp => ?_) (fun e6 s6 z => ?_)
      · have end_ : ∀ {σ6 : L2.St} {H6 : Hp} {Q : Shared → Prop}, Inv (hotX X a ((a, oe4) :: (X.pn ++ pins)) (fun u s2 => L2.XE (L2H.suiteX X a ((a, oe4) :: (X.pn ++ pins))) (fun cls d _ H => E cls d H) u s2)) [] σ6 H6 s6 → (∀ s7, Inv X pins (σ6.set i none) H6 s7 → Q s7) →
            wpAny (model X.prog X.w) X.A (do bindName X.env n .none; unbindBehindTheSuite X.env n pos') (fun _ s7 => Q s7) X.xe s6 := fun {σ6 H6 Q} S6 hq => gone_ok (L2H.unsuiteX (Inv.unwish (X := L2H.suiteX X a ((a, oe4) :: (X.pn ++ pins))) S6) ok) hN hi hln hq
        cases f with
        | next =>
          obtain ⟨σ6, H6, S6, q6⟩ := hsp
          exact end_ S6 fun s7 J7 => ⟨_, _, J7, q6⟩
        | brk =>
          obtain ⟨σ6, H6, S6, q6⟩ := hsp
          exact end_ S6 fun s7 J7 => ⟨_, _, J7, q6⟩
        | cont =>
          obtain ⟨σ6, H6, S6, q6⟩ := hsp
          exact end_ S6 fun s7 J7 => ⟨_, _, J7, q6⟩
        | ret u =>
          obtain ⟨v6, σ6, H6, S6, r6, q6⟩ := hsp
          exact end_ S6 fun s7 J7 => ⟨_, _, _, J7, r6, q6⟩
      · obtain ⟨a2, B2, sI2, pn2, σ2, H2, cls2, d2, rfl, I2, nb2, up2, sky2, na2, os2, ag2, w2⟩ := z
        exact as_tail (cls := cls2) (d := d2) (W := fun cls d _ H => E cls d H) hs hf hN hi hln (hpa (some (.ref a))) tk hfr (L2H.unsuiteX I2 ok) nb2 up2 sky2 na2 os2 ag2 w2
    | false =>
      show wpAny _ X.A (handleBy (.ref a) X.env []) _ _ _
      refine wpAny_handleBy_nil ?_
      have flz := L2H.flyingZ_imp (fun o (z : L2N.Zn cls d o) => z.zc) fl3
      obtain ⟨k1, k2, k3, oe, vs, T, oT, ts', he, hz, hd, h1, hr⟩ := id flz
      unfold PySem.passOn
      refine wpAny_bind (wpAny_field he hd h1 ?_)
      rw [if_neg (show ¬ ((Value.ref T == Value.none) = true) from by simp)]
      have fin : wpAny (model X.prog X.w) X.A (setFlight (.ref a) X.env.frame) (fun _ s4 => wpAny (model X.prog X.w) X.A (throw (.ref a) : Sem Flow) (SP X pins D) X.xe s4) X.xe { s' with heap := h3 } := by
        rw [hf]
        refine HandSPX.setFlight_upZ flz fun h4 hh4 up4 => wpAny_throw (tk _ _ ?_)
        exact ⟨a, B, sI, pins, σ', H', cls, d, rfl, J, nb, (up.trans up3).trans up4, .inr (.inr (by rw [hs]; exact hh4)), na, os, ag, hno rfl⟩
      first
        | exact wpAny_bind (wpAny_pure (wpAny_bind fin))
        | exact wpAny_bind fin
  · cases f with
    | next =>
      obtain ⟨σ', H', J', q⟩ := hsp
      exact wpAny_execs_nil ⟨σ', H', J'.ofTry ok, q⟩
    | brk =>
      obtain ⟨σ', H', J', q⟩ := hsp
      exact ⟨σ', H', J'.ofTry ok, q⟩
    | cont =>
      obtain ⟨σ', H', J', q⟩ := hsp
      exact ⟨σ', H', J'.ofTry ok, q⟩
    | ret u =>
      obtain ⟨v, σ', H', J', r, q⟩ := hsp
      exact ⟨v, σ', H', J'.ofTry ok, r, q⟩
theorem pe_ckmR0 {X : Cx} {k : Nat} {ps ks : List Str} {sp : Sp} {x : Str} {p pos : Pos} {e : Expr} {es : List Expr} {t tk : TA} {kws : List Keyword} {g : List Value → List Value → List Value} {gV : List V → List V → List V} (O : OkKR X.prog X.w X.K X.mg X.base k x ps ks g gV sp) (hr : Room k X.A) (hg : Gl X x)
    (ha : PA X (e :: es) t) (hkw : L2.PK X kws tk) (hall : (backToKw pos (keywordEach kws X.env)).all (·.1.isSome) = true := by rfl) (hks : (backToKw pos (keywordEach kws X.env)).filterMap (·.1) = ks := by rfl)
    (hdb : (x == ("__debug__" : Str)) = false := by decide) (he : starEach (e :: es) X.env = (false, eval e X.env) :: starEach es X.env := by rfl)
    (hpl : ((backTo pos (starEach (e :: es) X.env)).any (·.1) || (backToKw pos (keywordEach kws X.env)).any (·.1.isNone)) = false := by rfl) :
    PE X (.Call (.Name x p) (e :: es) kws pos) (tCallK sp gV E0 t tk) := by
  obtain ⟨f, fd, F, hb, hk, hm⟩ := O.ex
  refine ⟨fun pins s σ H Q I h => ?_⟩
  refine wpAny_Call_Name_kw (ld_glob I hg hm ?_ hdb)
  refine PySem.W.callWith_KW (h₀ := X.base) I.ok.mod.kin hk hall (thn (ha.run pos pins s σ H _ I h) fun us s1 ⟨vs, H1, I1, r, q⟩ => ?_) hpl he
  refine thn (hkw.run pos pins s1 σ H1 _ I1 q) fun ws s2 ⟨zs, H2, I2, rz, q2⟩ => ⟨I2.kIn, ?_⟩
  rw [hks]
  exact run_fnkS (E := fun _ => E0) F hr hb (fun pins H s e s' I h => passL pins σ H s e s' I h) I2 r rz q2
theorem ev_callK2 {J : Jd} {ρ : List U} {Φ : R → List U → Prop} {sp : Sp} {ta tr : TA} {gV : List V → List V → List V} {gR : List R → List R → List R} (hg : ∀ (P : V → R → Prop) vs rs zs qs, Paired P vs rs → Paired P zs qs → Paired P (gV vs zs) (gR rs qs))
    (h : EvA J ta ρ fun rs ρ1 => EvA J tr ρ1 fun qs ρ2 => SpE J sp (gR rs qs) ρ2 Φ (fun _ _ => False)) : EvE J (tCallK sp gV E0 ta tr) ρ Φ := by
  intro O σ G H Q hn E c
  refine h O σ G H _ hn E ⟨fun vs rs G1 H1 ρ1 h1 E1 r1 g1 => ?_, c.x⟩
  refine h1 O σ G1 H1 _ hn E1 ⟨fun zs qs G2 H2 ρ2 h2 E2 r2 g2 => ?_, c.x.on g1⟩
  exact h2 O σ G2 H2 Q E0 (gV vs zs) hn E2 (ValL.fro (hg _ _ _ _ _ (r1.mono g2).to r2.to)) ((c.on g1).on g2) fun _ _ _ _ _ _ _ _ _ z => z.elim
/-- a field of the exception, in a suite that may raise -/
theorem pe_xfH {X : Cx} {a C : Addr} {oe : Obj} {cls : Value} {d : Option Addr} {pn : List (Addr × Obj)} {xe : Value → Shared → Prop} {e : Expr} {te : TE} {pos : Pos} {n : Str} (T : XfC X.K C) (hno : PySem.W.findIn X.K (.ref C) n = some none)
    (hz : Zc cls d oe) (hf : ∃ vs, oe.data = .fields vs) (he : PE (hotX X a ((a, oe) :: pn) xe) e te) (hb : attributeBase e n X.env (eval e X.env) = eval e X.env := by rfl) :
    PE (hotX X a ((a, oe) :: pn) xe) (.Attribute e n pos) (tXf a cls d C n te) := by
  refine ⟨fun pins s σ H Q I h => ?_⟩
  refine attr_of hb (thn (he.run pins s σ H _ I h) fun u s1 hh => ?_)
  obtain ⟨x, H1, I1, rx, ex, ec, dd, fs, v, ed, ea, l, q⟩ := hh
  subst ex
  obtain rfl : u = Value.ref a := rx
  subst ec
  subst ed
  obtain ⟨ha, _⟩ := I1.pin (a, oe) (List.mem_append_left _ List.mem_cons_self)
  obtain ⟨vs, hd⟩ := hf
  have hx : ObjOk X.prog X.w H1 s1.heap dd (.xd fs) := I1.hok dd _ ea
  obtain ⟨mA, hns, hr⟩ := hx
  obtain ⟨od, ho, hl⟩ := lookIn_ns hns
  obtain ⟨u, hu, ru⟩ := RelO.some_of (v := v) (o := mA n) (by rw [← l]; exact hr n)
  have J : PySem.W.InstAt s1.heap a oe C (some od) := ⟨ha, hz.1, by unfold PySem.W.notCls; rw [hd] <;> rfl, by rw [hz.2]; exact ho⟩
  exact HandSPX.exc_get I1.kIn J T.ga T.gg T.exC (PySem.W.findObj_own T.hdC hno rfl (by rw [hl, hu])) (handed_of ru) ⟨v, H1, I1.tok _, ru, q⟩
theorem ev_joinTr {J : Jd} {ρ : List U} {Φ : R → List U → Prop} {to te : TE} (h : EvE J to ρ fun r ρ1 => ∃ s S, r = .sh (.str s) ∧ s = tx S ∧ EvE J te ρ1 fun q ρ2 => ∃ t ws, q = .sh t ∧ t.row = some (txs ws) ∧ (ws.map (·.length)).sum + ws.length * S.length ≤ 10000000 ∧ Φ (.sh (.str (tx (TL.joinL S ws)))) ρ2) : EvE J (tM1 (rJoin J.K) to te) ρ Φ := by
  intro O σ G H Q hn E c
  refine h O σ G H _ hn E ⟨fun v r G1 H1 ρ1 ⟨s, S, e, es, h1⟩ E1 r1 g1 => ?_, c.x⟩
  subst e es
  cases r1
  refine ⟨⟨_, rfl⟩, h1 O σ G1 H1 _ hn E1 ⟨fun w q G2 H2 ρ2 ⟨t, ws, e2, e3, hl, k⟩ E2 r2 g2 => ?_, c.x.on g1⟩⟩
  subst e2
  have hl2 : ((ws.map tx).map (·.length)).sum + (ws.map tx).length * (tx S).length ≤ 16777216 := by
    rw [List.map_map, List.length_map, tx_len]
    have : ((ws.map ((·.length) ∘ tx))).sum = (ws.map (·.length)).sum := congrArg _ (List.map_congr_left fun x _ => tx_len x)
    rw [this]
    omega
  obtain ⟨a, vs, rfl, hs, rl⟩ := Rep.row r2 e3
  have e : vs = (ws.map tx).map V.str := RepL.strs (ns := ws.map tx) (by rw [List.map_map]; exact rl)
  subst e
  refine ⟨tx S, _, ws.map tx, rfl, rfl, ?_, hl2, ?_⟩
  · rcases hs with hs | hs
    · exact .inl (E2.same.seq hs)
    · exact .inr (Vk.Same.tup E2.same hs)
  · rw [tx_join]
    exact ((c.on g1).on g2).here E2 k (.str _)
end Tr
set_option maxHeartbeats 2000000
namespace Tr
open PySem PySem.Spec PyProof.Rows L2 Vk
/-! a class whose __init__ may raise, made by keywords (three of them, in the order last, first, second) -/
def pm3 {α : Type} : List α → List α
  | [a, b, c] => [b, c, a]
  | _ => []
structure OkNewKR (P : Program) (w : World) (K : PySem.W.Frag) (mg : Str → Option Value) (base : Heap) (k : Nat) (C : Addr) (x : Str) (ps ks : List Str) (sp : Sp) : Prop where
  ex : ∃ (j : Nat) (f : Addr) (fd : FuncData), j + 1 ≤ k ∧ Mk K C f ∧ FnOk P w K mg base (L2.CX P w) j f fd ps sp ∧ (∀ (s : Shared) (x : Value) (ws : List Value), K.In s.heap → ws.length = 3 → BindsTo s fd ⟨[x], ks.zip ws⟩ (ps.zip (x :: pm3 ws))) ∧ ps.length = 4 ∧ mg x = some (.ref C)
theorem OkNewKR.mono {P w K mg base j k C x ps ks sp} (O : OkNewKR P w K mg base j C x ps ks sp) (h : j ≤ k) : OkNewKR P w K mg base k C x ps ks sp := by
  obtain ⟨i, f, fd, hj, r⟩ := O.ex
  exact ⟨i, f, fd, Nat.le_trans hj h, r⟩
def tPm (t : TA) : TA := fun σ H R => t σ H fun zs H1 => R (pm3 zs) H1
theorem pm3_pair {α β : Type} {P : α → β → Prop} : ∀ {xs : List α} {ys : List β}, Paired P xs ys → Paired P (pm3 xs) (pm3 ys)
  | _, _, .nil => .nil
  | _, _, .cons _ .nil => .nil
  | _, _, .cons _ (.cons _ .nil) => .nil
  | _, _, .cons a (.cons b (.cons c .nil)) => .cons b (.cons c (.cons a .nil))
  | _, _, .cons _ (.cons _ (.cons _ (.cons _ _))) => .nil
section
variable {X : Cx} {CX : CXT} {k : Nat} {f C : Addr} {fd : FuncData} {ps ks : List Str} {sp : Sp} {E : L2.St → XK} {x : Str} {p pos : Pos} {kws : List Keyword} {tk : TA}
theorem run_makeKS {pins : List (Addr × Obj)} {σ : L2.St} {H : Hp} {s : Shared} {Q : VK} {ws : List Value} {zs : List V} (M : Mk X.K C f) (F : FnOk X.prog X.w X.K X.mg X.base CX k f fd ps sp) (hr : Room (k + 1) X.A) (hps : ps.length = 4)
    (hb : ∀ (s : Shared) (x : Value) (ws : List Value), X.K.In s.heap → ws.length = 3 → BindsTo s fd ⟨[x], ks.zip ws⟩ (ps.zip (x :: pm3 ws))) (hx : PassesAt CX X σ (E σ)) (I : Inv X pins σ H s) (rz : Vals zs ws)
    (h : ∀ x dx, H x = none → H dx = none → dx ≠ x → sp (.ref x :: pm3 zs) (upd (upd H dx (.own x)) x (.ins C dx [])) (fun v H2 => v = .non ∧ Q (.ref x) H2) (E σ)) :
    wpAny (model X.prog X.w) X.A (call (.ref C) [] (ks.zip ws)) (EP X pins σ Q) X.xe s := by
  have hq := h (s.heap.objs.size + 1) s.heap.objs.size (I.hok.fresh (Nat.le_succ _)) (I.hok.fresh (Nat.le_refl _)) (Nat.ne_of_lt (Nat.lt_succ_self _))
  have I2 := Inv.made (C := C) I
  have r2 : Vals (V.ref (s.heap.objs.size + 1) :: pm3 zs) (Value.ref (s.heap.objs.size + 1) :: pm3 ws) := .cons rfl (pm3_pair rz)
  have hl : (pm3 zs).length = 3 := by
    have e := F.len _ _ _ _ hq
    rw [hps] at e
    simpa using e
  have hw : ws.length = 3 := by
    rw [← rz.length]
    match zs, hl with
    | [a, b, c], _ => rfl
  refine wpAny_call (make_map (f := f) I.kIn M.makes M.init (beq_iff_eq.mp M.fn) (codeAny_mono (F.run _ X.stack _ _ ⟨[Value.ref (s.heap.objs.size + 1)], ks.zip ws⟩ (Value.ref (s.heap.objs.size + 1) :: pm3 ws) _ _ (E σ) (hr.make C [] (ks.zip ws))
    (I2.env0.make C [] (ks.zip ws)) (hb _ _ ws I2.kIn hw) r2 hq) ?_))
  intro r s' hq'
  match r, hq' with
  | .error e, hq' => exact hx pins _ _ e s' I2 hq'
  | .ok (.ret u), hq' =>
    obtain ⟨v, H', I3, rv, ev, q3⟩ := I2.after hq'
    subst ev
    exact ⟨rv, ⟨V.ref (s.heap.objs.size + 1), H', I3, rfl, q3⟩⟩
  | .ok .next, hq' => exact hq'.elim
  | .ok .brk, hq' => exact hq'.elim
  | .ok .cont, hq' => exact hq'.elim
theorem pe_newKR {W : WX} (O : OkNewKR X.prog X.w X.K X.mg X.base k C x ps ks sp) (hr : Room k X.A) (tkk : Takes X W) (hg : Gl X x) (hkw : L2.PK X kws tk)
    (hall : (backToKw pos (keywordEach kws X.env)).all (·.1.isSome) = true := by rfl) (hks : (backToKw pos (keywordEach kws X.env)).filterMap (·.1) = ks := by rfl) (hdb : (x == ("__debug__" : Str)) = false := by decide)
    (hpl : ((backTo pos (starEach [] X.env)).any (·.1) || (backToKw pos (keywordEach kws X.env)).any (·.1.isNone)) = false := by rfl) :
    PE X (.Call (.Name x p) [] kws pos) (tMakeS C sp (fun σ cls d H => W cls d σ H) (tPm tk)) := by
  obtain ⟨j, f, fd, hj, M, F, hb, hps, hm⟩ := O.ex
  refine ⟨fun pins s σ H Q I h => ?_⟩
  refine wpAny_Call_Name_kw (ld_glob I hg hm ?_ hdb)
  refine PySem.W.callWith_KW0 (h₀ := X.base) I.ok.mod.kin M.kp hall ?_ hpl
  refine thn (hkw.run pos pins s σ H _ I h) ?_
  rintro ws s2 ⟨zs, H2, I2, rz, q2⟩
  refine ⟨I2.kIn, ?_⟩
  rw [hks]
  exact run_makeKS M F (hr.mono hj) hps hb (passAt tkk σ) I2 rz q2
end
theorem ea_pm {J : Jd} {ρ : List U} {tk : TA} {Φ : List R → List U → Prop} (h : EvA J tk ρ fun rs ρ1 => Φ (pm3 rs) ρ1) : EvA J (tPm tk) ρ Φ := by
  intro O σ G H Q hn E c
  exact h O σ G H _ hn E ⟨fun zs qs G2 H2 ρ2 q E2 r2 g2 => c.v _ _ G2 H2 ρ2 q E2 (ValL.fro (pm3_pair r2.to)) g2, c.x⟩
end Tr
namespace Tr
open PySem L2 Vk
/-! ### an exception made as a value, and == with it -/
def tMkV (C : Addr) (sp : Sp) (ta : TA) : TE := fun σ H Q => ta σ H fun vs H1 => vs.length ≤ 1000 ∧ ∀ a, H1 a = none → sp (.ref a :: vs) (upd H1 a (exo a C none)) (fun v H2 => v = .non ∧ Q (.ref a) H2) E0
section
variable {X : Cx} {k : Nat} {C : Addr} {x : Str} {ps ns : List Str} {e : Expr} {es : List Expr} {ta : TA} {p pos : Pos}
theorem pe_mkV (O : OkX X.prog X.w X.K X.mg X.base k C x ps ns) (hr : Room k X.A) (hg : Gl X x) (ha : PA X (e :: es) ta)
    (hdb : (x == ("__debug__" : Str)) = false := by decide) (he : starEach (e :: es) X.env = (false, eval e X.env) :: starEach es X.env := by rfl) (hpl : (backTo pos (starEach es X.env)).any (·.1) = false := by rfl) :
    PE X (.Call (.Name x p) (e :: es) [] pos) (tMkV C (spOI C ns) ta) := by
  obtain ⟨j, fI, fd, hj, iC, tI, F1, hb⟩ := O.ex
  obtain ⟨nm, q, N, bs, bm, sn, sub, ab, col, dd, k0, k1, k2, k3, k5, hC, hbm⟩ := O.T.cls
  refine ⟨fun pins s σ H Q I h => ?_⟩
  refine wpAny_Call_Name_kw (ld_glob I hg O.m ?_ hdb)
  refine PySem.W.callWith_K (h₀ := X.base) I.ok.mod.kin O.T.kC (thn (ha.run pos pins s σ H _ I h) fun us s1 ⟨vs, H1, I1, r1, hz, q1⟩ => ⟨I1.kIn, ?_⟩) he hpl
  show wpAny _ _ (call (.ref C) us) _ _ _
  obtain ⟨hp, g, dr, tk, os⟩ := s1
  have hsz : hp.objs.size ≤ hp.objs.size + 1 := Nat.le_succ _
  have hn : H1 (hp.objs.size + 1) = none := I1.hok.fresh hsz
  have hq := q1 (hp.objs.size + 1) hn
  have kk : ∀ b o, hp.get? b = some o → ((hp.push (PySem.W.kdv_tup us)).push (PySem.HandSPX.excO C hp.objs.size)).get? b = some o := fun b o e => Heap.get?_push_of_some _ (Heap.get?_push_of_some _ e)
  have hget : ((hp.push (PySem.W.kdv_tup us)).push (PySem.HandSPX.excO C hp.objs.size)).get? (hp.objs.size + 1) = some (PySem.HandSPX.excO C hp.objs.size) := by heap_get
  have I2 : Inv X pins σ (upd H1 (hp.objs.size + 1) (exo (hp.objs.size + 1) C none)) ⟨(hp.push (PySem.W.kdv_tup us)).push (PySem.HandSPX.excO C hp.objs.size), g, dr, tk, os⟩ :=
    I1.laid (t' := tk) (a := hp.objs.size + 1) (o := exo (hp.objs.size + 1) C none) (h' := (hp.push (PySem.W.kdv_tup us)).push (PySem.HandSPX.excO C hp.objs.size)) kk hsz (exo_ok hget)
  have r2 : Vals (V.ref (hp.objs.size + 1) :: vs) (Value.ref (hp.objs.size + 1) :: us) := .cons rfl r1
  have hl : ((Value.ref (hp.objs.size + 1) :: us) ++ []).length = ps.length := by
    have e := r2.length
    rw [F1.len _ _ _ _ hq] at e
    rw [List.append_nil]
    exact e.symm
  have hus : us.length ≤ sizeLine := by
    rw [← Paired.length r1, sizeLine_eq]
    omega
  have bb := hb _ (Value.ref (hp.objs.size + 1) :: us) I2.kIn hl
  rw [List.append_nil] at bb
  refine wpAny_call (PySem.HandSPX.call_own F.excBase_ValueError (fun Y => PySem.HandSPX.refsVE_contains Y bm hbm) (I1.kIn _ _ hC) (PySem.W.looks_findIn I1.kIn iC) (fun self => PySem.W.bind_fn I1.kIn self tI) hus
    (codeAny_mono (F1.run _ X.stack _ _ ⟨Value.ref (hp.objs.size + 1) :: us, []⟩ (Value.ref (hp.objs.size + 1) :: us) _ _ E0 ((hr.mono hj).make C us []) (I2.env0.make C us []) bb r2 hq) fun r s' hq' => ?_))
  cases r with
  | error er => exact pass0 pins σ _ _ er s' I2 hq'
  | ok fl =>
    cases fl with
    | ret u =>
      obtain ⟨v, H', I3, rv, ev, q3⟩ := I2.after hq'
      subst ev
      exact ⟨rv, ⟨V.ref (hp.objs.size + 1), H', I3, rfl, q3⟩⟩
    | next => exact False.elim hq'
    | brk => exact False.elim hq'
    | cont => exact False.elim hq'
end
/-- an exception that is a value, as the library's rules ask of a thing -/
theorem instAt_xo {X : Cx} {pins : List (Addr × Obj)} {σ : L2.St} {H : Hp} {s : Shared} {a C d : Addr} {fs : List (Str × V)} (I : Inv X pins σ H s) (ea : H a = some (exo a C (some d))) (ed : H d = some (exd d fs)) :
    ∃ o od, o.cls = .ref C ∧ PySem.W.InstAt s.heap a o C (some od) := by
  obtain ⟨t1, ho⟩ := exo_at I.hok ea
  obtain ⟨mA, hns, rel⟩ := exd_at I.hok ed
  obtain ⟨oD, _, _, hoD, _, _⟩ := hns.count (within_of rel)
  exact ⟨_, oD, rfl, ho, rfl, rfl, hoD⟩
/-- isinstance(x, c), x such an exception -/
def rIsXo (K : PySem.W.Frag) : List V → Hp → VK → Prop := fun xs H Q =>
  ∃ (a C d : Addr) (fs : List (Str × V)) (c : V) (cv : Value) (b : Bool), xs = [.ref a, c] ∧ XC K C ∧ H a = some (exo a C (some d)) ∧ H d = some (exd d fs) ∧ ClsV c cv ∧ PySem.W.kitOne K (.ref C) cv = some b ∧ Q (.bl b) H
theorem call_isXo {X : Cx} : CallR X (.builtin "isinstance") (rIsXo X.K) := by
  intro pins s σ H xs us Q I r h
  obtain ⟨a, C, d, fs, x, u, b, rfl, c, ea, ed, k, e, q⟩ := h
  obtain ⟨u1, u2, rfl, r1, r2⟩ := vals2 r
  have e2 := k.eq r2
  subst e2
  cases (show u1 = Value.ref a from r1)
  obtain ⟨o, od, _, J⟩ := instAt_xo I ea ed
  exact PySem.W.kia_one c.kit I.kIn J e (fun z => nomatch z) fun tk => ⟨.bl b, H, I.tok tk, rfl, q⟩
/-- the own == of the class at C, where the other is an exception of the class at D -/
def spEqX (C D : Addr) : Sp := fun vs H Q _ => ∃ (a b dx d : Addr) (fs gs : List (Str × V)), vs = [.ref a, .ref b] ∧ H a = some (.ins C dx fs) ∧ H b = some (exo b D (some d)) ∧ H d = some (exd d gs) ∧ Q (.bl false) H
structure OkEqX (P : Program) (w : World) (K : PySem.W.Frag) (mg : Str → Option Value) (base : Heap) (k : Nat) (C D : Addr) : Prop where
  ex : ∃ (f : Addr) (fd : FuncData), FnOk P w K mg base CX0 k f fd ["self", "other"] (spEqX C D) ∧ PySem.W.findIn K (.ref C) "__eq__" = some (some (.ref f)) ∧ PySem.W.isFn K (.ref f) = true ∧ Binds K fd ["self", "other"] []
  s1 : PySem.W.subIn K (.ref D) (.ref C) = some false
  s2 : PySem.W.subIn K (.ref C) (.ref D) = some false
  mr : PySem.W.mroIn K D (.type "object") = some true
  eq : PySem.W.findIn K (.ref D) "__eq__" = some (some (.builtin "object.__eq__"))
theorem OkEqX.mono {P w K mg base j k C D} (O : OkEqX P w K mg base j C D) (h : j ≤ k) : OkEqX P w K mg base k C D := by
  obtain ⟨f, fd, F, r⟩ := O.ex
  exact ⟨⟨f, fd, F.mono h, r⟩, O.s1, O.s2, O.mr, O.eq⟩
/-- x == y | y == x: x a thing of the class at C, y an exception of the class at D -/
def rEqX (C D : Addr) : R2 := fun x y H Q => ∃ (a b dx d : Addr) (fs gs : List (Str × V)), x = .ref a ∧ y = .ref b ∧ H a = some (.ins C dx fs) ∧ H b = some (exo b D (some d)) ∧ H d = some (exd d gs) ∧ Q (.bl false) H
def rEqXr (C D : Addr) : R2 := fun y x H Q => rEqX C D x y H Q
section
variable {X : Cx} {n : Nat} {C D : Addr}
theorem op_eqX (O : OkEqX X.prog X.w X.K X.mg X.base n C D) (hr : Room n X.A) : OpR X (compareOp .Eq) (rEqX C D) := by
  intro pins s σ H x y v u Q I rx ry hq
  obtain ⟨f, fd, F, hs, hf, hb⟩ := O.ex
  obtain ⟨a, b, dx, d, fs, gs, rfl, rfl, ha, hb', hd, hsp⟩ := hq
  cases rx
  cases ry
  obtain ⟨mA, J, _⟩ := ins_get I.hok ha
  obtain ⟨od, J, _⟩ := J.look
  obtain ⟨o', od', _, J'⟩ := instAt_xo I hb' hd
  obtain ⟨m, hF⟩ := I.fr
  show wpAny (model X.prog X.w) X.A (richCompare .Eq _ _) (EP X pins σ Q) X.xe s
  refine PySem.W.cmp_K (op := .Eq) (tb := .ref D) hr.units0 hF I.ok.mod.kin J J'.type (by unfold PySem.W.notFirst; rw [O.s1]; simp) hs hf ?_
  have sp : spEqX C D [V.ref a, V.ref b] H Q E0 := ⟨a, b, dx, d, fs, gs, rfl, ha, hb', hd, hsp⟩
  have hl := F.len _ _ _ _ sp
  have r2 : Vals [V.ref a, V.ref b] [Value.ref a, Value.ref b] := .cons rfl (.cons rfl .nil)
  have sp2 : spEqX C D [V.ref a, V.ref b] H (fun v H' => ∃ k, v = .bl k ∧ Q v H') E0 := ⟨a, b, dx, d, fs, gs, rfl, ha, hb', hd, ⟨false, rfl, hsp⟩⟩
  refine wpAny_call (codeAny_mono (F.run X.A X.stack s H ⟨[.ref a, .ref b], []⟩ [.ref a, .ref b] [.ref a, .ref b] _ E0 hr I.env0 (by
    have := hb s [.ref a, .ref b] I.kIn (by simpa using hl)
    simpa using this) r2 sp2) fun r s' hq => ?_)
  cases r with
  | error e => exact pass0 pins σ H s e s' I hq
  | ok fl =>
    cases fl with
    | ret w =>
      obtain ⟨z, H', I', rz, ⟨k, ez, qz⟩⟩ := I.after hq
      subst ez
      cases rz
      exact ⟨.bl k, H', I', rfl, qz⟩
    | next => exact False.elim hq
    | brk => exact False.elim hq
    | cont => exact False.elim hq
/-- an exception == a thing: the exception's own answer is NotImplemented, the thing's == is asked the other way round -/
theorem rc_flip {prog : Program} {w : World} {A : Around} {E : Value → Shared → Prop} {Q : Value → Shared → Prop} {s : Shared} {K : PySem.W.Frag} {x y f : Addr} {ox oy : Obj} {od od' : Option Obj} (hu : A.units < cLine) (X : K.In s.heap)
    (I : PySem.W.InstAt s.heap x ox D od) (J : PySem.W.InstAt s.heap y oy C od') (hxy : x ≠ y) (hnt : ox.cls ≠ .type "tuple") (hm : PySem.W.mroIn K D (.type "object") = some true) (hs : PySem.W.findIn K (.ref D) "__eq__" = some (some (.builtin "object.__eq__")))
    (hsb : PySem.W.subIn K (.ref C) (.ref D) = some false) (hsC : PySem.W.findIn K (.ref C) "__eq__" = some (some (.ref f))) (hf : PySem.W.isFn K (.ref f) = true)
    (h : wpAny (model prog w) A (call (.ref f) [.ref y, .ref x]) (PySem.W.CmpBack Q) E s) : wpAny (model prog w) A (richCompare .Eq (.ref x) (.ref y)) Q E s := by
  have one : wpAny (model prog w) A (tryCompare (.ref x) "__eq__" (.ref y)) (fun r s' => r = none ∧ s' = s) E s := by
    unfold tryCompare
    refine wpAny_bind (HN.ifBound_objEq X I hs ?_)
    exact wpAny_call (codeAny_call_builtin F.cmp_object.eq.plain F.cmpEntry_eq (PySem.W.check_slot F.cmpKind_eq F.cmpSplit_eq (I.type.andThen (PySem.W.looks_mroIn X hm)) (F.cmpArgs_eq _ _) (objEq_entry_other hxy I.1 J.1 hnt (wpAny_pure ⟨rfl, rfl⟩))))
  have two : wpAny (model prog w) A (tryCompare (.ref y) "__eq__" (.ref x)) (fun r s' => ∃ v, r = some v ∧ Q v s') E s := by
    unfold tryCompare
    refine wpAny_bind (PySem.W.ifBound_K X J hsC hf (wpAny_mono h (fun v s' hv => ?_) fun _ _ e => e))
    cases v <;> first | exact hv.elim | exact wpAny_pure ⟨_, rfl, hv⟩
  simp only [richCompare, cmpInfo_Eq, oneThing_ref]
  refine wpAny_holding (wpAny_bind (wpAny_cRoomFor hu ?_))
  refine wpAny_bind (I.type.here (wpAny_bind (J.type.here ?_)))
  split
  · refine wpAny_bind ((PySem.W.looks_subIn X hsb).here ?_)
    simp only [Bool.false_eq_true, if_false, Bool.not_false, if_true]
    refine wpAny_bind (m := tryCompare (.ref x) _ (.ref y)) (wpAny_mono one (fun r s1 z => ?_) fun _ _ e => e)
    obtain ⟨z1, z2⟩ := z
    subst z1
    subst z2
    refine wpAny_bind (m := tryCompare (.ref y) _ (.ref x)) (wpAny_mono two (fun r s2 z => ?_) fun _ _ e => e)
    obtain ⟨v, rfl, hq⟩ := z
    exact wpAny_pure hq
  · refine wpAny_bind (wpAny_pure ?_)
    simp only [Bool.false_eq_true, if_false, Bool.not_false, if_true]
    refine wpAny_bind (m := tryCompare (.ref x) _ (.ref y)) (wpAny_mono one (fun r s1 z => ?_) fun _ _ e => e)
    obtain ⟨z1, z2⟩ := z
    subst z1
    subst z2
    refine wpAny_bind (m := tryCompare (.ref y) _ (.ref x)) (wpAny_mono two (fun r s2 z => ?_) fun _ _ e => e)
    obtain ⟨v, rfl, hq⟩ := z
    exact wpAny_pure hq
theorem op_eqXr (O : OkEqX X.prog X.w X.K X.mg X.base n C D) (hr : Room n X.A) : OpR X (compareOp .Eq) (rEqXr C D) := by
  intro pins s σ H y x u v Q I ry rx hq
  obtain ⟨f, fd, F, hs, hf, hb⟩ := O.ex
  obtain ⟨a, b, dx, d, fs, gs, rfl, rfl, ha, hb', hd, hsp⟩ := hq
  cases rx
  cases ry
  obtain ⟨mA, J, _⟩ := ins_get I.hok ha
  obtain ⟨od, J, _⟩ := J.look
  obtain ⟨o', od', hc, J'⟩ := instAt_xo I hb' hd
  have ne : b ≠ a := fun e => by
    subst e
    rw [ha] at hb'
    have z : HO.ins C dx fs = HO.ext _ := Option.some.inj hb'
    cases z
  show wpAny (model X.prog X.w) X.A (richCompare .Eq _ _) (EP X pins σ Q) X.xe s
  refine rc_flip hr.units0 I.kIn J' J ne (by rw [hc]; intro z; cases z) O.mr O.eq O.s2 hs hf ?_
  have sp2 : spEqX C D [V.ref a, V.ref b] H (fun v H' => ∃ k, v = .bl k ∧ Q v H') E0 := ⟨a, b, dx, d, fs, gs, rfl, ha, hb', hd, ⟨false, rfl, hsp⟩⟩
  have hl := F.len _ _ _ _ sp2
  have r2 : Vals [V.ref a, V.ref b] [Value.ref a, Value.ref b] := .cons rfl (.cons rfl .nil)
  refine wpAny_call (codeAny_mono (F.run X.A X.stack s H ⟨[.ref a, .ref b], []⟩ [.ref a, .ref b] [.ref a, .ref b] _ E0 hr I.env0 (by
    have := hb s [.ref a, .ref b] I.kIn (by simpa using hl)
    simpa using this) r2 sp2) fun r s' hq => ?_)
  cases r with
  | error e => exact pass0 pins σ H s e s' I hq
  | ok fl =>
    cases fl with
    | ret w =>
      obtain ⟨z, H', I', rz, ⟨k, ez, qz⟩⟩ := I.after hq
      subst ez
      cases rz
      exact ⟨.bl k, H', I', rfl, qz⟩
    | next => exact False.elim hq
    | brk => exact False.elim hq
    | cont => exact False.elim hq
end
section
variable {J : Jd} {ρ : List U} {Φ : R → List U → Prop} {C D : Addr} {ns : List Str} {te : TE} {ta : TA}
theorem ev_eqX (h : EvE J te ρ fun r ρ1 => ∃ gs, r = .sh (.ins C gs) ∧ EvA J ta ρ1 fun rs ρ2 => ∃ ts ρ3, FzL J.n rs ρ2 ts ρ3 ∧ ts.length = ns.length ∧ ns.length ≤ 900 ∧ Φ (.sh (.bl false)) ρ3) :
    EvE J (tOp (rEqX C D) te (tMkV D (spOI D ns) ta)) ρ Φ := by
  intro O σ G H Q hn E c
  refine h O σ G H _ hn E ⟨fun v r G1 H1 ρ1 ⟨gs, e, h2⟩ E1 r1 g1 => ?_, c.x⟩
  subst e
  cases r1 with
  | ins ha ea ra =>
    refine h2 O σ G1 H1 _ hn E1 ⟨fun vs rs G2 H2 ρ2 ⟨ts, ρ3, f, hl, h9, q⟩ E2 r2 g2 => ?_, (c.on g1).x⟩
    obtain ⟨G3, g3, E3, r3⟩ := f.ok hn E2 r2
    have hv : vs.length = ns.length := r3.len.trans hl
    refine ⟨by omega, fun a na => ⟨a, vs, rfl, hv, upd_same, fun d nd ne => ?_⟩⟩
    rw [upd_ne ne] at nd
    have eh : upd (upd (upd H2 a (exo a D none)) d (exd d (ns.zip vs).reverse)) a (exo a D (some d)) = upd (upd H2 d (exd d (ns.zip vs).reverse)) a (exo a D (some d)) := by
      funext b
      by_cases h1 : b = a
      · rw [h1, upd_same, upd_same]
      · rw [upd_ne h1, upd_ne h1]
        by_cases h2 : b = d
        · rw [h2, upd_same, upd_same]
        · rw [upd_ne h2, upd_ne h2, upd_ne h1]
    rw [eh]
    obtain ⟨E4, g4⟩ := E3.alloc nd (exd d (ns.zip vs).reverse)
    have na2 : (upd H2 d (exd d (ns.zip vs).reverse)) a = none := by rw [upd_ne (Ne.symm ne)]; exact na
    obtain ⟨E5, g5⟩ := E4.alloc na2 (exo a D (some d))
    have ha5 := E5.same _ _ ((((g2.trans g3).trans g4).trans g5) _ _ ha)
    have hd5 : (upd (upd H2 d (exd d (ns.zip vs).reverse)) a (exo a D (some d))) d = some (exd d (ns.zip vs).reverse) := by rw [upd_ne ne, upd_same]
    exact ⟨rfl, _, _, _, _, _, _, rfl, rfl, ha5, upd_same, hd5, (c.on (g1.trans (((g2.trans g3).trans g4).trans g5))).here E5 q (.bl _)⟩
theorem ev_eqXr (h : EvA J ta ρ fun rs ρ2 => ∃ ts ρ3, FzL J.n rs ρ2 ts ρ3 ∧ ts.length = ns.length ∧ ns.length ≤ 900 ∧ EvE J te ρ3 fun r ρ1 => ∃ gs, r = .sh (.ins C gs) ∧ Φ (.sh (.bl false)) ρ1) :
    EvE J (tOp (rEqXr C D) (tMkV D (spOI D ns) ta) te) ρ Φ := by
  intro O σ G H Q hn E c
  refine h O σ G H _ hn E ⟨fun vs rs G2 H2 ρ2 ⟨ts, ρ3, f, hl, h9, h2⟩ E2 r2 g2 => ?_, c.x⟩
  obtain ⟨G3, g3, E3, r3⟩ := f.ok hn E2 r2
  have hv : vs.length = ns.length := r3.len.trans hl
  refine ⟨by omega, fun a na => ⟨a, vs, rfl, hv, upd_same, fun d nd ne => ?_⟩⟩
  rw [upd_ne ne] at nd
  have eh : upd (upd (upd H2 a (exo a D none)) d (exd d (ns.zip vs).reverse)) a (exo a D (some d)) = upd (upd H2 d (exd d (ns.zip vs).reverse)) a (exo a D (some d)) := by
    funext b
    by_cases h1 : b = a
    · rw [h1, upd_same, upd_same]
    · rw [upd_ne h1, upd_ne h1]
      by_cases h2 : b = d
      · rw [h2, upd_same, upd_same]
      · rw [upd_ne h2, upd_ne h2, upd_ne h1]
  rw [eh]
  obtain ⟨E4, g4⟩ := E3.alloc nd (exd d (ns.zip vs).reverse)
  have na2 : (upd H2 d (exd d (ns.zip vs).reverse)) a = none := by rw [upd_ne (Ne.symm ne)]; exact na
  obtain ⟨E5, g5⟩ := E4.alloc na2 (exo a D (some d))
  have gg := (g2.trans g3).trans (g4.trans g5)
  refine ⟨rfl, ?_⟩
  refine h2 O σ _ _ _ hn E5 ⟨fun v r G6 H6 ρ6 ⟨gs, e, q⟩ E6 r6 g6 => ?_, (c.on gg).x⟩
  subst e
  cases r6 with
  | ins ha ea ra =>
    have at1 : H6 a = some (exo a D (some d)) := E6.same _ _ (g6 _ _ upd_same)
    have at2 : H6 d = some (exd d (ns.zip vs).reverse) := E6.same _ _ (g6 _ _ (by rw [upd_ne ne, upd_same]))
    exact ⟨_, _, _, _, _, _, rfl, rfl, E6.same _ _ ha, at1, at2, (c.on (gg.trans g6)).here E6 q (.bl _)⟩
end
end Tr
namespace K26
open PySem L2 Vk Tr
def topS (i : Nat) : Stmt := PySem.Challenge.pw_stillinstep_k26_crews_checked.main.body.getD i (.Pass ⟨0, 0, 0, 0⟩)
abbrev s_is_height : Stmt := topS 25
abbrev N_is_height : List Str := ["height"]
abbrev P_is_height : List Str := ["height"]
theorem sc_is_height : FnScope N_is_height P_is_height (defScope s_is_height) := ⟨rfl, rfl, rfl, by decide +kernel, rfl, by decide +kernel, by decide +kernel⟩
abbrev s_are_seats : Stmt := topS 26
abbrev N_are_seats : List Str := ["seats", "leaves", "seat"]
abbrev P_are_seats : List Str := ["seats", "leaves"]
theorem sc_are_seats : FnScope N_are_seats P_are_seats (defScope s_are_seats) := ⟨rfl, rfl, rfl, by decide +kernel, rfl, by decide +kernel, by decide +kernel⟩
abbrev s_are_leanings : Stmt := topS 27
abbrev N_are_leanings : List Str := ["row", "leaves", "leaning"]
abbrev P_are_leanings : List Str := ["row", "leaves"]
theorem sc_are_leanings : FnScope N_are_leanings P_are_leanings (defScope s_are_leanings) := ⟨rfl, rfl, rfl, by decide +kernel, rfl, by decide +kernel, by decide +kernel⟩
abbrev s_law_whole : Stmt := topS 29
abbrev N_law_whole : List Str := ["value"]
abbrev P_law_whole : List Str := ["value"]
theorem sc_law_whole : FnScope N_law_whole P_law_whole (defScope s_law_whole) := ⟨rfl, rfl, rfl, by decide +kernel, rfl, by decide +kernel, by decide +kernel⟩
abbrev s_law_cell : Stmt := topS 30
abbrev N_law_cell : List Str := ["script", "k", "seed", "cell"]
abbrev P_law_cell : List Str := ["script", "k"]
theorem sc_law_cell : FnScope N_law_cell P_law_cell (defScope s_law_cell) := ⟨rfl, rfl, rfl, by decide +kernel, rfl, by decide +kernel, by decide +kernel⟩
abbrev s_law_feed : Stmt := topS 31
abbrev N_law_feed : List Str := ["cell", "rest"]
abbrev P_law_feed : List Str := ["cell"]
theorem sc_law_feed : FnScope N_law_feed P_law_feed (defScope s_law_feed) := ⟨rfl, rfl, rfl, by decide +kernel, rfl, by decide +kernel, by decide +kernel⟩
abbrev s_law_take : Stmt := topS 32
abbrev N_law_take : List Str := ["feed", "size", "digit", "twice"]
abbrev P_law_take : List Str := ["feed", "size"]
theorem sc_law_take : FnScope N_law_take P_law_take (defScope s_law_take) := ⟨rfl, rfl, rfl, by decide +kernel, rfl, by decide +kernel, by decide +kernel⟩
abbrev s_law_crew : Stmt := topS 33
abbrev N_law_crew : List Str := ["feed", "tallest", "upto", "height", "count", "leaves", "kind", "seats", "leanings", "k", "sort", "j"]
abbrev P_law_crew : List Str := ["feed", "tallest", "upto"]
theorem sc_law_crew : FnScope N_law_crew P_law_crew (defScope s_law_crew) := ⟨rfl, rfl, rfl, by decide +kernel, rfl, by decide +kernel, by decide +kernel⟩
abbrev s_law_rows : Stmt := topS 34
abbrev N_law_rows : List Str := ["cell", "feed", "upto"]
abbrev P_law_rows : List Str := ["cell"]
theorem sc_law_rows : FnScope N_law_rows P_law_rows (defScope s_law_rows) := ⟨rfl, rfl, rfl, by decide +kernel, rfl, by decide +kernel, by decide +kernel⟩
abbrev s_law_changed_seat : Stmt := topS 35
abbrev N_law_changed_seat : List Str := ["feed", "leaves", "kind"]
abbrev P_law_changed_seat : List Str := ["feed", "leaves"]
theorem sc_law_changed_seat : FnScope N_law_changed_seat P_law_changed_seat (defScope s_law_changed_seat) := ⟨rfl, rfl, rfl, by decide +kernel, rfl, by decide +kernel, by decide +kernel⟩
abbrev s_law_changed_row : Stmt := topS 36
abbrev N_law_changed_row : List Str := ["feed", "row", "kind", "fresh", "at"]
abbrev P_law_changed_row : List Str := ["feed", "row", "kind"]
theorem sc_law_changed_row : FnScope N_law_changed_row P_law_changed_row (defScope s_law_changed_row) := ⟨rfl, rfl, rfl, by decide +kernel, rfl, by decide +kernel, by decide +kernel⟩
abbrev s_law_joined : Stmt := topS 37
abbrev N_law_joined : List Str := ["feed", "seats", "leanings", "leaves", "many", "k", "j"]
abbrev P_law_joined : List Str := ["feed", "seats", "leanings", "leaves", "many"]
theorem sc_law_joined : FnScope N_law_joined P_law_joined (defScope s_law_joined) := ⟨rfl, rfl, rfl, by decide +kernel, rfl, by decide +kernel, by decide +kernel⟩
abbrev s_law_changed : Stmt := topS 38
abbrev N_law_changed : List Str := ["cell", "rows", "feed", "leaves", "height", "seats", "leanings", "row", "k", "kind", "at", "j", "node"]
abbrev P_law_changed : List Str := ["cell", "rows"]
theorem sc_law_changed : FnScope N_law_changed P_law_changed (defScope s_law_changed) := ⟨rfl, rfl, rfl, by decide +kernel, rfl, by decide +kernel, by decide +kernel⟩
abbrev s_law_field : Stmt := topS 39
abbrev N_law_field : List Str := ["rows", "leaves", "seat", "row", "lean"]
abbrev P_law_field : List Str := ["rows"]
theorem sc_law_field : FnScope N_law_field P_law_field (defScope s_law_field) := ⟨rfl, rfl, rfl, by decide +kernel, rfl, by decide +kernel, by decide +kernel⟩
abbrev s_law_is_row : Stmt := topS 40
abbrev N_law_is_row : List Str := ["actual", "due", "value"]
abbrev P_law_is_row : List Str := ["actual", "due"]
theorem sc_law_is_row : FnScope N_law_is_row P_law_is_row (defScope s_law_is_row) := ⟨rfl, rfl, rfl, by decide +kernel, rfl, by decide +kernel, by decide +kernel⟩
abbrev s_law_is_crew : Stmt := topS 41
abbrev N_law_is_crew : List Str := ["crew", "rows", "k"]
abbrev P_law_is_crew : List Str := ["crew", "rows"]
theorem sc_law_is_crew : FnScope N_law_is_crew P_law_is_crew (defScope s_law_is_crew) := ⟨rfl, rfl, rfl, by decide +kernel, rfl, by decide +kernel, by decide +kernel⟩
abbrev s_law_made : Stmt := topS 42
abbrev N_law_made : List Str := ["rows", "shape", "seats", "leanings", "row", "crew"]
abbrev P_law_made : List Str := ["rows", "shape"]
theorem sc_law_made : FnScope N_law_made P_law_made (defScope s_law_made) := ⟨rfl, rfl, rfl, by decide +kernel, rfl, by decide +kernel, by decide +kernel⟩
abbrev s_law_refuses : Stmt := topS 43
abbrev N_law_refuses : List Str := ["rows", "shape", "field", "e"]
abbrev P_law_refuses : List Str := ["rows", "shape", "field"]
theorem sc_law_refuses : FnScope N_law_refuses P_law_refuses (defScope s_law_refuses) := ⟨rfl, rfl, rfl, by decide +kernel, rfl, by decide +kernel, by decide +kernel⟩
abbrev s_law : Stmt := topS 44
abbrev N_law : List Str := ["script", "rows", "shape", "crew", "cells", "k", "other", "field", "twin"]
abbrev P_law : List Str := ["script"]
theorem sc_law : FnScope N_law P_law (defScope s_law) := ⟨rfl, rfl, rfl, by decide +kernel, rfl, by decide +kernel, by decide +kernel⟩
abbrev s_BadCrew_init : Stmt := inClass (topS 10) 0
abbrev N_BadCrew_init : List Str := ["self", "field"]
abbrev P_BadCrew_init : List Str := ["self", "field"]
theorem sc_BadCrew_init : FnScope N_BadCrew_init P_BadCrew_init (defScope s_BadCrew_init) := ⟨rfl, rfl, rfl, by decide +kernel, rfl, by decide +kernel, by decide +kernel⟩
abbrev s_Crew_init : Stmt := inClass (topS 24) 0
abbrev N_Crew_init : List Str := ["self", "height", "seats", "leanings", "leaves", "row"]
abbrev P_Crew_init : List Str := ["self", "height", "seats", "leanings"]
theorem sc_Crew_init : FnScope N_Crew_init P_Crew_init (defScope s_Crew_init) := ⟨rfl, rfl, rfl, by decide +kernel, rfl, by decide +kernel, by decide +kernel⟩
abbrev s_Crew_eq : Stmt := inClass (topS 24) 1
abbrev N_Crew_eq : List Str := ["self", "other"]
abbrev P_Crew_eq : List Str := ["self", "other"]
theorem sc_Crew_eq : FnScope N_Crew_eq P_Crew_eq (defScope s_Crew_eq) := ⟨rfl, rfl, rfl, by decide +kernel, rfl, by decide +kernel, by decide +kernel⟩
abbrev s_Crew_workers : Stmt := inClass (topS 24) 2
abbrev N_Crew_workers : List Str := ["self"]
abbrev P_Crew_workers : List Str := ["self"]
theorem sc_Crew_workers : FnScope N_Crew_workers P_Crew_workers (defScope s_Crew_workers) := ⟨rfl, rfl, rfl, by decide +kernel, rfl, by decide +kernel, by decide +kernel⟩
abbrev s_Crew_leaves : Stmt := inClass (topS 24) 3
abbrev N_Crew_leaves : List Str := ["self"]
abbrev P_Crew_leaves : List Str := ["self"]
theorem sc_Crew_leaves : FnScope N_Crew_leaves P_Crew_leaves (defScope s_Crew_leaves) := ⟨rfl, rfl, rfl, by decide +kernel, rfl, by decide +kernel, by decide +kernel⟩

structure CTCrew (K : PySem.W.Frag) (C : Addr) : Prop where
  cl : Cls K C
  n_height : NoAttr K C "height"
  n_seats : NoAttr K C "seats"
  n_leanings : NoAttr K C "leanings"
theorem fx_Crew_height : fidx ["height", "seats", "leanings"] "height" = some 0 := by decide +kernel
theorem fn_Crew_height : fidx [] "height" = none := by decide +kernel
theorem fx_Crew_seats : fidx ["height", "seats", "leanings"] "seats" = some 1 := by decide +kernel
theorem fn_Crew_seats : fidx ["height"] "seats" = none := by decide +kernel
theorem fx_Crew_leanings : fidx ["height", "seats", "leanings"] "leanings" = some 2 := by decide +kernel
theorem fn_Crew_leanings : fidx ["height", "seats"] "leanings" = none := by decide +kernel
def spLaw (K : PySem.W.Frag) : Sp := fun vs H Q _ => ∃ (a : Addr) (ns : List Int), vs = [.ref a] ∧ SqL K H a (ns.map V.int) ∧ ns.length ≤ 63 ∧ ∀ H', Q (.bl true) H'
end K26
namespace K26
open PySem L2 Vk Tr
section
variable {P : Program} {w : World} {K : PySem.W.Frag} {mg : Str → Option Value} {base : Heap}
theorem ok_law_take {f : Addr} {fd : FuncData} {k : Nat} (F : Fun K "_law_take" "_law_take" s_law_take f fd) (mint : mg "int" = none) : FnOk P w K mg base CX0 (k + 1) f fd P_law_take spTake := by
  refine F.ok sc_law_take (fun vs H Q E h => ?_) (fun cdv A outer s H vs Q E hr h => ?_)
  · obtain ⟨a, n, rfl, _⟩ := h
    rfl
  obtain ⟨a, n, rfl, ⟨x, y, z, e⟩, n0, n1, q⟩ := h
  refine ⟨_, (pss_cons (ps_asg (pe_op op_add (pe_ix (r := rIxL K) ix_list (pv 0) pe_int (fun _ _ => rfl)) pe_int) (pg_sub (pv 0) pe_int set_list))
    (C8.pss_cut (ps_if (PW.pt (pw_and (pt_cmpR op_eq (pe_ix (r := rIxL K) ix_list (pv 0) pe_int (fun _ _ => rfl)) pe_int (nomark _)) (pw_and1 (pt_cmpR op_eq (pe_ix (r := rIxL K) ix_list (pv 0) pe_int (fun _ _ => rfl)) pe_int (nomark _)))))
      (pss_cons (ps_asg pe_int (pg_sub (pv 0) pe_int set_list))
      (pss_one (ps_asg (pe_op op_add pe_int (pe_ix (r := rIxL K) ix_list (pv 0) pe_int (fun _ _ => rfl))) (pg_sub (pv 0) pe_int set_list))))
      pss_nil)
    (pss_cons (ps_if (pt_cmpR op_eq (pe_ix (r := rIxL K) ix_list (pv 0) pe_int (fun _ _ => rfl)) pe_int (nomark _))
      (pss_cons (ps_set (i := 2) sc_law_take.nd rfl (Or.inl rfl) (pe_op op_modN (pe_callTy call_int1 (by rfl) mint (by decide +kernel) (pa_cons (pe_ix (r := rIxL K) ix_list (pv 0) pe_int (fun _ _ => rfl)) pa_nil)) (pv 1)))
      (pss_cons (ps_asg (pe_op op_fdivN (pe_callTy call_int1 (by rfl) mint (by decide +kernel) (pa_cons (pe_ix (r := rIxL K) ix_list (pv 0) pe_int (fun _ _ => rfl)) pa_nil)) (pv 1)) (pg_sub (pv 0) pe_int set_list))
      (pss_one (ps_ret (pv 2)))))
      pss_nil)
    (pss_cons (ps_asg (pe_op op_modN (pe_callTy call_int1 (by rfl) mint (by decide +kernel) (pa_cons (pe_op op_add (pe_op op_add (pe_op op_mul (pe_ix (r := rIxL K) ix_list (pv 0) pe_int (fun _ _ => rfl)) pe_int) (pe_op op_mul pe_int (pe_ix (r := rIxL K) ix_list (pv 0) pe_int (fun _ _ => rfl)))) pe_int) pa_nil)) pe_int) (pg_sub (pv 0) pe_int set_list))
    (pss_cons (ps_set (i := 3) sc_law_take.nd rfl (Or.inl rfl) (pe_op op_modN (pe_callTy call_int1 (by rfl) mint (by decide +kernel) (pa_cons (pe_op op_mul (pe_ix (r := rIxL K) ix_list (pv 0) pe_int (fun _ _ => rfl)) (pe_op op_add (pe_op op_fdivN (pe_ix (r := rIxL K) ix_list (pv 0) pe_int (fun _ _ => rfl)) pe_int) pe_int)) pa_nil)) pe_int))
    (pss_one (ps_ret (pe_op op_modN (pe_op op_fdivN (pv 3) pe_int) (pv 1))))))))), ?_⟩
  -- feed[2] = feed[2] + 1
  refine ⟨_, rfl, _, _, _, _, rfl, rfl, SqL.of e, atI_nat (j := 2) rfl, _, _, rfl, rfl, _, rfl, _, _, _, _, rfl, rfl, e, rfl, ?_⟩
  have e1 : (upd H a (.lst [.int x, .int y, .int (z + 1)])) a = some (.lst [.int x, .int y, .int (z + 1)]) := upd_same
  have g1 : ∀ b o, b ≠ a → H b = some o → (upd H a (.lst [.int x, .int y, .int (z + 1)])) b = some o := fun b o nb eb => by rw [upd_ne nb]; exact eb
  refine ⟨fun σ' H' => ∃ x y z : Int, σ' = [some (.ref a), some (.int n), none, none] ∧ H' a = some (.lst [.int x, .int y, .int z]) ∧ (∀ b o, b ≠ a → H b = some o → H' b = some o), ?_, fun σ' H' hm => ?_⟩
  · refine ⟨_, rfl, _, _, _, _, rfl, rfl, SqL.of e1, atI_nat (j := 0) rfl, rfl, _, rfl, ite2 (fun c => ?_) (fun c => ?_)⟩
    · refine ⟨_, rfl, _, _, _, _, rfl, rfl, SqL.of e1, atI_nat (j := 1) rfl, rfl, _, rfl, ite2 (fun c => ?_) (fun c => ?_)⟩
      · refine ⟨_, rfl, _, _, _, _, rfl, rfl, e1, rfl, ?_⟩
        refine ⟨_, rfl, _, _, _, _, rfl, rfl, SqL.of upd_same, atI_nat (j := 2) rfl, _, _, rfl, rfl, _, rfl, _, _, _, _, rfl, rfl, upd_same, rfl, ?_⟩
        exact ⟨_, _, _, rfl, upd_same, fun b o nb eb => by rw [upd_ne nb, upd_ne nb]; exact g1 b o nb eb⟩
      · exact ⟨_, _, _, rfl, e1, g1⟩
    · exact ⟨_, _, _, rfl, e1, g1⟩
  obtain ⟨x, y, z, rfl, e2, g2⟩ := hm
  refine ⟨_, rfl, _, _, _, _, rfl, rfl, SqL.of e2, atI_nat (j := 0) rfl, rfl, _, rfl, ite2 (fun c => ?_) (fun c => ?_)⟩
  · refine ⟨_, rfl, _, _, _, _, rfl, rfl, SqL.of e2, atI_nat (j := 1) rfl, .inl ⟨_, rfl, _, rfl, _, _, rfl, rfl, by omega, ?_⟩⟩
    refine ⟨_, rfl, _, _, _, _, rfl, rfl, SqL.of e2, atI_nat (j := 1) rfl, .inl ⟨_, rfl, _, rfl, _, _, rfl, rfl, ⟨by omega, by omega⟩, ?_⟩⟩
    refine ⟨_, rfl, _, _, _, _, rfl, rfl, e2, rfl, ?_⟩
    refine ⟨_, rfl, ?_⟩
    exact q _ _ (fmod_lo n0) (fmod_hi n0) ⟨fun b o nb eb => by rw [upd_ne nb]; exact g2 b o nb eb, ⟨_, _, _, upd_same⟩⟩
  · refine ⟨_, rfl, _, _, _, _, rfl, rfl, SqL.of e2, atI_nat (j := 1) rfl, _, _, rfl, rfl, .inr ⟨by decide, by decide⟩, ?_⟩
    refine ⟨_, rfl, _, _, _, _, rfl, rfl, SqL.of e2, atI_nat (j := 2) rfl, _, _, rfl, rfl, .inl ⟨by decide, by decide⟩, _, _, rfl, rfl, _, _, rfl, rfl, .inl ⟨_, rfl, _, _, rfl, rfl, by omega, ?_⟩⟩
    refine ⟨_, rfl, _, _, _, _, rfl, rfl, e2, rfl, ?_⟩
    have b0 := fmod_lo (a := y * 48271 + 974711 * z + 12345) (b := 2147483647) (by decide)
    have b1 := fmod_hi (a := y * 48271 + 974711 * z + 12345) (b := 2147483647) (by decide)
    refine ⟨_, rfl, _, _, _, _, rfl, rfl, SqL.of upd_same, atI_nat (j := 1) rfl, _, rfl, _, _, _, _, rfl, rfl, SqL.of upd_same, atI_nat (j := 1) rfl, _, _, rfl, rfl, ⟨by decide, by decide⟩, _, _, rfl, rfl, _, _, rfl, rfl, .inl ⟨by omega, by omega⟩, .inl ⟨_, rfl, _, _, rfl, rfl, by omega, ?_⟩⟩
    refine ⟨_, rfl, _, _, rfl, rfl, ⟨by decide, by decide⟩, _, rfl, _, _, rfl, rfl, by omega, ?_⟩
    exact q _ _ (fmod_lo n0) (fmod_hi n0) ⟨fun b o nb eb => by rw [upd_ne nb]; exact g2 b o nb eb, ⟨_, _, _, upd_same⟩⟩
theorem ok_law_feed {f : Addr} {fd : FuncData} {k : Nat} (F : Fun K "_law_feed" "_law_feed" s_law_feed f fd) (mint : mg "int" = none) : FnOk P w K mg base CX0 (k + 1) f fd P_law_feed spFeed := by
  refine F.ok sc_law_feed (fun vs H Q E h => ?_) (fun cdv A outer s H vs Q E hr h => ?_)
  · obtain ⟨n, rfl, _⟩ := h
    rfl
  obtain ⟨n, rfl, q⟩ := h
  refine ⟨_, (pss_cons (ps_set (i := 1) sc_law_feed.nd rfl (Or.inl rfl) (pe_callTy call_int1 (by rfl) mint (by decide +kernel) (pa_cons (pv 0) pa_nil)))
    (pss_cons (ps_if (pt_cmpR op_ge (pv 1) (pe_op op_pow pe_int pe_int) (nomark _))
      (pss_one (ps_ret (pe_lst (pa_cons pe_int (pa_cons (pe_op op_sub (pv 1) (pe_op op_pow pe_int pe_int)) (pa_cons pe_int pa_nil))))))
      pss_nil)
    (pss_one (ps_ret (pe_lst (pa_cons pe_int (pa_cons (pe_op op_modN (pe_callTy call_int1 (by rfl) mint (by decide +kernel) (pa_cons (pv 1) pa_nil)) pe_int) (pa_cons pe_int pa_nil)))))))), ?_⟩
  refine ⟨_, rfl, .inl ⟨_, rfl, ?_⟩⟩
  refine ⟨_, rfl, _, _, rfl, rfl, ⟨by decide, by decide, by decide⟩, _, _, rfl, rfl, _, rfl, ite2 (fun c => ?_) (fun c => ?_)⟩
  · refine ⟨_, rfl, _, _, rfl, rfl, ⟨by decide, by decide, by decide⟩, _, _, rfl, rfl, (by show 3 ≤ sizeLine; decide), fun p hp => ?_⟩
    exact q _ _ (same_new hp _) hp ⟨_, _, _, upd_same⟩
  · refine ⟨_, rfl, .inl ⟨_, rfl, _, _, rfl, rfl, by omega, (by show 3 ≤ sizeLine; decide), fun p hp => ?_⟩⟩
    exact q _ _ (same_new hp _) hp ⟨_, _, _, upd_same⟩
theorem ok_law_cell {f : Addr} {fd : FuncData} {k : Nat} (F : Fun K "_law_cell" "_law_cell" s_law_cell f fd) (mlen : mg "len" = none) (mint : mg "int" = none) : FnOk P w K mg base CX0 (k + 1) f fd P_law_cell (spCellv K) := by
  refine F.ok sc_law_cell (fun vs H Q E h => ?_) (fun cdv A outer s H vs Q E hr h => ?_)
  · obtain ⟨a, ns, j, rfl, _⟩ := h
    rfl
  obtain ⟨a, ns, j, rfl, hS, j0, j1, q⟩ := h
  refine ⟨_, (pss_cons (ps_if (pt_cmpR op_lt (pv 1) (pe_callB (r := rLenS K) call_lenK (by rfl) mlen (by decide +kernel) (pa_cons (pv 0) pa_nil)) (nomark _))
      (pss_one (ps_ret (pe_ix (r := rIxL K) ix_list (pv 0) (pv 1) (fun _ _ => rfl))))
      pss_nil)
    (pss_cons (ps_set (i := 2) sc_law_cell.nd rfl (Or.inl rfl) pe_int)
    (pss_cons (ps_for PassesOwn.never rfl (pi_listK (K := K) (pv 0)) (pg_name (i := 3) sc_law_cell.nd rfl (Or.inl rfl))
      (pss_one (ps_set (i := 2) sc_law_cell.nd rfl (Or.inl rfl) (pe_op op_modN (pe_callTy call_int1 (by rfl) mint (by decide +kernel) (pa_cons (pe_op op_add (pe_op op_mul (pv 2) pe_int) (pe_op op_modN (pe_callTy call_int1 (by rfl) mint (by decide +kernel) (pa_cons (pv 3) pa_nil)) pe_int)) pa_nil)) pe_int))))
    (pss_one (ps_ret (pe_op op_modN (pe_callTy call_int1 (by rfl) mint (by decide +kernel) (pa_cons (pe_op op_mul (pe_op op_mul (pe_op op_add (pv 2) pe_int) (pe_op op_add (pv 1) pe_int)) pe_int) pa_nil)) pe_int)))))), ?_⟩
  refine ⟨_, rfl, _, rfl, _, _, rfl, .inl hS, _, _, rfl, rfl, _, rfl, ite2' (fun c => ?_) (fun c => ?_)⟩
  · obtain ⟨v, vm, ev⟩ := atI_in (xs := ns.map V.int) j0 c
    obtain ⟨n, _, rfl⟩ := List.mem_map.mp vm
    exact ⟨_, rfl, _, rfl, _, _, _, _, rfl, rfl, hS, ev, q n⟩
  · refine ⟨_, rfl, a, rfl, ⟨_, hS⟩, ?_⟩
    refine for_list (xs := ns.map V.int) (fun i σ H' => ∃ (sd : Int) (y : Option V), σ = [some (.ref a), some (.int j), some (.int sd), y] ∧ 0 ≤ sd ∧ sd < 1000003 ∧ H' = H) ⟨_, _, rfl, by decide, by decide, rfl⟩ (fun i σ H' _ hp => ?_) (fun i x σ H' hx hp => ?_) (fun σ H' hp => ?_)
    · obtain ⟨sd, y, _, _, _, rfl⟩ := hp
      exact hS
    · obtain ⟨sd, y, rfl, b0, b1, rfl⟩ := hp
      obtain ⟨n, _, rfl⟩ := List.mem_map.mp (List.mem_of_getElem? hx)
      refine ⟨_, rfl, _, _, rfl, rfl, .inl ⟨by omega, by omega⟩, _, rfl, .inl ⟨_, rfl, _, _, rfl, rfl, by omega, _, _, rfl, rfl, .inl ⟨_, rfl, _, _, rfl, rfl, by omega, ?_⟩⟩⟩
      exact ⟨_, _, rfl, fmod_lo (by decide), fmod_hi (by decide), rfl⟩
    · obtain ⟨sd, y, rfl, b0, b1, rfl⟩ := hp
      refine ⟨_, rfl, _, _, rfl, rfl, _, rfl, _, _, rfl, rfl, _, _, rfl, rfl, .inl ⟨by omega, by omega⟩, _, _, rfl, rfl, .inr ⟨by decide, by decide⟩, .inl ⟨_, rfl, _, _, rfl, rfl, by omega, ?_⟩⟩
      exact q _
end
end K26
set_option maxHeartbeats 1000000
namespace K26
open PySem L2 Vk Tr
local macro_rules | `(tactic| fail "fld") => `(tactic| first
  | refine ⟨_, _, _, _, rfl, CTCrew.cl (by assumption), CTCrew.n_height (by assumption), fx_Crew_height, rfl, ?_⟩
  | refine ⟨_, _, _, _, rfl, CTCrew.cl (by assumption), CTCrew.n_seats (by assumption), fx_Crew_seats, rfl, ?_⟩
  | refine ⟨_, _, _, _, rfl, CTCrew.cl (by assumption), CTCrew.n_leanings (by assumption), fx_Crew_leanings, rfl, ?_⟩
  | fail "stuck")
local macro_rules | `(tactic| fail "fldN") => `(tactic| first
  | refine ⟨_, _, _, _, _, rfl, rfl, CTCrew.cl (by assumption), CTCrew.n_height (by assumption), fn_Crew_height, by fail "lt", by fail "lt", by fail "norm", ?_⟩
  | refine ⟨_, _, _, _, _, rfl, rfl, CTCrew.cl (by assumption), CTCrew.n_seats (by assumption), fn_Crew_seats, by fail "lt", by fail "lt", by fail "norm", ?_⟩
  | refine ⟨_, _, _, _, _, rfl, rfl, CTCrew.cl (by assumption), CTCrew.n_leanings (by assumption), fn_Crew_leanings, by fail "lt", by fail "lt", by fail "norm", ?_⟩
  | fail "stuck")
local macro_rules | `(tactic| fail "lt") => `(tactic| exact Nat.le_of_ble_eq_true rfl)
local macro_rules | `(tactic| fail "norm") => `(tactic| first | (simp only [puts, List.take_succ_cons, List.take_zero, List.take_nil, List.set_cons_zero, List.set_cons_succ, List.cons_append, List.nil_append, initU, wipeU, List.length_cons, List.length_nil, Nat.zero_add, Nat.reduceAdd]; done) | (simp only [puts, List.take_succ_cons, List.take_zero, List.take_nil, List.set_cons_zero, List.set_cons_succ, List.cons_append, List.nil_append, initU, wipeU, List.length_cons, List.length_nil, Nat.zero_add, Nat.reduceAdd]; exact rfl) | exact rfl)
local macro_rules | `(tactic| fail "pl") => `(tactic| first
  | exact pl_int | exact pl_str | exact pl_bl | exact pl_non | exact pl_nil
  | ((with_reducible refine pl_lst ?_); fail "pl") | ((with_reducible refine pl_tup ?_); fail "pl") | ((with_reducible refine pl_cl ?_); fail "pl")
  | exact pl_nt | exact pl_txs
  | ((with_reducible refine pl_cons ?_ ?_); (fail "pl"); (fail "pl"))
  | ((with_reducible refine pl_map fun _ _ => ?_); fail "pl")
  | assumption)
local macro_rules | `(tactic| fail "fz") => `(tactic| first | exact Fz.sh | exact Fz.new rfl (Nat.le_of_ble_eq_true rfl) | exact Fz.mu (by exact rfl) (by fail "norm"))
local macro_rules | `(tactic| fail "fzl") => `(tactic| first | exact FzL.nil | exact FzL.cons (by fail "fz") (by fail "fzl"))
local macro_rules | `(tactic| fail "kps") => `(tactic| first | exact Kps.z | exact Kps.nil | (refine Kps.skip rfl ?_; fail "kps") | (refine Kps.same ?_; fail "kps"))
local macro_rules | `(tactic| fail "wks") => `(tactic| first | exact Wks.nil | (refine Wks.cons .no ?_; fail "wks") | (refine Wks.cons .nm ?_; fail "wks") | ((with_reducible refine Wks.cons .same ?_); fail "wks") | (refine Wks.consE (by first | exact rfl | exact int_eq (by omega) | exact int_eq (by (repeat' split) <;> omega)) ?_; fail "wks") | (refine Wks.consM (by first | exact rfl | assumption) ?_; fail "wks") | (refine Wks.cons .same ?_; fail "wks"))
local macro_rules | `(tactic| fail "blank") => `(tactic| first | exact Blank.nil | (refine Blank.no ?_; fail "blank") | (refine Blank.nm ?_; fail "blank"))
local macro_rules | `(tactic| fail "args") => `(tactic| first | (with_reducible exact ArgR.nil) | ((with_reducible apply ArgR.pu); (fail "fz"); (fail "args")) | ((with_reducible apply ArgR.fe); (fail "args"); exact rfl) | ((with_reducible apply ArgR.mt); (fail "args"); exact rfl))
local macro_rules | `(tactic| fail "tx") => `(tactic| first | (with_reducible exact rfl) | (with_reducible exact tx_sp) | (with_reducible exact tx_nl) | (with_reducible exact tx_e) | (with_reducible exact tx_hd) | (with_reducible exact tx_01) | exact tx1 _ | exact txof _ | exact rfl)
local macro_rules | `(tactic| fail "ll") => `(tactic| first | omega | assumption | decide | (simp only [List.length_append, List.length_cons, List.length_nil, List.length_take, List.length_drop, List.length_map, List.length_replicate, List.length_range, List.length_reverse, tx_len]; omega) | (refine Nat.le_trans cutL_len ?_; fail "ll") | (refine Nat.le_trans (numL2 (by omega)) ?_; decide) | (refine lcat ?_ ?_ <;> fail "ll"))
local macro_rules | `(tactic| fail "tl") => `(tactic| first | assumption | omega | decide | (simp only [tx_len, tx_app, List.length_append, List.length_cons, List.length_nil]; omega) | (exact Nat.le_of_ble_eq_true rfl))
local macro_rules | `(tactic| fail "num") => `(tactic| first | omega | decide | exact Nat.le_of_ble_eq_true rfl)
/-! one step of an expression -/
local macro_rules | `(tactic| fail "rdd") => `(tactic| first | exact Or.inl rfl | exact Or.inr ⟨_, _, _, rfl, rfl, rfl⟩)
local macro_rules | `(tactic| fail "kE") => `(tactic| first
  | ((with_reducible apply ev_var); exact rfl; fail "lt")
  | (with_reducible apply ev_op)
  | ((with_reducible apply ev_c); (first | exact .int | exact .bl | exact .str | exact .non))
  | (with_reducible apply ev_call)
  | (with_reducible apply ev_cb)
  | ((with_reducible apply ev_varm); exact rfl; fail "lt")
  | ((with_reducible apply ev_varf); exact rfl; fail "lt")
  | (with_reducible apply ev_tup)
  | (with_reducible apply ev_lst)
  | (with_reducible apply ev_fldS)
  | (with_reducible apply ev_prop)
  | (with_reducible apply ev_bm)
  | (with_reducible apply ev_and)
  | (with_reducible apply ev_or)
  | (with_reducible apply ev_not)
  | (with_reducible apply ev_if)
  | (with_reducible apply ev_chain)
  | (with_reducible apply ev_un)
  | (with_reducible apply ev_sl)
  | (with_reducible apply ev_bm0)
  | (with_reducible apply ev_meth)
  | (with_reducible apply ev_make)
  | (with_reducible apply ev_ty)
  | (with_reducible apply ev_revL)
  | (with_reducible apply ev_joinTx)
  | (with_reducible apply ev_bits)
  | (with_reducible apply ev_callS)
  | (with_reducible apply ev_cref)
  | (with_reducible apply ev_xf)
  | (with_reducible apply ev_listRev)
  | (with_reducible apply ev_joined)
  | (with_reducible apply ev_fmt)
  | (with_reducible apply ev_split)
  | fail "stuck")
local macro_rules | `(tactic| fail "kM") => `(tactic| first
  | (with_reducible apply evm_lst)
  | (with_reducible apply evm_list)
  | ((with_reducible apply evm_any); fail "kE")
  | fail "stuck")
local macro_rules | `(tactic| fail "kA") => `(tactic| first
  | (with_reducible apply ea_cons)
  | (with_reducible apply ea_nil)
  | fail "stuck")
local macro_rules | `(tactic| fail "kT") => `(tactic| first
  | (with_reducible apply et_test)
  | (with_reducible apply et_b)
  | (with_reducible apply et_and)
  | (with_reducible apply et_or)
  | (with_reducible apply et_not)
  | (with_reducible apply et_yes)
  | fail "stuck")
local macro_rules | `(tactic| fail "kC") => `(tactic| first | exact Or.inl ⟨by omega, by omega⟩ | exact Or.inr ⟨by omega, by omega⟩ | exact Or.inl ⟨by decide, by decide⟩ | exact Or.inr ⟨by decide, by decide⟩ | exact ⟨by decide, by decide⟩ | exact ⟨by omega, by omega⟩ | exact ⟨by omega, by omega, by decide⟩ | (show _ ≠ _; omega) | (show (0 : Int) ≤ _; omega) | (show (_ : Int) < _; omega))
local macro_rules | `(tactic| fail "k2") => `(tactic| first
  | (with_reducible apply rd_ii)
  | (with_reducible apply rd_ib)
  | ((with_reducible apply rd_ix); (first | exact rfl | assumption); (first | ((with_reducible apply atI_ltd); assumption) | ((with_reducible apply atI0); exact rfl) | ((with_reducible apply atI1); exact rfl) | ((with_reducible apply atI2); exact rfl) | ((with_reducible apply atI3); exact rfl) | ((with_reducible apply atI4); exact rfl) | ((with_reducible apply atI_lean0); assumption) | ((with_reducible apply atI_map2); assumption) | ((with_reducible apply atI_two); assumption) | ((with_reducible apply atI_lean); assumption; assumption) | ((with_reducible apply atNk); omega) | ((with_reducible apply atN0); omega) | ((with_reducible apply atN1); omega) | ((with_reducible apply atN2); omega)))
  | ((with_reducible apply rd_ixm); exact rfl; (first | ((with_reducible apply atI_ltd); assumption) | ((with_reducible apply atI0); exact rfl) | ((with_reducible apply atI1); exact rfl) | ((with_reducible apply atI2); exact rfl) | ((with_reducible apply atI3); exact rfl) | ((with_reducible apply atI4); exact rfl) | ((with_reducible apply atI_lean0); assumption) | ((with_reducible apply atI_map2); assumption) | ((with_reducible apply atI_two); assumption) | ((with_reducible apply atI_lean); assumption; assumption) | ((with_reducible apply atNk); omega) | ((with_reducible apply atN0); omega) | ((with_reducible apply atN1); omega) | ((with_reducible apply atN2); omega)))
  | (with_reducible apply rd_eqi)
  | ((with_reducible apply rd_ic); fail "kC")
  | (with_reducible apply rd_nei)
  | ((with_reducible apply rd_eqTx); fail "tx"; fail "tx")
  | ((with_reducible apply rd_neTx); fail "tx"; fail "tx")
  | (with_reducible apply rd_eqs)
  | (with_reducible apply rd_nes)
  | ((with_reducible apply rd_eqP); fail "pl"; fail "pl")
  | ((with_reducible apply rd_neP); fail "pl"; fail "pl")
  | ((with_reducible apply rd_inTx); fail "tx")
  | ((with_reducible apply rd_notInTx); fail "tx")
  | ((with_reducible apply rd_inP); (first | exact rfl | assumption); fail "pl"; fail "pl")
  | ((with_reducible apply rd_notInP); (first | exact rfl | assumption); fail "pl"; fail "pl")
  | ((with_reducible apply rd_inM); exact rfl; fail "pl"; fail "pl")
  | ((with_reducible apply rd_notInM); exact rfl; fail "pl"; fail "pl")
  | ((with_reducible apply rd_eqM); fail "rdd"; fail "rdd"; fail "pl"; fail "pl")
  | ((with_reducible apply rd_neM); fail "rdd"; fail "rdd"; fail "pl"; fail "pl")
  | (with_reducible apply rd_isN)
  | (with_reducible apply rd_notN)
  | ((with_reducible apply rd_catN); fail "rdd"; fail "rdd"; fail "om")
  | ((with_reducible apply rd_rep); fail "rdd"; fail "om"; fail "om"; fail "om")
  | (with_reducible apply rd_notInX)
  | ((with_reducible apply rd_addTx); fail "tx"; fail "tx"; fail "ll"; fail "ll")
  | (with_reducible apply rd_inC)
  | (with_reducible apply rd_notInC)
  | ((with_reducible apply rd_mulT); fail "tl"; fail "tl")
  | fail "stuck")
local macro_rules | `(tactic| fail "k1") => `(tactic| first
  | ((with_reducible apply rd_slL); (first | exact Or.inl rfl | exact Or.inr rfl))
  | ((with_reducible apply rd_slm); exact rfl)
  | (with_reducible apply rd_neg)
  | ((with_reducible apply rd_slTx); fail "tx"; fail "ll")
  | fail "stuck")
local macro_rules | `(tactic| fail "kL") => `(tactic| first
  | ((with_reducible apply rl_len); (first | exact rfl | assumption))
  | ((with_reducible apply rl_lenm); exact rfl)
  | ((with_reducible apply rl_list); (first | exact rfl | assumption))
  | ((with_reducible apply rl_listm); exact rfl)
  | ((with_reducible apply rl_tup); (first | exact rfl | assumption))
  | ((with_reducible apply rl_tupm); exact rfl)
  | (with_reducible apply rl_int)
  | (with_reducible apply rl_intb)
  | (with_reducible apply rl_max2)
  | (with_reducible apply rl_min2)
  | ((with_reducible apply rl_isi); exact rfl; exact rfl)
  | ((with_reducible apply rl_isim); exact rfl; exact rfl)
  | ((with_reducible apply rl_lenTx); fail "tx"; fail "ll")
  | ((with_reducible apply rl_minN); fail "rdd"; fail "om")
  | (with_reducible apply rl_allM)
  | ((with_reducible apply rl_strN); fail "om")
  | fail "stuck")
local macro_rules | `(tactic| fail "kLM") => `(tactic| first
  | ((with_reducible apply rlm_list); (first | exact rfl | assumption))
  | ((with_reducible apply rlm_listm); exact rfl)
  | fail "stuck")
local macro_rules | `(tactic| fail "kRM") => `(tactic| first
  | (refine rm_append (by fail "fz") rfl (by first | (fail "lt") | (simp only [nt_len, List.length_map, List.length_range]; omega) | omega) ?_)
  | (refine rm_insert (by fail "fz") rfl (by simp only [nt_len, List.length_map]; omega) (by omega) (by simp only [nt_len, List.length_map]; omega) ?_)
  | fail "stuck")
local macro_rules | `(tactic| fail "retN") => `(tactic| ((try dsimp only); refine ⟨_, _, _, rfl, by fail "lt", rfl, ?_⟩; first | dsimp only [FinU] | dsimp only [FinU, List.cons_append, List.nil_append]))
local macro_rules | `(tactic| fail "kO") => `(tactic| first
  | (with_reducible apply eo_none)
  | (with_reducible apply eo_some)
  | fail "stuck")
local macro_rules | `(tactic| fail "kG") => `(tactic| first
  | ((with_reducible apply eg_name); fail "norm")
  | ((with_reducible apply eg_move); exact rfl; exact rfl; fail "lt"; fail "norm")
  | ((with_reducible apply eg_tup); exact rfl)
  | (with_reducible refine eg_sub (by fail "fz") ?_)
  | ((with_reducible apply eg_lst); exact rfl)
  | fail "stuck")
local macro_rules | `(tactic| fail "kGs") => `(tactic| first
  | (with_reducible apply egs_cons)
  | (with_reducible apply egs_nil)
  | fail "stuck")
local macro_rules | `(tactic| fail "kI") => `(tactic| first
  | (with_reducible apply ei_row)
  | (with_reducible apply ei_list)
  | (with_reducible apply ei_tup)
  | (with_reducible apply ei_range1)
  | (with_reducible apply ei_range2)
  | (with_reducible apply ei_str)
  | (with_reducible apply ei_enumS)
  | (with_reducible apply ei_enumX)
  | (with_reducible apply ei_enumK)
  | (with_reducible apply ei_zipT)
  | fail "stuck")
local macro_rules | `(tactic| fail "kS") => `(tactic| first
  | (with_reducible apply es_seq)
  | ((with_reducible apply es_asgM); exact rfl)
  | (with_reducible apply es_asg)
  | (with_reducible apply es_ret)
  | (with_reducible apply es_if)
  | (with_reducible apply es_dropE)
  | (with_reducible apply es_next)
  | (with_reducible apply es_break)
  | (with_reducible apply es_cont)
  | (with_reducible apply es_retN)
  | (with_reducible apply es_fldN)
  | fail "stuck")
/-! what is left: choices, splits -/
local macro_rules | `(tactic| fail "dA") => `(tactic| first
  | (refine spl_t rfl ?_) | (refine spl_f rfl ?_)
  | ((with_reducible apply spl_neS); fail "pl") | ((with_reducible apply spl_eqS); fail "pl")
  | ((with_reducible apply spl_dt); omega) | ((with_reducible apply spl_df); omega)
  | ((with_reducible apply spl_ndt); omega) | ((with_reducible apply spl_ndf); omega)
  | (refine ⟨ty_mu (by exact rfl), ?_⟩)
  | (refine ⟨ty_lst, ?_⟩)
  | fail "stuck")
local macro_rules | `(tactic| fail "om") => `(tactic| first | omega | (simp only [List.length_append, txs_len, nt_len, List.length_range, List.length_map, List.length_cons, List.length_nil, List.length_replicate, rgT_len, Int.toNat_natCast]; omega))
local macro_rules | `(tactic| fail "dO") => `(tactic| first | (refine Or.inl ⟨_, rfl, by fail "ll", ?_⟩) | (refine Or.inr ⟨_, rfl, by fail "om", ?_⟩))
local macro_rules | `(tactic| fail "kJ") => `(tactic| first | (with_reducible apply ej_cons) | (with_reducible apply ej_nil) | fail "stuck")
local macro_rules | `(tactic| fail "dE") => `(tactic| first
  | (refine ⟨_, _, rfl, rfl, by fail "om", by fail "om", ?_⟩)
  | (refine ⟨_, _, rfl, by fail "tx", by fail "ll", ?_⟩)
  | (refine ⟨_, _, rfl, by fail "tx", ?_⟩)
  | (refine ⟨_, _, _, _, rfl, by fail "fz", by first | exact rfl | assumption, ?_⟩)
  | (refine ⟨_, rfl, by fail "om", by fail "om", ?_⟩)
  | (refine ⟨_, rfl, ?_⟩)
  | (refine ⟨_, _, by fail "fzl", by (exact Nat.le_of_ble_eq_true rfl), ?_⟩)
  | (refine ⟨_, _, _, by fail "fz", rfl, ?_⟩)
  | (refine ⟨_, _, _, by fail "fz", by assumption, ?_⟩)
  | (refine ⟨_, _, _, by fail "fz", Or.inl rfl, ?_⟩)
  | (refine ⟨_, _, _, by fail "fz", Or.inr rfl, ?_⟩)
  | (refine ⟨_, by fail "lt", by fail "norm", ?_⟩)
  | (refine ⟨_, _, by fail "fz", ?_⟩)
  | (refine ⟨_, _, _, _, _, _, _, rfl, rfl, rfl, rfl, rfl, by fail "lt", by fail "norm", ?_⟩)
  | (refine ⟨_, Or.inl rfl, ?_⟩)
  | (refine ⟨_, Or.inr ⟨_, _, rfl, rfl⟩, ?_⟩)
  | fail "fld"
  | fail "fldN"
  | (refine ⟨_, _, rfl, ⟨by fail "om", by fail "om", by fail "om", by fail "om"⟩, ?_⟩)
  | (refine ⟨_, _, rfl, ?_⟩)
  | fail "stuck")
/-! the end of a def; what a comprehension asks -/
local macro_rules | `(tactic| fail "ret") => `(tactic| first | (refine ⟨_, _, by fail "fz", ?_⟩; dsimp only [FinU]) | dsimp only [FinU])
local macro_rules | `(tactic| fail "gok") => `(tactic| first | exact gok_name (by decide) | exact gok_tup (gsok_cons gmono_name (gok_name (by decide)) (gsok_cons gmono_name (gok_name (by decide)) gsok_nil)) | exact gok_tup (gsok_cons gmono_name (gok_name (by decide)) (gsok_cons gmono_name (gok_name (by decide)) (gsok_cons gmono_name (gok_name (by decide)) gsok_nil))))
local macro_rules | `(tactic| fail "start") => `(tactic| first | refine es_norm (by fail "norm") ?_ | refine eg_norm (by fail "norm") ?_)
local macro_rules | `(tactic| fail "end") => `(tactic| (refine ⟨_, by fail "fz", by fail "kps"⟩))
local macro_rules | `(tactic| fail "s") => `(tactic| first
  | ((guard_target = EvE _ _ _ _); fail "kE")
  | ((guard_target = EvS _ _ _ _); fail "kS")
  | ((guard_target = Rd2 _ _ _ _ _ _); fail "k2")
  | ((guard_target = EvA _ _ _ _); fail "kA")
  | ((guard_target = EvG _ _ _ _ _); fail "kG")
  | ((guard_target = EvT _ _ _ _); fail "kT")
  | ((guard_target = RdL _ _ _ _ _); fail "kL")
  | ((guard_target = EvM _ _ _ _); fail "kM")
  | ((guard_target = EvI _ _ _ _); fail "kI")
  | ((guard_target = EvGs _ _ _ _ _); fail "kGs")
  | ((guard_target = RdM _ _ _ _ _ _); fail "kRM")
  | ((guard_target = RdLM _ _ _ _ _); fail "kLM")
  | ((guard_target = EvO _ _ _ _); fail "kO")
  | ((guard_target = Rd1 _ _ _ _ _); fail "k1")
  | ((guard_target = Exists _); fail "dE")
  | ((guard_target = And _ _); fail "dA")
  | ((guard_target = EvJ _ _ _ _ _); fail "kJ")
  | ((guard_target = Or _ _); fail "dO")
  | fail "stuck")
local macro_rules | `(tactic| fail "go") => `(tactic| repeat' fail "s")
local macro_rules | `(tactic| fail "call") => `(tactic| refine spe_W (by fail "args") (by first | decide | simp) ?_)
local macro_rules | `(tactic| fail "callN") => `(tactic| refine spe_N (by fail "args") (by first | decide | simp) ?_)
local macro_rules | `(tactic| fail "app") => `(tactic| (refine rm_append (by fail "fz") rfl (by first | (fail "lt") | (simp only [nt_len, List.length_map]; omega) | omega) ?_; refine ⟨_, by fail "lt", by fail "norm", ?_⟩))
local macro_rules | `(tactic| fail "take") => `(tactic| refine spe_take rfl (by omega) (by omega) (fun _ _ => ?_))

local macro_rules | `(tactic| fail "nw") => `(tactic| ((try simp only [puts, List.set_cons_zero, List.set_cons_succ]); fail "wks"))
local macro_rules | `(tactic| fail "side") => `(tactic| first | exact rfl | assumption | omega | (simp only [List.length_append, List.length_cons, List.length_nil, List.length_map, nt_len, rgT_len, List.length_replicate]; omega) | exact mem_snoc (by assumption) (by first | assumption | omega | exact ⟨by first | assumption | omega, by first | assumption | omega⟩) | decide | (simp; done))
local macro_rules | `(tactic| fail "cnd") => `(tactic| repeat' (first | (guard_target = And _ _; refine And.intro ?_ ?_) | fail "side"))
local macro_rules | `(tactic| fail "callS") => `(tactic| (guard_target = SpE _ _ _ _ _ _); refine spe_WS (by fail "args") (by first | decide | simp) ?_)
local macro_rules | `(tactic| fail "callNS") => `(tactic| (guard_target = SpE _ _ _ _ _ _); refine spe_NS (by fail "args") (by first | decide | simp) ?_)
local macro_rules | `(tactic| fail "un") => `(tactic| with_reducible apply Stop.mk)
local macro_rules | `(tactic| fail "gg") => `(tactic| repeat' (first | fail "s" | ((guard_target = SpE _ (spW _ _ _) _ _ _ _); fail "callS"; fail "wp"; fail "un") | ((guard_target = SpE _ (spCellv _) _ _ _ _); refine spe_cell (by omega) (by omega) fun _ => ?_) | ((guard_target = SpE _ spFeed _ _ _ _); refine spe_feed fun _ => ?_)))
local macro_rules | `(tactic| fail "mapeq") => `(tactic| first | exact rfl | exact word_items | exact nums_str _ | exact tx_items _ | exact rg0 | (rw [rg0]; exact congrArg (fun k => nt (List.range k)) (by omega)) | exact cutT_map | (rw [rg0]; exact rfl) | (simp only [nt_len, List.length_map, Int.toNat_natCast]; exact rg0) | (rw [rg0]; simp only [nt_len, List.length_map, Int.toNat_natCast]; exact rfl))
local macro_rules | `(tactic| fail "wp2") => `(tactic| repeat (first | ((guard_target = Exists _); apply Exists.intro) | ((guard_target = And _ _); refine And.intro (by fail "side") ?_)))
local macro_rules | `(tactic| fail "wp") => `(tactic| first | (apply Exists.intro; fail "wp2") | (refine And.intro (by fail "side") ?_; fail "wp2") | fail "wp stuck")
structure RI where
  h : Int
  s : List Int
  l : List (List Int)
def RI.N (x : RI) : Int := 1 * 2 ^ x.h.toNat
def hOk (h : Int) : Bool := decide (1 ≤ h ∧ h ≤ 4)
def sOk (xs : List Int) (m : Int) : Bool := decide (1 ≤ xs.length ∧ xs.length ≤ 16) && xs.all fun x => decide (0 ≤ x ∧ x < m)
def rOk (xs : List Int) (m : Int) : Bool := decide ((xs.length : Int) = m - 1) && xs.all fun x => decide (x = 0 ∨ x = 1)
def lOk (x : RI) : Bool := decide (x.l.length = x.s.length) && x.l.all fun r => rOk r x.N
def fieldI (x : RI) : Option Str := if hOk x.h = false then some "height" else if sOk x.s x.N = false then some "seats" else if lOk x = false then some "leanings" else none
theorem all_get {f : List Int → Bool} {l : List (List Int)} : l.all f = (List.range l.length).all fun i => f (l.getD i []) := by
  rw [Bool.eq_iff_iff, List.all_eq_true, List.all_eq_true]
  constructor
  · intro h i hi
    obtain ⟨row, h1⟩ := get_of_lt (xs := l) (i := i) (List.mem_range.mp hi)
    rw [List.getD_eq_getElem?_getD, h1]
    exact h _ (List.mem_of_getElem? h1)
  · intro h row hr
    obtain ⟨i, h1⟩ := List.getElem?_of_mem hr
    have := h i (List.mem_range.mpr (lt_of_get h1))
    rw [List.getD_eq_getElem?_getD, h1] at this
    exact this
structure RI.sm (x : RI) : Prop where
  s : x.s.length ≤ 1000
  l : x.l.length ≤ 1000
  r : ∀ row ∈ x.l, row.length ≤ 1000
@[reducible] def crewI (C : Addr) (x : RI) : T := .ins C [("height", .int x.h), ("seats", .tup (x.s.map T.int)), ("leanings", .tup (x.l.map fun row => .tup (row.map T.int)))]
@[reducible] def rowsI (x : RI) : T := .lst [.int x.h, .lst (x.s.map T.int), .lst (x.l.map fun row => .lst (row.map T.int))]
def wp_is_height : WpT := fun ts Φ _ => ∃ z : Int, ts = [.int z] ∧ Φ (.bl (hOk z)) []
def wp_are_seats : WpT := fun ts Φ _ => ∃ (s : T) (xs : List Int) (m : Int), ts = [s, .int m] ∧ s.row = some (xs.map T.int) ∧ xs.length ≤ 1000 ∧ Φ (.bl (sOk xs m)) []
def wp_are_leanings : WpT := fun ts Φ _ => ∃ (s : T) (xs : List Int) (m : Int), ts = [s, .int m] ∧ s.row = some (xs.map T.int) ∧ xs.length ≤ 1000 ∧ Φ (.bl (rOk xs m)) []
def wp_crew (C B : Addr) : WpT := fun ts Φ Ψ => ∃ (x : RI) (s l : T) (ls : List T), ts = [.ins C [], .int x.h, s, l] ∧ x.sm ∧ s.row = some (x.s.map T.int) ∧ l.row = some ls ∧ ls.length = x.l.length ∧
  (∀ (i : Nat) t, ls[i]? = some t → t.row = some ((x.l.getD i []).map T.int)) ∧ (∀ f, fieldI x = some f → Ψ ⟨B, [("field", .str f)]⟩) ∧ (fieldI x = none → Φ .non [crewI C x])
def wp_leaves (C : Addr) : WpT := fun ts Φ _ => ∃ (x : RI), ts = [crewI C x] ∧ hOk x.h = true ∧ Φ (.int x.N) []
def wp_workers (C : Addr) : WpT := fun ts Φ _ => ∃ (x : RI), ts = [crewI C x] ∧ x.sm ∧ Φ (.int (x.s.length : Nat)) []
def wp_law_whole : WpT := fun ts Φ _ => ∃ z : Int, ts = [.int z] ∧ Φ (.bl true) []
def wp_crew_eq (C : Addr) : WpT := fun ts Φ _ => ∃ r s : RI, ts = [crewI C r, crewI C s] ∧ r.sm ∧ s.sm ∧ ∀ b : Bool, (b = true ↔ r = s) → Φ (.bl b) []
section
variable {P : Program} {w : World} {K : PySem.W.Frag} {mg : Str → Option Value} {base : Heap}
theorem ok_BadCrew_init {f CBadCrew : Addr} {fd : FuncData} {k : Nat} (F : Fun K "__init__" "BadCrew.__init__" s_BadCrew_init f fd) (T : OexF K CBadCrew ["field"]) : FnOk P w K mg base CX0 (k + 1) f fd P_BadCrew_init (spOI CBadCrew ["field"]) := by
  refine F.ok sc_BadCrew_init (fun vs H Q E h => ?_) (fun cdv A outer s H vs Q E hr h => ⟨_, (pss_one (ps_ost (pv 0) (pv 1))), oi1 T h⟩)
  obtain ⟨_, xs, rfl, hl, _⟩ := h
  simpa using hl
theorem ok_law_whole {f : Addr} {fd : FuncData} {k : Nat} (F : Fun K "_law_whole" "_law_whole" s_law_whole f fd) (misinstance : mg "isinstance" = none) (mbool : mg "bool" = none) (mint : mg "int" = none) : FnOk P w K mg base CX0 (k + 1) f fd P_law_whole (spW K [.pu] wp_law_whole) := by
  refine F.ok sc_law_whole (fun vs H Q E h => len_W rfl h) (fun cdv A outer s H vs Q E hr h => ⟨_, (pss_one (ps_ret (pe_and (pe_callB (r := rIsi K) call_isi (by rfl) misinstance (by decide +kernel) (pa_cons (pv 0) (pa_cons (pe_bltn (v := .ty "int") (by rfl) mint (by decide +kernel) rfl) pa_nil))) (pe_one (pe_not (pe_callB (r := rIsi K) call_isi (by rfl) misinstance (by decide +kernel) (pa_cons (pv 0) (pa_cons (pe_bltn (v := .ty "bool") (by rfl) mbool (by decide +kernel) rfl) pa_nil)))))))), ?_⟩)
  refine run_W (n := 1) (rest := []) rfl (by fail "blank") rfl (fun ts as Φ Ψ hts has w => ?_) h
  obtain rfl := as0 has
  -- slots: 0 value
  obtain ⟨z, rfl, q⟩ := w
  fail "start"
  fail "gg"
  fail "ret"
  exact q
theorem ok_is_height {f : Addr} {fd : FuncData} {k : Nat} (F : Fun K "_is_height" "_is_height" s_is_height f fd) {tMOST_HEIGHT : Tok} (mMOST_HEIGHT : mg "MOST_HEIGHT" = some (.int 4 tMOST_HEIGHT)) : FnOk P w K mg base CX0 (k + 1) f fd P_is_height (spW K [.pu] wp_is_height) := by
  refine F.ok sc_is_height (fun vs H Q E h => len_W rfl h) (fun cdv A outer s H vs Q E hr h => ⟨_, (pss_one (ps_ret (pe_chain op_le op_le pe_int (pv 0) (pe_glob (v := .int 4) (by rfl) mMOST_HEIGHT ⟨_, rfl⟩)))), ?_⟩)
  refine run_W (n := 1) (rest := []) rfl (by fail "blank") rfl (fun ts as Φ Ψ hts has w => ?_) h
  obtain rfl := as0 has
  -- slots: 0 height
  obtain ⟨z, rfl, q⟩ := w
  fail "start"
  fail "gg"
  refine spl_d (fun c => ?_) (fun c => ?_)
  · fail "gg"
    fail "ret"
    refine bl_e ?_ q
    exact decide_eq_decide.mpr ⟨fun h => ⟨c, h⟩, fun h => h.2⟩
  · fail "ret"
    exact bl_e (decide_eq_false (fun h => c h.1)).symm q
theorem ok_are_seats {f : Addr} {fd : FuncData} {k : Nat} (F : Fun K "_are_seats" "_are_seats" s_are_seats f fd) (mall : mg "all" = none) (mlen : mg "len" = none) {tMOST_WORKERS : Tok} (mMOST_WORKERS : mg "MOST_WORKERS" = some (.int 16 tMOST_WORKERS)) : FnOk P w K mg base CX0 (k + 1) f fd P_are_seats (spW K [.pu, .pu] wp_are_seats) := by
  refine F.ok sc_are_seats (fun vs H Q E h => len_W rfl h) (fun cdv A outer s H vs Q E hr h => ⟨_, (pss_one (ps_ret (pe_and (pe_chain op_le op_le pe_int (pe_callB (r := rLenS K) call_lenK (by rfl) mlen (by decide +kernel) (pa_cons (pv 0) pa_nil)) (pe_glob (v := .int 16) (by rfl) mMOST_WORKERS ⟨_, rfl⟩)) (pe_one (pe_callB (r := rAll K) (cr_all rfl) (by rfl) mall (by decide +kernel) (pa_cons (pe_lcK (vs := [2]) (pe_lc (own := [("seat", 2)]) (g := (gName 2)) (tt := tYes) rfl sc_are_seats.nd (pi_seqK (K := K) (pv 0)) (blkOk_by (N := N_are_seats) (sc := defScope s_are_seats) (by decide +kernel)) (fun _ _ _ _ _ => (pg_name (i := 2) sc_are_seats.nd rfl (Or.inl rfl))) (fun _ _ _ _ _ => pts_nil) (fun _ _ _ _ _ => (pe_chain op_le op_lt pe_int (pv 2) (pv 1))))) pa_nil)))))), ?_⟩)
  refine run_W (n := 3) (rest := [.no]) rfl (by fail "blank") rfl (fun ts as Φ Ψ hts has w => ?_) h
  obtain rfl := as0 has
  -- slots: 0 seats 1 leaves 2 seat
  obtain ⟨s, xs, m, rfl, hs, hl, q⟩ := w
  have ln : (xs.map T.int).length = xs.length := List.length_map ..
  fail "start"
  fail "gg"
  rw [ln]
  refine ⟨fun c => ?_, fun c => ?_⟩
  · have c : 1 ≤ xs.length := by have := of_decide_eq_true c; omega
    fail "gg"
    refine ⟨fun c2 => ?_, fun c2 => ?_⟩
    · have c2 : xs.length ≤ 16 := by have := of_decide_eq_true c2; omega
      have e : sOk xs m = xs.all fun x => decide (0 ≤ x ∧ x < m) := by unfold sOk; rw [decide_eq_true ⟨c, c2⟩]; rfl
      rw [e] at q
      fail "gg"
      refine ev_map (xs := xs) (h := T.int) (f := fun x => T.bl (decide (0 ≤ x ∧ x < m))) (by fail "gok") ?_
      fail "gg"
      refine ⟨by fail "lt", by fail "mapeq", by fail "om", fun x hx => ?_, ?_⟩
      · fail "start"
        fail "gg"
        refine ⟨fun d => ?_, fun d => ?_⟩
        · have d : 0 ≤ x := of_decide_eq_true d
          rw [show decide (0 ≤ x ∧ x < m) = decide (x < m) from decide_eq_decide.mpr ⟨fun h => h.2, fun h => ⟨d, h⟩⟩]
          fail "gg"
          fail "end"
        · have d : ¬ 0 ≤ x := of_decide_eq_false d
          rw [show decide (0 ≤ x ∧ x < m) = false from decide_eq_false fun h => d h.1]
          fail "gg"
          fail "end"
      fail "gg"
      fail "ret"
      exact q
    · have c2 : ¬ xs.length ≤ 16 := by have := of_decide_eq_false c2; omega
      have e : sOk xs m = false := by unfold sOk; rw [decide_eq_false fun h => c2 h.2]; rfl
      rw [e] at q
      fail "gg"
      fail "ret"
      exact q
  · have c : ¬ 1 ≤ xs.length := by have := of_decide_eq_false c; omega
    have e : sOk xs m = false := by unfold sOk; rw [decide_eq_false fun h => c h.1]; rfl
    rw [e] at q
    fail "gg"
    fail "ret"
    exact q
theorem ok_are_leanings {f : Addr} {fd : FuncData} {k : Nat} (F : Fun K "_are_leanings" "_are_leanings" s_are_leanings f fd) (mall : mg "all" = none) (mlen : mg "len" = none) : FnOk P w K mg base CX0 (k + 1) f fd P_are_leanings (spW K [.pu, .pu] wp_are_leanings) := by
  refine F.ok sc_are_leanings (fun vs H Q E h => len_W rfl h) (fun cdv A outer s H vs Q E hr h => ⟨_, (pss_one (ps_ret (pe_and (pe_cmpR op_eq (pe_callB (r := rLenS K) call_lenK (by rfl) mlen (by decide +kernel) (pa_cons (pv 0) pa_nil)) (pe_op op_sub (pv 1) pe_int) (nomark _)) (pe_one (pe_callB (r := rAll K) (cr_all rfl) (by rfl) mall (by decide +kernel) (pa_cons (pe_lcK (vs := [2]) (pe_lc (own := [("leaning", 2)]) (g := (gName 2)) (tt := tYes) rfl sc_are_leanings.nd (pi_seqK (K := K) (pv 0)) (blkOk_by (N := N_are_leanings) (sc := defScope s_are_leanings) (by decide +kernel)) (fun _ _ _ _ _ => (pg_name (i := 2) sc_are_leanings.nd rfl (Or.inl rfl))) (fun _ _ _ _ _ => pts_nil) (fun _ _ _ _ _ => (pe_cmpR (r := rInP K) (op_inP hr.units) (pv 2) (pe_tup (pa_cons pe_int (pa_cons pe_int pa_nil))) (by rfl))))) pa_nil)))))), ?_⟩)
  refine run_W (n := 3) (rest := [.no]) rfl (by fail "blank") rfl (fun ts as Φ Ψ hts has w => ?_) h
  obtain rfl := as0 has
  -- slots: 0 row 1 leaves 2 leaning
  obtain ⟨s, xs, m, rfl, hs, hl, q⟩ := w
  have ln : (xs.map T.int).length = xs.length := List.length_map ..
  fail "start"
  fail "gg"
  rw [ln]
  refine ⟨fun c => ?_, fun c => ?_⟩
  · have c : (xs.length : Int) = m - 1 := of_decide_eq_true c
    have e : rOk xs m = xs.all fun x => decide (x = 0 ∨ x = 1) := by unfold rOk; rw [decide_eq_true c]; rfl
    rw [e] at q
    fail "gg"
    refine ev_map (xs := xs) (h := T.int) (f := fun x => T.bl (decide (x = 0 ∨ x = 1))) (by fail "gok") ?_
    fail "gg"
    refine ⟨by fail "lt", by fail "mapeq", by fail "om", fun x hx => ?_, ?_⟩
    · fail "start"
      fail "gg"
      rw [show decide (x = 0 ∨ x = 1) = ([T.int 0, T.int 1].any fun y => T.eq y (T.int x)) from by
        rw [List.any_cons, List.any_cons, List.any_nil, eq_int, eq_int, Bool.or_false, Bool.eq_iff_iff, Bool.or_eq_true, decide_eq_true_eq, decide_eq_true_eq, decide_eq_true_eq]
        omega]
      fail "end"
    fail "gg"
    fail "ret"
    exact q
  · have c : ¬ (xs.length : Int) = m - 1 := of_decide_eq_false c
    have e : rOk xs m = false := by unfold rOk; rw [decide_eq_false c]; rfl
    rw [e] at q
    fail "gg"
    fail "ret"
    exact q
theorem ok_Crew_init {f CCrew CBadCrew : Addr} {fd : FuncData} {k : Nat} (F : Fun K "__init__" "Crew.__init__" s_Crew_init f fd) (O_is_height : Ok P w K mg base k "_is_height" P_is_height (spW K [.pu] wp_is_height)) (X_BadCrew : OkX P w K mg base k CBadCrew "BadCrew" P_BadCrew_init ["field"]) (O_are_seats : Ok P w K mg base k "_are_seats" P_are_seats (spW K [.pu, .pu] wp_are_seats)) (mall : mg "all" = none) (O_are_leanings : Ok P w K mg base k "_are_leanings" P_are_leanings (spW K [.pu, .pu] wp_are_leanings)) (mlen : mg "len" = none) (mtuple : mg "tuple" = none) (TCrew : CTCrew K CCrew) : FnOk P w K mg base (L2.CX P w) (k + 1) f fd P_Crew_init (spW K [.mt, .pu, .pu, .pu] (wp_crew CCrew CBadCrew)) := by
  refine F.okX sc_Crew_init (fun vs H Q E h => len_W rfl h) (fun cdv A outer s H vs Q E hr h => ⟨_, (pss_cons (ps_if (pt_not (pt_val (pe_c O_is_height hr (by rfl) (pa_cons (pv 1) pa_nil))))
      (pss_one (ps_raiseX (ns := ["field"]) rfl (takes_of rfl rfl rfl rfl) X_BadCrew hr (by rfl) (pa_cons pe_str pa_nil)))
      pss_nil)
    (pss_cons (ps_set (i := 4) sc_Crew_init.nd rfl (Or.inr rfl) (pe_op op_shl pe_int (pv 1)))
    (pss_cons (ps_if (pt_not (pt_val (pe_c O_are_seats hr (by rfl) (pa_cons (pv 2) (pa_cons (pv 4) pa_nil)))))
      (pss_one (ps_raiseX (ns := ["field"]) rfl (takes_of rfl rfl rfl rfl) X_BadCrew hr (by rfl) (pa_cons pe_str pa_nil)))
      pss_nil)
    (pss_cons (ps_if (PW.pt (pw_or (pt_cmpR op_ne (pe_callB (r := rLenS K) call_lenK (by rfl) mlen (by decide +kernel) (pa_cons (pv 3) pa_nil)) (pe_callB (r := rLenS K) call_lenK (by rfl) mlen (by decide +kernel) (pa_cons (pv 2) pa_nil)) (nomark _)) (pw_or1 (pt_not (pt_val (pe_callB (r := rAll K) (cr_all rfl) (by rfl) mall (by decide +kernel) (pa_cons (pe_lcK (vs := [5]) (pe_lc (own := [("row", 5)]) (g := (gName 5)) (tt := tYes) rfl sc_Crew_init.nd (pi_seqK (K := K) (pv 3)) (blkOk_by (N := N_Crew_init) (sc := defScope s_Crew_init) (by decide +kernel)) (fun _ _ _ _ _ => (pg_name (i := 5) sc_Crew_init.nd rfl (Or.inl rfl))) (fun _ _ _ _ _ => pts_nil) (fun _ _ _ _ _ => (pe_c O_are_leanings hr (by rfl) (pa_cons (pv 5) (pa_cons (pv 4) pa_nil)))))) pa_nil)))))))
      (pss_one (ps_raiseX (ns := ["field"]) rfl (takes_of rfl rfl rfl rfl) X_BadCrew hr (by rfl) (pa_cons pe_str pa_nil)))
      pss_nil)
    (pss_cons (ps_fldK (K := K) (pv 0) (pv 1))
    (pss_cons (ps_fldK (K := K) (pv 0) (pe_callTy (r := rTupOf K) call_tupleK (by rfl) mtuple (by decide +kernel) (pa_cons (pv 2) pa_nil)))
    (pss_one (ps_fldK (K := K) (pv 0) (pe_callTy (r := rTupOf K) call_tupleK (by rfl) mtuple (by decide +kernel) (pa_cons (pe_lcK (vs := [5]) (pe_lc (own := [("row", 5)]) (g := (gName 5)) (tt := tYes) rfl sc_Crew_init.nd (pi_seqK (K := K) (pv 3)) (blkOk_by (N := N_Crew_init) (sc := defScope s_Crew_init) (by decide +kernel)) (fun _ _ _ _ _ => (pg_name (i := 5) sc_Crew_init.nd rfl (Or.inl rfl))) (fun _ _ _ _ _ => pts_nil) (fun _ _ _ _ _ => (pe_callTy (r := rTupOf K) call_tupleK (by rfl) mtuple (by decide +kernel) (pa_cons (pv 5) pa_nil))))) pa_nil)))))))))), ?_⟩)
  refine run_W (n := 6) (rest := [.no, .no]) rfl (by fail "blank") rfl (fun ts as Φ Ψ hts has w => ?_) h
  obtain ⟨a0, rfl⟩ := as1 has
  -- slots: 0 self 1 height 2 seats 3 leanings 4 leaves 5 row
  obtain ⟨x, s, l, ls, e, sm, hs, hl, ll, hr, e1, q⟩ := w
  cases e
  have ln : (x.s.map T.int).length = x.s.length := List.length_map ..
  have sl := sm.l
  have ss := sm.s
  fail "start"
  fail "gg"
  refine ⟨fun c => ?_, fun c => ?_⟩
  · have c : hOk x.h = false := by simpa using c
    fail "gg"
    refine es_raise ?_
    fail "gg"
    refine ⟨_, _, by fail "fzl", rfl, by decide, ?_⟩
    exact e1 _ (by unfold fieldI; rw [if_pos c])
  have c : hOk x.h = true := by simpa using c
  have hh : 1 ≤ x.h ∧ x.h ≤ 4 := of_decide_eq_true c
  fail "gg"
  rw [show (1 : Int) * 2 ^ x.h.toNat = x.N from rfl]
  refine ⟨fun c2 => ?_, fun c2 => ?_⟩
  · have c2 : sOk x.s x.N = false := by simpa using c2
    fail "gg"
    refine es_raise ?_
    fail "gg"
    refine ⟨_, _, by fail "fzl", rfl, by decide, ?_⟩
    exact e1 _ (by unfold fieldI; rw [if_neg (by rw [c]; decide), if_pos c2])
  have c2 : sOk x.s x.N = true := by simpa using c2
  have bad : lOk x = false → fieldI x = some (Str.ofString "leanings") := fun h => by unfold fieldI; rw [if_neg (by rw [c]; decide), if_neg (by rw [c2]; decide), if_pos h]
  fail "gg"
  rw [ll, ln]
  refine ⟨fun c3 => ⟨fun _ => ?_, fun z => nomatch z⟩, fun c3 => ?_⟩
  · have c3 : ¬ x.l.length = x.s.length := fun z => by rw [z] at c3; simp at c3
    fail "gg"
    refine es_raise ?_
    fail "gg"
    refine ⟨_, _, by fail "fzl", rfl, by decide, ?_⟩
    exact e1 _ (bad (by unfold lOk; rw [decide_eq_false c3]; rfl))
  have c3 : x.l.length = x.s.length := by
    have : (x.l.length : Int) = (x.s.length : Int) := by simpa using c3
    omega
  have eL : lOk x = (List.range ls.length).all fun i => rOk (x.l.getD i []) x.N := by
    unfold lOk
    rw [decide_eq_true c3, ll, Bool.true_and]
    exact all_get
  fail "gg"
  refine ev_lc (f := fun i => .bl (rOk (x.l.getD i []) x.N)) (by fail "gok") ?_
  fail "gg"
  refine ⟨by fail "lt", by omega, fun i t ht => ?_, ?_⟩
  · have hi := lt_of_get ht
    have hrow := hr i t ht
    have hsm : (x.l.getD i []).length ≤ 1000 := by
      obtain ⟨row, h1⟩ := get_of_lt (xs := x.l) (i := i) (by omega)
      rw [List.getD_eq_getElem?_getD, h1]
      exact sm.r _ (List.mem_of_getElem? h1)
    fail "start"
    fail "gg"
    fail "end"
  fail "gg"
  refine ⟨fun c4 => ?_, fun c4 => ?_⟩
  · have c4 : lOk x = false := by rw [eL]; simpa using c4
    fail "gg"
    refine es_raise ?_
    fail "gg"
    refine ⟨_, _, by fail "fzl", rfl, by decide, ?_⟩
    exact e1 _ (bad c4)
  have c4 : lOk x = true := by rw [eL]; simpa using c4
  have fin := q (by unfold fieldI; rw [if_neg (by rw [c]; decide), if_neg (by rw [c2]; decide), if_neg (by rw [c4]; decide)])
  fail "gg"
  refine ev_lc (f := fun i => .tup ((x.l.getD i []).map T.int)) (by fail "gok") ?_
  fail "gg"
  refine ⟨by fail "lt", by omega, fun i t ht => ?_, ?_⟩
  · have hrow := hr i t ht
    fail "start"
    fail "gg"
    fail "end"
  have e : (List.range ls.length).map (fun i => T.tup ((x.l.getD i []).map T.int)) = x.l.map fun row => T.tup (row.map T.int) := by
    rw [ll]
    exact map_range_get fun i x hx => by rw [List.getD_eq_getElem?_getD, hx]; rfl
  rw [e]
  fail "gg"
  fail "ret"
  exact ⟨_, rfl, fin⟩
theorem ok_Crew_leaves {f CCrew : Addr} {fd : FuncData} {k : Nat} (F : Fun K "leaves" "Crew.leaves" s_Crew_leaves f fd) (TCrew : CTCrew K CCrew) : FnOk P w K mg base CX0 (k + 1) f fd P_Crew_leaves (spW K [.pu] (wp_leaves CCrew)) := by
  refine F.ok sc_Crew_leaves (fun vs H Q E h => len_W rfl h) (fun cdv A outer s H vs Q E hr h => ⟨_, (pss_one (ps_ret (pe_op op_shl pe_int (pe_fldK (K := K) (pv 0))))), ?_⟩)
  refine run_W (n := 1) (rest := []) rfl (by fail "blank") rfl (fun ts as Φ Ψ hts has w => ?_) h
  obtain rfl := as0 has
  -- slots: 0 self
  obtain ⟨x, rfl, hh, q⟩ := w
  have hh : 1 ≤ x.h ∧ x.h ≤ 4 := of_decide_eq_true hh
  fail "start"
  fail "gg"
  fail "ret"
  exact q
theorem ok_Crew_workers {f CCrew : Addr} {fd : FuncData} {k : Nat} (F : Fun K "workers" "Crew.workers" s_Crew_workers f fd) (mlen : mg "len" = none) (TCrew : CTCrew K CCrew) : FnOk P w K mg base CX0 (k + 1) f fd P_Crew_workers (spW K [.pu] (wp_workers CCrew)) := by
  refine F.ok sc_Crew_workers (fun vs H Q E h => len_W rfl h) (fun cdv A outer s H vs Q E hr h => ⟨_, (pss_one (ps_ret (pe_callB (r := rLenS K) call_lenK (by rfl) mlen (by decide +kernel) (pa_cons (pe_fldK (K := K) (pv 0)) pa_nil)))), ?_⟩)
  refine run_W (n := 1) (rest := []) rfl (by fail "blank") rfl (fun ts as Φ Ψ hts has w => ?_) h
  obtain rfl := as0 has
  -- slots: 0 self
  obtain ⟨x, rfl, sm, q⟩ := w
  have := sm.s
  fail "start"
  fail "gg"
  fail "ret"
  rw [List.length_map]
  exact q
end
end K26
set_option maxHeartbeats 1000000
namespace K26
open PySem L2 Vk Tr
local macro_rules | `(tactic| fail "fld") => `(tactic| first
  | refine ⟨_, _, _, _, rfl, CTCrew.cl (by assumption), CTCrew.n_height (by assumption), fx_Crew_height, rfl, ?_⟩
  | refine ⟨_, _, _, _, rfl, CTCrew.cl (by assumption), CTCrew.n_seats (by assumption), fx_Crew_seats, rfl, ?_⟩
  | refine ⟨_, _, _, _, rfl, CTCrew.cl (by assumption), CTCrew.n_leanings (by assumption), fx_Crew_leanings, rfl, ?_⟩
  | fail "stuck")
local macro_rules | `(tactic| fail "fldN") => `(tactic| first
  | refine ⟨_, _, _, _, _, rfl, rfl, CTCrew.cl (by assumption), CTCrew.n_height (by assumption), fn_Crew_height, by fail "lt", by fail "lt", by fail "norm", ?_⟩
  | refine ⟨_, _, _, _, _, rfl, rfl, CTCrew.cl (by assumption), CTCrew.n_seats (by assumption), fn_Crew_seats, by fail "lt", by fail "lt", by fail "norm", ?_⟩
  | refine ⟨_, _, _, _, _, rfl, rfl, CTCrew.cl (by assumption), CTCrew.n_leanings (by assumption), fn_Crew_leanings, by fail "lt", by fail "lt", by fail "norm", ?_⟩
  | fail "stuck")
local macro_rules | `(tactic| fail "lt") => `(tactic| exact Nat.le_of_ble_eq_true rfl)
local macro_rules | `(tactic| fail "norm") => `(tactic| first | (simp only [puts, List.take_succ_cons, List.take_zero, List.take_nil, List.set_cons_zero, List.set_cons_succ, List.cons_append, List.nil_append, initU, wipeU, List.length_cons, List.length_nil, Nat.zero_add, Nat.reduceAdd]; done) | (simp only [puts, List.take_succ_cons, List.take_zero, List.take_nil, List.set_cons_zero, List.set_cons_succ, List.cons_append, List.nil_append, initU, wipeU, List.length_cons, List.length_nil, Nat.zero_add, Nat.reduceAdd]; exact rfl) | exact rfl)
local macro_rules | `(tactic| fail "pl") => `(tactic| first
  | exact pl_int | exact pl_str | exact pl_bl | exact pl_non | exact pl_nil
  | ((with_reducible refine pl_lst ?_); fail "pl") | ((with_reducible refine pl_tup ?_); fail "pl") | ((with_reducible refine pl_cl ?_); fail "pl")
  | exact pl_nt | exact pl_txs
  | ((with_reducible refine pl_cons ?_ ?_); (fail "pl"); (fail "pl"))
  | ((with_reducible refine pl_map fun _ _ => ?_); fail "pl")
  | assumption)
local macro_rules | `(tactic| fail "fz") => `(tactic| first | exact Fz.sh | exact Fz.new rfl (Nat.le_of_ble_eq_true rfl) | exact Fz.mu (by exact rfl) (by fail "norm"))
local macro_rules | `(tactic| fail "fzl") => `(tactic| first | exact FzL.nil | exact FzL.cons (by fail "fz") (by fail "fzl"))
local macro_rules | `(tactic| fail "kps") => `(tactic| first | exact Kps.z | exact Kps.nil | (refine Kps.skip rfl ?_; fail "kps") | (refine Kps.same ?_; fail "kps"))
local macro_rules | `(tactic| fail "wks") => `(tactic| first | exact Wks.nil | (refine Wks.cons .no ?_; fail "wks") | (refine Wks.cons .nm ?_; fail "wks") | ((with_reducible refine Wks.cons .same ?_); fail "wks") | (refine Wks.consE (by first | exact rfl | exact int_eq (by omega) | exact int_eq (by (repeat' split) <;> omega)) ?_; fail "wks") | (refine Wks.consM (by first | exact rfl | assumption) ?_; fail "wks") | (refine Wks.cons .same ?_; fail "wks"))
local macro_rules | `(tactic| fail "blank") => `(tactic| first | exact Blank.nil | (refine Blank.no ?_; fail "blank") | (refine Blank.nm ?_; fail "blank"))
local macro_rules | `(tactic| fail "args") => `(tactic| first | (with_reducible exact ArgR.nil) | ((with_reducible apply ArgR.pu); (fail "fz"); (fail "args")) | ((with_reducible apply ArgR.fe); (fail "args"); exact rfl) | ((with_reducible apply ArgR.mt); (fail "args"); exact rfl))
local macro_rules | `(tactic| fail "tx") => `(tactic| first | (with_reducible exact rfl) | (with_reducible exact tx_sp) | (with_reducible exact tx_nl) | (with_reducible exact tx_e) | (with_reducible exact tx_hd) | (with_reducible exact tx_01) | exact tx1 _ | exact txof _ | exact rfl)
local macro_rules | `(tactic| fail "ll") => `(tactic| first | omega | assumption | decide | (simp only [List.length_append, List.length_cons, List.length_nil, List.length_take, List.length_drop, List.length_map, List.length_replicate, List.length_range, List.length_reverse, tx_len]; omega) | (refine Nat.le_trans cutL_len ?_; fail "ll") | (refine Nat.le_trans (numL2 (by omega)) ?_; decide) | (refine lcat ?_ ?_ <;> fail "ll"))
local macro_rules | `(tactic| fail "tl") => `(tactic| first | assumption | omega | decide | (simp only [tx_len, tx_app, List.length_append, List.length_cons, List.length_nil]; omega) | (exact Nat.le_of_ble_eq_true rfl))
local macro_rules | `(tactic| fail "num") => `(tactic| first | omega | decide | exact Nat.le_of_ble_eq_true rfl)
/-! one step of an expression -/
local macro_rules | `(tactic| fail "rdd") => `(tactic| first | exact Or.inl rfl | exact Or.inr ⟨_, _, _, rfl, rfl, rfl⟩)
local macro_rules | `(tactic| fail "kE") => `(tactic| first
  | ((with_reducible apply ev_var); exact rfl; fail "lt")
  | (with_reducible apply ev_op)
  | ((with_reducible apply ev_c); (first | exact .int | exact .bl | exact .str | exact .non))
  | (with_reducible apply ev_call)
  | (with_reducible apply ev_cb)
  | ((with_reducible apply ev_varm); exact rfl; fail "lt")
  | ((with_reducible apply ev_varf); exact rfl; fail "lt")
  | (with_reducible apply ev_tup)
  | (with_reducible apply ev_lst)
  | (with_reducible apply ev_fldS)
  | (with_reducible apply ev_prop)
  | (with_reducible apply ev_bm)
  | (with_reducible apply ev_and)
  | (with_reducible apply ev_or)
  | (with_reducible apply ev_not)
  | (with_reducible apply ev_if)
  | (with_reducible apply ev_chain)
  | (with_reducible apply ev_un)
  | (with_reducible apply ev_sl)
  | (with_reducible apply ev_bm0)
  | (with_reducible apply ev_meth)
  | (with_reducible apply ev_make)
  | (with_reducible apply ev_ty)
  | (with_reducible apply ev_revL)
  | (with_reducible apply ev_joinTx)
  | (with_reducible apply ev_bits)
  | (with_reducible apply ev_callS)
  | (with_reducible apply ev_cref)
  | (with_reducible apply ev_xf)
  | (with_reducible apply ev_listRev)
  | (with_reducible apply ev_joined)
  | (with_reducible apply ev_fmt)
  | (with_reducible apply ev_split)
  | fail "stuck")
local macro_rules | `(tactic| fail "kM") => `(tactic| first
  | (with_reducible apply evm_lst)
  | (with_reducible apply evm_list)
  | ((with_reducible apply evm_any); fail "kE")
  | fail "stuck")
local macro_rules | `(tactic| fail "kA") => `(tactic| first
  | (with_reducible apply ea_cons)
  | (with_reducible apply ea_nil)
  | fail "stuck")
local macro_rules | `(tactic| fail "kT") => `(tactic| first
  | (with_reducible apply et_test)
  | (with_reducible apply et_b)
  | (with_reducible apply et_and)
  | (with_reducible apply et_or)
  | (with_reducible apply et_not)
  | (with_reducible apply et_yes)
  | fail "stuck")
local macro_rules | `(tactic| fail "kC") => `(tactic| first | exact Or.inl ⟨by omega, by omega⟩ | exact Or.inr ⟨by omega, by omega⟩ | exact Or.inl ⟨by decide, by decide⟩ | exact Or.inr ⟨by decide, by decide⟩ | exact ⟨by decide, by decide⟩ | exact ⟨by omega, by omega⟩ | exact ⟨by omega, by omega, by decide⟩ | (show _ ≠ _; omega) | (show (0 : Int) ≤ _; omega) | (show (_ : Int) < _; omega))
local macro_rules | `(tactic| fail "k2") => `(tactic| first
  | (with_reducible apply rd_ii)
  | (with_reducible apply rd_ib)
  | ((with_reducible apply rd_ix); (first | exact rfl | assumption); (first | ((with_reducible apply atI_ltd); assumption) | ((with_reducible apply atI0); exact rfl) | ((with_reducible apply atI1); exact rfl) | ((with_reducible apply atI2); exact rfl) | ((with_reducible apply atI3); exact rfl) | ((with_reducible apply atI4); exact rfl) | ((with_reducible apply atI_lean0); assumption) | ((with_reducible apply atI_map2); assumption) | ((with_reducible apply atI_two); assumption) | ((with_reducible apply atI_lean); assumption; assumption) | ((with_reducible apply atNk); omega) | ((with_reducible apply atN0); omega) | ((with_reducible apply atN1); omega) | ((with_reducible apply atN2); omega)))
  | ((with_reducible apply rd_ixm); exact rfl; (first | ((with_reducible apply atI_ltd); assumption) | ((with_reducible apply atI0); exact rfl) | ((with_reducible apply atI1); exact rfl) | ((with_reducible apply atI2); exact rfl) | ((with_reducible apply atI3); exact rfl) | ((with_reducible apply atI4); exact rfl) | ((with_reducible apply atI_lean0); assumption) | ((with_reducible apply atI_map2); assumption) | ((with_reducible apply atI_two); assumption) | ((with_reducible apply atI_lean); assumption; assumption) | ((with_reducible apply atNk); omega) | ((with_reducible apply atN0); omega) | ((with_reducible apply atN1); omega) | ((with_reducible apply atN2); omega)))
  | (with_reducible apply rd_eqi)
  | ((with_reducible apply rd_ic); fail "kC")
  | (with_reducible apply rd_nei)
  | ((with_reducible apply rd_eqTx); fail "tx"; fail "tx")
  | ((with_reducible apply rd_neTx); fail "tx"; fail "tx")
  | (with_reducible apply rd_eqs)
  | (with_reducible apply rd_nes)
  | ((with_reducible apply rd_eqP); fail "pl"; fail "pl")
  | ((with_reducible apply rd_neP); fail "pl"; fail "pl")
  | ((with_reducible apply rd_inTx); fail "tx")
  | ((with_reducible apply rd_notInTx); fail "tx")
  | ((with_reducible apply rd_inP); (first | exact rfl | assumption); fail "pl"; fail "pl")
  | ((with_reducible apply rd_notInP); (first | exact rfl | assumption); fail "pl"; fail "pl")
  | ((with_reducible apply rd_inM); exact rfl; fail "pl"; fail "pl")
  | ((with_reducible apply rd_notInM); exact rfl; fail "pl"; fail "pl")
  | ((with_reducible apply rd_eqM); fail "rdd"; fail "rdd"; fail "pl"; fail "pl")
  | ((with_reducible apply rd_neM); fail "rdd"; fail "rdd"; fail "pl"; fail "pl")
  | (with_reducible apply rd_isN)
  | (with_reducible apply rd_notN)
  | ((with_reducible apply rd_catN); fail "rdd"; fail "rdd"; fail "om")
  | ((with_reducible apply rd_rep); fail "rdd"; fail "om"; fail "om"; fail "om")
  | (with_reducible apply rd_notInX)
  | ((with_reducible apply rd_addTx); fail "tx"; fail "tx"; fail "ll"; fail "ll")
  | (with_reducible apply rd_inC)
  | (with_reducible apply rd_notInC)
  | ((with_reducible apply rd_mulT); fail "tl"; fail "tl")
  | fail "stuck")
local macro_rules | `(tactic| fail "k1") => `(tactic| first
  | ((with_reducible apply rd_slL); (first | exact Or.inl rfl | exact Or.inr rfl))
  | ((with_reducible apply rd_slm); exact rfl)
  | (with_reducible apply rd_neg)
  | ((with_reducible apply rd_slTx); fail "tx"; fail "ll")
  | fail "stuck")
local macro_rules | `(tactic| fail "kL") => `(tactic| first
  | ((with_reducible apply rl_len); (first | exact rfl | assumption))
  | ((with_reducible apply rl_lenm); exact rfl)
  | ((with_reducible apply rl_list); (first | exact rfl | assumption))
  | ((with_reducible apply rl_listm); exact rfl)
  | ((with_reducible apply rl_tup); (first | exact rfl | assumption))
  | ((with_reducible apply rl_tupm); exact rfl)
  | (with_reducible apply rl_int)
  | (with_reducible apply rl_intb)
  | (with_reducible apply rl_max2)
  | (with_reducible apply rl_min2)
  | ((with_reducible apply rl_isi); exact rfl; exact rfl)
  | ((with_reducible apply rl_isim); exact rfl; exact rfl)
  | ((with_reducible apply rl_lenTx); fail "tx"; fail "ll")
  | ((with_reducible apply rl_minN); fail "rdd"; fail "om")
  | (with_reducible apply rl_allM)
  | ((with_reducible apply rl_strN); fail "om")
  | fail "stuck")
local macro_rules | `(tactic| fail "kLM") => `(tactic| first
  | ((with_reducible apply rlm_list); (first | exact rfl | assumption))
  | ((with_reducible apply rlm_listm); exact rfl)
  | fail "stuck")
local macro_rules | `(tactic| fail "kRM") => `(tactic| first
  | (refine rm_append (by fail "fz") rfl (by first | (fail "lt") | (simp only [nt_len, List.length_map, List.length_range]; omega) | omega) ?_)
  | (refine rm_insert (by fail "fz") rfl (by simp only [nt_len, List.length_map]; omega) (by omega) (by simp only [nt_len, List.length_map]; omega) ?_)
  | fail "stuck")
local macro_rules | `(tactic| fail "retN") => `(tactic| ((try dsimp only); refine ⟨_, _, _, rfl, by fail "lt", rfl, ?_⟩; first | dsimp only [FinU] | dsimp only [FinU, List.cons_append, List.nil_append]))
local macro_rules | `(tactic| fail "kO") => `(tactic| first
  | (with_reducible apply eo_none)
  | (with_reducible apply eo_some)
  | fail "stuck")
local macro_rules | `(tactic| fail "kG") => `(tactic| first
  | ((with_reducible apply eg_name); fail "norm")
  | ((with_reducible apply eg_move); exact rfl; exact rfl; fail "lt"; fail "norm")
  | ((with_reducible apply eg_tup); exact rfl)
  | (with_reducible refine eg_sub (by fail "fz") ?_)
  | ((with_reducible apply eg_lst); exact rfl)
  | fail "stuck")
local macro_rules | `(tactic| fail "kGs") => `(tactic| first
  | (with_reducible apply egs_cons)
  | (with_reducible apply egs_nil)
  | fail "stuck")
local macro_rules | `(tactic| fail "kI") => `(tactic| first
  | (with_reducible apply ei_row)
  | (with_reducible apply ei_list)
  | (with_reducible apply ei_tup)
  | (with_reducible apply ei_range1)
  | (with_reducible apply ei_range2)
  | (with_reducible apply ei_str)
  | (with_reducible apply ei_enumS)
  | (with_reducible apply ei_enumX)
  | (with_reducible apply ei_enumK)
  | (with_reducible apply ei_zipT)
  | fail "stuck")
local macro_rules | `(tactic| fail "kS") => `(tactic| first
  | (with_reducible apply es_seq)
  | ((with_reducible apply es_asgM); exact rfl)
  | (with_reducible apply es_asg)
  | (with_reducible apply es_ret)
  | (with_reducible apply es_if)
  | (with_reducible apply es_dropE)
  | (with_reducible apply es_next)
  | (with_reducible apply es_break)
  | (with_reducible apply es_cont)
  | (with_reducible apply es_retN)
  | (with_reducible apply es_fldN)
  | fail "stuck")
/-! what is left: choices, splits -/
local macro_rules | `(tactic| fail "dA") => `(tactic| first
  | (refine spl_t rfl ?_) | (refine spl_f rfl ?_)
  | ((with_reducible apply spl_neS); fail "pl") | ((with_reducible apply spl_eqS); fail "pl")
  | ((with_reducible apply spl_dt); omega) | ((with_reducible apply spl_df); omega)
  | ((with_reducible apply spl_ndt); omega) | ((with_reducible apply spl_ndf); omega)
  | (refine ⟨ty_mu (by exact rfl), ?_⟩)
  | (refine ⟨ty_lst, ?_⟩)
  | fail "stuck")
local macro_rules | `(tactic| fail "om") => `(tactic| first | omega | (simp only [List.length_append, txs_len, nt_len, List.length_range, List.length_map, List.length_cons, List.length_nil, List.length_replicate, rgT_len, Int.toNat_natCast]; omega))
local macro_rules | `(tactic| fail "dO") => `(tactic| first | (refine Or.inl ⟨_, rfl, by fail "ll", ?_⟩) | (refine Or.inr ⟨_, rfl, by fail "om", ?_⟩))
local macro_rules | `(tactic| fail "kJ") => `(tactic| first | (with_reducible apply ej_cons) | (with_reducible apply ej_nil) | fail "stuck")
local macro_rules | `(tactic| fail "dE") => `(tactic| first
  | (refine ⟨_, _, rfl, rfl, by fail "om", by fail "om", ?_⟩)
  | (refine ⟨_, _, rfl, by fail "tx", by fail "ll", ?_⟩)
  | (refine ⟨_, _, rfl, by fail "tx", ?_⟩)
  | (refine ⟨_, _, _, _, rfl, by fail "fz", by first | exact rfl | assumption, ?_⟩)
  | (refine ⟨_, rfl, by fail "om", by fail "om", ?_⟩)
  | (refine ⟨_, rfl, ?_⟩)
  | (refine ⟨_, _, by fail "fzl", by (exact Nat.le_of_ble_eq_true rfl), ?_⟩)
  | (refine ⟨_, _, _, by fail "fz", rfl, ?_⟩)
  | (refine ⟨_, _, _, by fail "fz", by assumption, ?_⟩)
  | (refine ⟨_, _, _, by fail "fz", Or.inl rfl, ?_⟩)
  | (refine ⟨_, _, _, by fail "fz", Or.inr rfl, ?_⟩)
  | (refine ⟨_, by fail "lt", by fail "norm", ?_⟩)
  | (refine ⟨_, _, by fail "fz", ?_⟩)
  | (refine ⟨_, _, _, _, _, _, _, rfl, rfl, rfl, rfl, rfl, by fail "lt", by fail "norm", ?_⟩)
  | (refine ⟨_, Or.inl rfl, ?_⟩)
  | (refine ⟨_, Or.inr ⟨_, _, rfl, rfl⟩, ?_⟩)
  | fail "fld"
  | fail "fldN"
  | (refine ⟨_, _, rfl, ⟨by fail "om", by fail "om", by fail "om", by fail "om"⟩, ?_⟩)
  | (refine ⟨_, _, rfl, ?_⟩)
  | fail "stuck")
/-! the end of a def; what a comprehension asks -/
local macro_rules | `(tactic| fail "ret") => `(tactic| first | (refine ⟨_, _, by fail "fz", ?_⟩; dsimp only [FinU]) | dsimp only [FinU])
local macro_rules | `(tactic| fail "gok") => `(tactic| first | exact gok_name (by decide) | exact gok_tup (gsok_cons gmono_name (gok_name (by decide)) (gsok_cons gmono_name (gok_name (by decide)) gsok_nil)) | exact gok_tup (gsok_cons gmono_name (gok_name (by decide)) (gsok_cons gmono_name (gok_name (by decide)) (gsok_cons gmono_name (gok_name (by decide)) gsok_nil))))
local macro_rules | `(tactic| fail "start") => `(tactic| first | refine es_norm (by fail "norm") ?_ | refine eg_norm (by fail "norm") ?_)
local macro_rules | `(tactic| fail "end") => `(tactic| (refine ⟨_, by fail "fz", by fail "kps"⟩))
local macro_rules | `(tactic| fail "s") => `(tactic| first
  | ((guard_target = EvE _ _ _ _); fail "kE")
  | ((guard_target = EvS _ _ _ _); fail "kS")
  | ((guard_target = Rd2 _ _ _ _ _ _); fail "k2")
  | ((guard_target = EvA _ _ _ _); fail "kA")
  | ((guard_target = EvG _ _ _ _ _); fail "kG")
  | ((guard_target = EvT _ _ _ _); fail "kT")
  | ((guard_target = RdL _ _ _ _ _); fail "kL")
  | ((guard_target = EvM _ _ _ _); fail "kM")
  | ((guard_target = EvI _ _ _ _); fail "kI")
  | ((guard_target = EvGs _ _ _ _ _); fail "kGs")
  | ((guard_target = RdM _ _ _ _ _ _); fail "kRM")
  | ((guard_target = RdLM _ _ _ _ _); fail "kLM")
  | ((guard_target = EvO _ _ _ _); fail "kO")
  | ((guard_target = Rd1 _ _ _ _ _); fail "k1")
  | ((guard_target = Exists _); fail "dE")
  | ((guard_target = And _ _); fail "dA")
  | ((guard_target = EvJ _ _ _ _ _); fail "kJ")
  | ((guard_target = Or _ _); fail "dO")
  | fail "stuck")
local macro_rules | `(tactic| fail "go") => `(tactic| repeat' fail "s")
local macro_rules | `(tactic| fail "call") => `(tactic| refine spe_W (by fail "args") (by first | decide | simp) ?_)
local macro_rules | `(tactic| fail "callN") => `(tactic| refine spe_N (by fail "args") (by first | decide | simp) ?_)
local macro_rules | `(tactic| fail "app") => `(tactic| (refine rm_append (by fail "fz") rfl (by first | (fail "lt") | (simp only [nt_len, List.length_map]; omega) | omega) ?_; refine ⟨_, by fail "lt", by fail "norm", ?_⟩))
local macro_rules | `(tactic| fail "take") => `(tactic| refine spe_take rfl (by omega) (by omega) (fun _ _ => ?_))

local macro_rules | `(tactic| fail "nw") => `(tactic| ((try simp only [puts, List.set_cons_zero, List.set_cons_succ]); fail "wks"))
local macro_rules | `(tactic| fail "side") => `(tactic| first | exact rfl | assumption | omega | (simp only [List.length_append, List.length_cons, List.length_nil, List.length_map, nt_len, rgT_len, List.length_replicate]; omega) | exact mem_snoc (by assumption) (by first | assumption | omega | exact ⟨by first | assumption | omega, by first | assumption | omega⟩) | decide | (simp; done))
local macro_rules | `(tactic| fail "cnd") => `(tactic| repeat' (first | (guard_target = And _ _; refine And.intro ?_ ?_) | fail "side"))
local macro_rules | `(tactic| fail "callS") => `(tactic| (guard_target = SpE _ _ _ _ _ _); refine spe_WS (by fail "args") (by first | decide | simp) ?_)
local macro_rules | `(tactic| fail "callNS") => `(tactic| (guard_target = SpE _ _ _ _ _ _); refine spe_NS (by fail "args") (by first | decide | simp) ?_)
local macro_rules | `(tactic| fail "un") => `(tactic| with_reducible apply Stop.mk)
local macro_rules | `(tactic| fail "gg") => `(tactic| repeat' (first | fail "s" | ((guard_target = SpE _ (spW _ _ _) _ _ _ _); fail "callS"; fail "wp"; fail "un") | ((guard_target = SpE _ (spCellv _) _ _ _ _); refine spe_cell (by omega) (by omega) fun _ => ?_) | ((guard_target = SpE _ spFeed _ _ _ _); refine spe_feed fun _ => ?_)))
local macro_rules | `(tactic| fail "mapeq") => `(tactic| first | exact rfl | exact word_items | exact nums_str _ | exact tx_items _ | exact rg0 | (rw [rg0]; exact congrArg (fun k => nt (List.range k)) (by omega)) | exact cutT_map | (rw [rg0]; exact rfl) | (simp only [nt_len, List.length_map, Int.toNat_natCast]; exact rg0) | (rw [rg0]; simp only [nt_len, List.length_map, Int.toNat_natCast]; exact rfl))
local macro_rules | `(tactic| fail "wp2") => `(tactic| repeat (first | ((guard_target = Exists _); apply Exists.intro) | ((guard_target = And _ _); refine And.intro (by fail "side") ?_)))
local macro_rules | `(tactic| fail "wp") => `(tactic| first | (apply Exists.intro; fail "wp2") | (refine And.intro (by fail "side") ?_; fail "wp2") | fail "wp stuck")
theorem teq_it {xs ys : List Int} : T.eq (.tup (xs.map T.int)) (.tup (ys.map T.int)) = true ↔ xs = ys := by
  rw [teq_tup]
  exact eqL_map (f := T.int) (fun a b => by rw [eq_int, decide_eq_true_eq]) xs ys
theorem teq_its {ls ms : List (List Int)} : T.eq (.tup (ls.map fun row => T.tup (row.map T.int))) (.tup (ms.map fun row => T.tup (row.map T.int))) = true ↔ ls = ms := by
  rw [teq_tup]
  exact eqL_map (fun a b => teq_it) ls ms
theorem ri_eq {r s : RI} : r = s ↔ r.h = s.h ∧ r.s = s.s ∧ r.l = s.l := by cases r; cases s; simp
def wp_law_is_row : WpT := fun ts Φ _ => ∃ xs : List Int, ts = [.tup (xs.map T.int), .lst (xs.map T.int)] ∧ xs.length ≤ 1000 ∧ Φ (.bl true) []
def wp_law_is_crew (C : Addr) : WpT := fun ts Φ _ => ∃ x : RI, ts = [crewI C x, rowsI x] ∧ x.sm ∧ hOk x.h = true ∧ Φ (.bl true) []
def fieldS (x : RI) : Str := match fieldI x with
  | some f => f
  | none => Str.ofString ""
def wp_law_field : WpT := fun ts Φ _ => ∃ x : RI, ts = [rowsI x] ∧ x.sm ∧ Φ (.str (fieldS x)) []
def wp_law_made (C B : Addr) : WpT := fun ts Φ Ψ => ∃ (x : RI) (k : Int), ts = [rowsI x, .int k] ∧ x.sm ∧ (∀ f, fieldI x = some f → Ψ ⟨B, [("field", .str f)]⟩) ∧ (fieldI x = none → Φ (crewI C x) [])
def wp_law_refuses : WpT := fun ts Φ _ => ∃ (x : RI) (k : Int) (f : Str), ts = [rowsI x, .int k, .str f] ∧ x.sm ∧ fieldI x = some f ∧ Φ (.bl true) []
theorem fS_h {x : RI} (c : hOk x.h = false) : fieldS x = Str.ofString "height" := by unfold fieldS fieldI; rw [if_pos c]
theorem fS_s {x : RI} (c : hOk x.h = true) (c2 : sOk x.s x.N = false) : fieldS x = Str.ofString "seats" := by unfold fieldS fieldI; rw [if_neg (by rw [c]; decide), if_pos c2]
theorem fS_l {x : RI} (c : hOk x.h = true) (c2 : sOk x.s x.N = true) (c3 : lOk x = false) : fieldS x = Str.ofString "leanings" := by unfold fieldS fieldI; rw [if_neg (by rw [c]; decide), if_neg (by rw [c2]; decide), if_pos c3]
theorem fS_0 {x : RI} (c : hOk x.h = true) (c2 : sOk x.s x.N = true) (c3 : lOk x = true) : fieldS x = Str.ofString "" := by unfold fieldS fieldI; rw [if_neg (by rw [c]; decide), if_neg (by rw [c2]; decide), if_neg (by rw [c3]; decide)]
theorem menuN {x : RI} (h : hOk x.h = true) : atI [T.int 1, T.int 2, T.int 4, T.int 8, T.int 16] x.h = some (.int x.N) := by
  have hh : 1 ≤ x.h ∧ x.h ≤ 4 := of_decide_eq_true h
  have : x.h = 1 ∨ x.h = 2 ∨ x.h = 3 ∨ x.h = 4 := by omega
  rcases this with e | e | e | e <;> unfold RI.N <;> rw [e] <;> rfl
theorem all_from {f : Int → Bool} {xs : List Int} (h : ∀ (j : Nat) z, xs[j]? = some z → f z = true) : xs.all f = true := by
  rw [List.all_eq_true]
  intro z hz
  obtain ⟨j, hj⟩ := List.getElem?_of_mem hz
  exact h j z hj
theorem all_not {α : Type} {f : α → Bool} {xs : List α} {j : Nat} {z : α} (h : xs[j]? = some z) (c : f z = false) : xs.all f = false := by
  rw [List.all_eq_false]
  exact ⟨z, List.mem_of_getElem? h, by rw [c]; decide⟩
section
variable {P : Program} {w : World} {K : PySem.W.Frag} {mg : Str → Option Value} {base : Heap}
theorem ok_Crew_eq {f CCrew : Addr} {fd : FuncData} {k : Nat} (F : Fun K "__eq__" "Crew.__eq__" s_Crew_eq f fd) (misinstance : mg "isinstance" = none) (mcCrew : mg "Crew" = some (.ref CCrew)) (TCrew : CTCrew K CCrew) (kq : PySem.W.kitOne K (.ref CCrew) (.ref CCrew) = some true) (ca : PySem.W.findIn K (.ref CCrew) "__class__" = some (some (.builtin "object.__class__"))) (cg : PySem.W.specialIn K (.builtin "object.__class__") "__get__" = some (some (.builtin "getset_descriptor.__get__"))) (ct : PySem.W.takesIn K (.builtin "object.__class__") = some true) (cm : PySem.W.mroIn K CCrew (.type "object") = some true) : FnOk P w K mg base CX0 (k + 1) f fd P_Crew_eq (spW K [.pu, .pu] (wp_crew_eq CCrew)) := by
  refine F.ok sc_Crew_eq (fun vs H Q E h => len_W rfl h) (fun cdv A outer s H vs Q E hr h => ⟨_, (pss_cons (ps_if (pt_not (pt_val (pe_callB (r := rIsi K) call_isi (by rfl) misinstance (by decide +kernel) (pa_cons (pv 1) (pa_cons (pe_glob (v := .ref CCrew) (by rfl) mcCrew rfl) pa_nil)))))
      (pss_one (ps_ret pe_bl))
      pss_nil)
    (pss_one (ps_ret (pe_and (pe_cmpR (r := rEqP K) (op_eqP hr.units) (pe_fldK (K := K) (pv 0)) (pe_fldK (K := K) (pv 1)) (nomark _)) (pe_and (pe_cmpR (r := rEqP K) (op_eqP hr.units) (pe_fldK (K := K) (pv 0)) (pe_fldK (K := K) (pv 1)) (nomark _)) (pe_one (pe_cmpR (r := rEqP K) (op_eqP hr.units) (pe_fldK (K := K) (pv 0)) (pe_fldK (K := K) (pv 1)) (nomark _)))))))), ?_⟩)
  refine run_W (n := 2) (rest := []) rfl (by fail "blank") rfl (fun ts as Φ Ψ hts has w => ?_) h
  obtain rfl := as0 has
  -- slots: 0 self 1 other
  obtain ⟨r, s, rfl, ko, ks, q⟩ := w
  fail "start"
  fail "gg"
  refine rl_isiO kq (fun e => .base (.ins e TCrew.cl ca cg ct cm)) ?_
  fail "gg"
  refine ⟨fun c1 => ?_, fun c1 => ?_⟩
  · have c1 : T.eq (.int r.h) (.int s.h) = true := c1
    rw [eq_int, decide_eq_true_eq] at c1
    fail "gg"
    refine ⟨fun c2 => ?_, fun c2 => ?_⟩
    · have c2 : T.eq (.tup (r.s.map T.int)) (.tup (s.s.map T.int)) = true := c2
      rw [teq_it] at c2
      fail "gg"
      fail "ret"
      refine q _ ⟨fun h => ri_eq.mpr ⟨c1, c2, teq_its.mp h⟩, fun h => teq_its.mpr (ri_eq.mp h).2.2⟩
    · have c2 : T.eq (.tup (r.s.map T.int)) (.tup (s.s.map T.int)) = false := c2
      fail "ret"
      exact q false ⟨fun h => (by cases h), fun h => by rw [teq_it.mpr (ri_eq.mp h).2.1] at c2; cases c2⟩
  · have c1 : T.eq (.int r.h) (.int s.h) = false := c1
    rw [eq_int, decide_eq_false_iff_not] at c1
    fail "ret"
    exact q false ⟨fun h => (by cases h), fun h => absurd (ri_eq.mp h).1 c1⟩
theorem ok_law_is_row {f : Addr} {fd : FuncData} {k : Nat} (F : Fun K "_law_is_row" "_law_is_row" s_law_is_row f fd) (mlist : mg "list" = none) (misinstance : mg "isinstance" = none) (mtuple : mg "tuple" = none) (O_law_whole : Ok P w K mg base k "_law_whole" P_law_whole (spW K [.pu] wp_law_whole)) : FnOk P w K mg base CX0 (k + 1) f fd P_law_is_row (spW K [.pu, .pu] wp_law_is_row) := by
  refine F.ok sc_law_is_row (fun vs H Q E h => len_W rfl h) (fun cdv A outer s H vs Q E hr h => ⟨_, (pss_cons (ps_if (PW.pt (pw_or (pt_not (pt_val (pe_callB (r := rIsi K) call_isi (by rfl) misinstance (by decide +kernel) (pa_cons (pv 0) (pa_cons (pe_bltn (v := .ty "tuple") (by rfl) mtuple (by decide +kernel) rfl) pa_nil))))) (pw_or1 (pt_cmpR (r := rNeP K) (op_neP hr.units) (pe_callTy (r := rListOf K) call_listK (by rfl) mlist (by decide +kernel) (pa_cons (pv 0) pa_nil)) (pv 1) (nomark _)))))
      (pss_one (ps_ret pe_bl))
      pss_nil)
    (pss_cons (ps_forV [(2, .no)] (ps_for PassesOwn.never rfl (pi_seqK (K := K) (pv 0)) (pg_name (i := 2) sc_law_is_row.nd rfl (Or.inl rfl))
      (pss_one (ps_if (pt_not (pt_val (pe_c O_law_whole hr (by rfl) (pa_cons (pv 2) pa_nil))))
        (pss_one (ps_ret pe_bl))
        pss_nil))))
    (pss_one (ps_ret pe_bl)))), ?_⟩)
  refine run_W (n := 3) (rest := [.no]) rfl (by fail "blank") rfl (fun ts as Φ Ψ hts has w => ?_) h
  obtain rfl := as0 has
  -- slots: 0 actual 1 due 2 value
  obtain ⟨xs, rfl, hl, q⟩ := w
  fail "start"
  fail "gg"
  fail "gg"
  refine es_forV ?_
  fail "gg"
  refine ⟨by fail "lt", fun ρb i ρ' => ρ' = puts [] ρb, ?_, fun i t ρ' ht hM => ?_, fun m ρ' hm hM => ?_⟩
  · apply fin_mk
    · fail "cnd"
    · fail "nw"
    · fail "lt"
  · obtain ⟨z, _, rfl⟩ := get_map ht
    obtain rfl := hM
    fail "start"
    fail "gg"
    apply fin_mk
    · fail "cnd"
    · fail "nw"
    · fail "lt"
  · obtain rfl := hM
    simp only [rgT_len, nt_len, Int.toNat_natCast, List.length_map] at hm
    fail "start"
    fail "gg"
    fail "ret"
    exact q
theorem ok_law_is_crew {f CCrew : Addr} {fd : FuncData} {k : Nat} (F : Fun K "_law_is_crew" "_law_is_crew" s_law_is_crew f fd) (TCrew : CTCrew K CCrew) (O_law_whole : Ok P w K mg base k "_law_whole" P_law_whole (spW K [.pu] wp_law_whole)) (misinstance : mg "isinstance" = none) (mcCrew : mg "Crew" = some (.ref CCrew)) (O_law_is_row : Ok P w K mg base k "_law_is_row" P_law_is_row (spW K [.pu, .pu] wp_law_is_row)) (mlen : mg "len" = none) (mtuple : mg "tuple" = none) (mrange : mg "range" = none) (OP_workers : OkProp P w K mg base k CCrew "workers" (spW K [.pu] (wp_workers CCrew))) (OP_leaves : OkProp P w K mg base k CCrew "leaves" (spW K [.pu] (wp_leaves CCrew))) (kq : PySem.W.kitOne K (.ref CCrew) (.ref CCrew) = some true) (ca : PySem.W.findIn K (.ref CCrew) "__class__" = some (some (.builtin "object.__class__"))) (cg : PySem.W.specialIn K (.builtin "object.__class__") "__get__" = some (some (.builtin "getset_descriptor.__get__"))) (ct : PySem.W.takesIn K (.builtin "object.__class__") = some true) (cm : PySem.W.mroIn K CCrew (.type "object") = some true) : FnOk P w K mg base CX0 (k + 1) f fd P_law_is_crew (spW K [.pu, .pu] (wp_law_is_crew CCrew)) := by
  refine F.ok sc_law_is_crew (fun vs H Q E h => len_W rfl h) (fun cdv A outer s H vs Q E hr h => ⟨_, (pss_cons (ps_if (PW.pt (pw_or (pt_not (pt_val (pe_callB (r := rIsi K) call_isi (by rfl) misinstance (by decide +kernel) (pa_cons (pv 0) (pa_cons (pe_glob (v := .ref CCrew) (by rfl) mcCrew rfl) pa_nil))))) (pw_or (pt_not (pt_val (pe_c O_law_whole hr (by rfl) (pa_cons (pe_fldK (K := K) (pv 0)) pa_nil)))) (pw_or1 (pt_cmpR (r := rNeP K) (op_neP hr.units) (pe_fldK (K := K) (pv 0)) (pe_ix (r := rIx K) ix_seq (pv 1) pe_int (fun _ _ => rfl)) (nomark _))))))
      (pss_one (ps_ret pe_bl))
      pss_nil)
    (pss_cons (ps_if (pt_not (pt_val (pe_c O_law_is_row hr (by rfl) (pa_cons (pe_fldK (K := K) (pv 0)) (pa_cons (pe_ix (r := rIx K) ix_seq (pv 1) pe_int (fun _ _ => rfl)) pa_nil)))))
      (pss_one (ps_ret pe_bl))
      pss_nil)
    (pss_cons (ps_if (PW.pt (pw_or (pt_not (pt_val (pe_callB (r := rIsi K) call_isi (by rfl) misinstance (by decide +kernel) (pa_cons (pe_fldK (K := K) (pv 0)) (pa_cons (pe_bltn (v := .ty "tuple") (by rfl) mtuple (by decide +kernel) rfl) pa_nil))))) (pw_or1 (pt_cmpR op_ne (pe_callB (r := rLenS K) call_lenK (by rfl) mlen (by decide +kernel) (pa_cons (pe_fldK (K := K) (pv 0)) pa_nil)) (pe_callB (r := rLenS K) call_lenK (by rfl) mlen (by decide +kernel) (pa_cons (pe_ix (r := rIx K) ix_seq (pv 1) pe_int (fun _ _ => rfl)) pa_nil)) (nomark _)))))
      (pss_one (ps_ret pe_bl))
      pss_nil)
    (pss_cons (ps_forV [(2, .no)] (ps_for PassesOwn.never rfl (pi_range1 (by rfl) mrange (pa_cons (pe_callB (r := rLenS K) call_lenK (by rfl) mlen (by decide +kernel) (pa_cons (pe_ix (r := rIx K) ix_seq (pv 1) pe_int (fun _ _ => rfl)) pa_nil)) pa_nil)) (pg_name (i := 2) sc_law_is_crew.nd rfl (Or.inl rfl))
      (pss_one (ps_if (pt_not (pt_val (pe_c O_law_is_row hr (by rfl) (pa_cons (pe_ix (r := rIx K) ix_seq (pe_fldK (K := K) (pv 0)) (pv 2) (fun _ _ => rfl)) (pa_cons (pe_ix (r := rIx K) ix_seq (pe_ix (r := rIx K) ix_seq (pv 1) pe_int (fun _ _ => rfl)) (pv 2) (fun _ _ => rfl)) pa_nil)))))
        (pss_one (ps_ret pe_bl))
        pss_nil))))
    (pss_cons (ps_if (PW.pt (pw_or (pt_not (pt_val (pe_c O_law_whole hr (by rfl) (pa_cons (pe_p OP_workers TCrew.cl hr (pv 0) (by rfl)) pa_nil)))) (pw_or1 (pt_cmpR op_ne (pe_p OP_workers TCrew.cl hr (pv 0) (by rfl)) (pe_callB (r := rLenS K) call_lenK (by rfl) mlen (by decide +kernel) (pa_cons (pe_ix (r := rIx K) ix_seq (pv 1) pe_int (fun _ _ => rfl)) pa_nil)) (nomark _)))))
      (pss_one (ps_ret pe_bl))
      pss_nil)
    (pss_one (ps_ret (pe_and (pe_c O_law_whole hr (by rfl) (pa_cons (pe_p OP_leaves TCrew.cl hr (pv 0) (by rfl)) pa_nil)) (pe_one (pe_cmpR (r := rEqP K) (op_eqP hr.units) (pe_p OP_leaves TCrew.cl hr (pv 0) (by rfl)) (pe_ix (r := rIx K) ix_seq (pe_lst (pa_cons pe_int (pa_cons pe_int (pa_cons pe_int (pa_cons pe_int (pa_cons pe_int pa_nil)))))) (pe_ix (r := rIx K) ix_seq (pv 1) pe_int (fun _ _ => rfl)) (fun _ _ => rfl)) (nomark _))))))))))), ?_⟩)
  refine run_W (n := 3) (rest := [.no]) rfl (by fail "blank") rfl (fun ts as Φ Ψ hts has w => ?_) h
  obtain rfl := as0 has
  -- slots: 0 crew 1 rows 2 k
  obtain ⟨x, rfl, sm, hh, q⟩ := w
  have sl := sm.l; have ss := sm.s
  have mN := menuN hh
  fail "start"
  fail "gg"
  refine rl_isiO kq (fun e => .base (.ins e TCrew.cl ca cg ct cm)) ?_
  fail "gg"
  rw [List.length_map, List.length_map]
  fail "gg"
  fail "gg"
  refine es_forV ?_
  fail "gg"
  refine ⟨by fail "lt", fun ρb i ρ' => ρ' = puts [] ρb, ?_, fun i t ρ' ht hM => ?_, fun m ρ' hm hM => ?_⟩
  · apply fin_mk
    · fail "cnd"
    · fail "nw"
    · fail "lt"
  · obtain rfl := hM
    obtain ⟨hi, rfl⟩ := rgT_get0 ht
    try simp only [nt_len, Int.toNat_natCast, List.length_map, List.length_cons, List.length_nil] at hi
    fail "start"
    fail "gg"
    obtain ⟨row, hrow⟩ := get_of_lt (xs := x.l) (i := i) (by simpa using hi)
    have rl := sm.r _ (List.mem_of_getElem? hrow)
    refine rd_ix rfl (atI_map hrow) ?_
    fail "gg"
    refine rd_ix rfl (atI_map hrow) ?_
    fail "gg"
    apply fin_mk
    · fail "cnd"
    · fail "nw"
    · fail "lt"
  · obtain rfl := hM
    simp only [rgT_len, nt_len, Int.toNat_natCast, List.length_map] at hm
    fail "start"
    fail "gg"
    rw [List.length_map]
    fail "gg"
    refine rd_ix rfl mN ?_
    fail "gg"
    fail "ret"
    exact bl_t (eq_rfl (k := 60) (by fail "pl")) q
theorem ok_law_field {f : Addr} {fd : FuncData} {k : Nat} (F : Fun K "_law_field" "_law_field" s_law_field f fd) (mlen : mg "len" = none) : FnOk P w K mg base CX0 (k + 1) f fd P_law_field (spW K [.pu] wp_law_field) := by
  refine F.ok sc_law_field (fun vs H Q E h => len_W rfl h) (fun cdv A outer s H vs Q E hr h => ⟨_, (pss_cons (ps_if (PW.pt (pw_or (pt_cmpR op_lt (pe_ix (r := rIx K) ix_seq (pv 0) pe_int (fun _ _ => rfl)) pe_int (nomark _)) (pw_or1 (pt_cmpR op_gt (pe_ix (r := rIx K) ix_seq (pv 0) pe_int (fun _ _ => rfl)) pe_int (nomark _)))))
      (pss_one (ps_ret pe_str))
      pss_nil)
    (pss_cons (ps_set (i := 1) sc_law_field.nd rfl (Or.inl rfl) (pe_ix (r := rIx K) ix_seq (pe_lst (pa_cons pe_int (pa_cons pe_int (pa_cons pe_int (pa_cons pe_int (pa_cons pe_int pa_nil)))))) (pe_ix (r := rIx K) ix_seq (pv 0) pe_int (fun _ _ => rfl)) (fun _ _ => rfl)))
    (pss_cons (ps_if (PW.pt (pw_or (pt_cmpR op_lt (pe_callB (r := rLenS K) call_lenK (by rfl) mlen (by decide +kernel) (pa_cons (pe_ix (r := rIx K) ix_seq (pv 0) pe_int (fun _ _ => rfl)) pa_nil)) pe_int (nomark _)) (pw_or1 (pt_cmpR op_gt (pe_callB (r := rLenS K) call_lenK (by rfl) mlen (by decide +kernel) (pa_cons (pe_ix (r := rIx K) ix_seq (pv 0) pe_int (fun _ _ => rfl)) pa_nil)) pe_int (nomark _)))))
      (pss_one (ps_ret pe_str))
      pss_nil)
    (pss_cons (ps_forV [(2, .no)] (ps_for PassesOwn.never rfl (pi_seqK (K := K) (pe_ix (r := rIx K) ix_seq (pv 0) pe_int (fun _ _ => rfl))) (pg_name (i := 2) sc_law_field.nd rfl (Or.inl rfl))
      (pss_one (ps_if (PW.pt (pw_or (pt_cmpR op_lt (pv 2) pe_int (nomark _)) (pw_or1 (pt_cmpR op_ge (pv 2) (pv 1) (nomark _)))))
        (pss_one (ps_ret pe_str))
        pss_nil))))
    (pss_cons (ps_if (pt_cmpR op_ne (pe_callB (r := rLenS K) call_lenK (by rfl) mlen (by decide +kernel) (pa_cons (pe_ix (r := rIx K) ix_seq (pv 0) pe_int (fun _ _ => rfl)) pa_nil)) (pe_callB (r := rLenS K) call_lenK (by rfl) mlen (by decide +kernel) (pa_cons (pe_ix (r := rIx K) ix_seq (pv 0) pe_int (fun _ _ => rfl)) pa_nil)) (nomark _))
      (pss_one (ps_ret pe_str))
      pss_nil)
    (pss_cons (ps_forV [(3, .no), (4, .no)] (ps_for PassesOwn.never rfl (pi_seqK (K := K) (pe_ix (r := rIx K) ix_seq (pv 0) pe_int (fun _ _ => rfl))) (pg_name (i := 3) sc_law_field.nd rfl (Or.inl rfl))
      (pss_cons (ps_if (pt_cmpR op_ne (pe_callB (r := rLenS K) call_lenK (by rfl) mlen (by decide +kernel) (pa_cons (pv 3) pa_nil)) (pe_op op_sub (pv 1) pe_int) (nomark _))
        (pss_one (ps_ret pe_str))
        pss_nil)
      (pss_one (ps_forV [(4, .no)] (ps_for PassesOwn.never rfl (pi_seqK (K := K) (pv 3)) (pg_name (i := 4) sc_law_field.nd rfl (Or.inl rfl))
        (pss_one (ps_if (PW.pt (pw_and (pt_cmpR op_ne (pv 4) pe_int (nomark _)) (pw_and1 (pt_cmpR op_ne (pv 4) pe_int (nomark _)))))
          (pss_one (ps_ret pe_str))
          pss_nil))))))))
    (pss_one (ps_ret pe_str)))))))), ?_⟩)
  refine run_W (n := 5) (rest := [.no, .no, .no, .no]) rfl (by fail "blank") rfl (fun ts as Φ Ψ hts has w => ?_) h
  obtain rfl := as0 has
  -- slots: 0 rows 1 leaves 2 seat 3 row 4 lean
  obtain ⟨x, rfl, sm, q⟩ := w
  have sl := sm.l; have ss := sm.s
  fail "start"
  fail "gg"
  refine ⟨fun c => ⟨fun _ => ?_, fun z => nomatch z⟩, fun c => ?_⟩
  · have c : x.h < 1 := of_decide_eq_true c
    fail "gg"
    fail "ret"
    rw [fS_h (decide_eq_false (by omega))] at q
    exact q
  have c : ¬ x.h < 1 := of_decide_eq_false c
  fail "gg"
  refine ⟨fun c1 => ?_, fun c1 => ?_⟩
  · have c1 : 4 < x.h := of_decide_eq_true c1
    fail "gg"
    fail "ret"
    rw [fS_h (decide_eq_false (by omega))] at q
    exact q
  have c1 : ¬ 4 < x.h := of_decide_eq_false c1
  have hh : hOk x.h = true := decide_eq_true ⟨by omega, by omega⟩
  have mN := menuN hh
  fail "gg"
  refine rd_ix rfl mN ?_
  fail "gg"
  rw [List.length_map]
  refine ⟨fun d => ⟨fun _ => ?_, fun z => nomatch z⟩, fun d => ?_⟩
  · have d : x.s.length < 1 := by have := of_decide_eq_true d; omega
    fail "gg"
    fail "ret"
    rw [fS_s hh (by unfold sOk; rw [decide_eq_false (by omega)]; rfl)] at q
    exact q
  have d : ¬ x.s.length < 1 := by have := of_decide_eq_false d; omega
  fail "gg"
  rw [List.length_map]
  refine ⟨fun d1 => ?_, fun d1 => ?_⟩
  · have d1 : 16 < x.s.length := by have := of_decide_eq_true d1; omega
    fail "gg"
    fail "ret"
    rw [fS_s hh (by unfold sOk; rw [decide_eq_false (by omega)]; rfl)] at q
    exact q
  have d1 : ¬ 16 < x.s.length := by have := of_decide_eq_false d1; omega
  have eS : sOk x.s x.N = x.s.all fun z => decide (0 ≤ z ∧ z < x.N) := by unfold sOk; rw [decide_eq_true ⟨by omega, by omega⟩]; rfl
  fail "gg"
  fail "gg"
  refine es_forV ?_
  fail "gg"
  refine ⟨by fail "lt", fun ρb i ρ' => (∀ (j : Nat) z, j < i → x.s[j]? = some z → decide (0 ≤ z ∧ z < x.N) = true) ∧ ρ' = puts [] ρb, ?_, fun i t ρ' ht hM => ?_, fun m ρ' hm hM => ?_⟩
  · apply fin_mk
    · fail "cnd"
    · fail "nw"
    · fail "lt"
  · obtain ⟨z, hz, rfl⟩ := get_map ht
    have sbad : ¬ (0 ≤ z ∧ z < x.N) → Φ (.str (Str.ofString "seats")) [] := fun h => by
      rw [fS_s hh (by rw [eS]; exact all_not hz (decide_eq_false h))] at q
      exact q
    obtain ⟨hg, rfl⟩ := hM
    fail "start"
    fail "gg"
    refine ⟨fun c2 => ⟨fun _ => ?_, fun z => nomatch z⟩, fun c2 => ?_⟩
    · have c2 : z < 0 := of_decide_eq_true c2
      fail "gg"
      fail "ret"
      exact sbad (by omega)
    have c2 : ¬ z < 0 := of_decide_eq_false c2
    fail "gg"
    refine ⟨fun c3 => ?_, fun c3 => ?_⟩
    · have c3 : x.N ≤ z := of_decide_eq_true c3
      fail "gg"
      fail "ret"
      exact sbad (by omega)
    have c3 : ¬ x.N ≤ z := of_decide_eq_false c3
    have hg' : ∀ (j : Nat) y, j < i + 1 → x.s[j]? = some y → decide (0 ≤ y ∧ y < x.N) = true := fun j y hj hy => by
      by_cases c4 : j < i
      · exact hg j y c4 hy
      · obtain rfl : j = i := by omega
        rw [hz] at hy
        cases hy
        exact decide_eq_true ⟨by omega, by omega⟩
    fail "gg"
    apply fin_mk
    · fail "cnd"
    · fail "nw"
    · fail "lt"
  · obtain ⟨hg, rfl⟩ := hM
    simp only [rgT_len, nt_len, Int.toNat_natCast, List.length_map] at hm
    fail "start"
    fail "gg"
    have hm : m = x.s.length := by first | exact hm.trans (List.length_map ..) | (rw [hm, List.length_map]) | simpa using hm
    have hS : sOk x.s x.N = true := by rw [eS]; exact all_from fun j z hj => hg j z (by rw [hm]; exact lt_of_get hj) hj
    fail "gg"
    rw [List.length_map, List.length_map]
    refine ⟨fun c3 => ?_, fun c3 => ?_⟩
    · have c3 : ¬ x.l.length = x.s.length := fun z => by rw [z] at c3; simp at c3
      fail "gg"
      fail "ret"
      rw [fS_l hh hS (by unfold lOk; rw [decide_eq_false c3]; rfl)] at q
      exact q
    have c3 : x.l.length = x.s.length := by
      have : (x.l.length : Int) = (x.s.length : Int) := by simpa using c3
      omega
    have eL : lOk x = x.l.all fun r => rOk r x.N := by unfold lOk; rw [decide_eq_true c3]; rfl
    fail "gg"
    fail "gg"
    refine es_forV ?_
    fail "gg"
    refine ⟨by fail "lt", fun ρb i2 ρ' => (∀ (j : Nat) row, j < i2 → x.l[j]? = some row → rOk row x.N = true) ∧ ρ' = puts [] ρb, ?_, fun i2 t2 ρ' ht2 hM => ?_, fun m ρ' hm hM => ?_⟩
    · apply fin_mk
      · fail "cnd"
      · fail "nw"
      · fail "lt"
    · obtain ⟨row, hrow, rfl⟩ := get_map ht2
      have lbad : rOk row x.N = false → Φ (.str (Str.ofString "leanings")) [] := fun h => by
        rw [fS_l hh hS (by rw [eL]; exact all_not hrow h)] at q
        exact q
      have rl := sm.r _ (List.mem_of_getElem? hrow)
      obtain ⟨hg2, rfl⟩ := hM
      fail "start"
      fail "gg"
      rw [List.length_map]
      refine ⟨fun c4 => ?_, fun c4 => ?_⟩
      · have c4 : ¬ (row.length : Int) = x.N - 1 := fun z => by rw [z] at c4; simp at c4
        fail "gg"
        fail "ret"
        exact lbad (by unfold rOk; rw [decide_eq_false c4]; rfl)
      have c4 : (row.length : Int) = x.N - 1 := by simpa using c4
      have eR : rOk row x.N = row.all fun z => decide (z = 0 ∨ z = 1) := by unfold rOk; rw [decide_eq_true c4]; rfl
      fail "gg"
      fail "gg"
      refine es_forV ?_
      fail "gg"
      refine ⟨by fail "lt", fun ρb i3 ρ' => (∀ (j : Nat) z, j < i3 → row[j]? = some z → decide (z = 0 ∨ z = 1) = true) ∧ ρ' = puts [] ρb, ?_, fun i3 t3 ρ' ht3 hM => ?_, fun m ρ' hm hM => ?_⟩
      · apply fin_mk
        · fail "cnd"
        · fail "nw"
        · fail "lt"
      · obtain ⟨z, hz, rfl⟩ := get_map ht3
        obtain ⟨hg3, rfl⟩ := hM
        fail "start"
        fail "gg"
        refine ⟨fun c5 => ?_, fun c5 => ?_⟩
        · have c5 : ¬ z = 0 := fun y => by rw [y] at c5; simp at c5
          fail "gg"
          refine ⟨fun c6 => ?_, fun c6 => ?_⟩
          · have c6 : ¬ z = 1 := fun y => by rw [y] at c6; simp at c6
            fail "gg"
            fail "ret"
            exact lbad (by rw [eR]; exact all_not hz (decide_eq_false fun h => h.elim c5 c6))
          have c6 : z = 1 := by simpa using c6
          have hg' : ∀ (j : Nat) y, j < i3 + 1 → row[j]? = some y → decide (y = 0 ∨ y = 1) = true := fun j y hj hy => by
            by_cases c4 : j < i3
            · exact hg3 j y c4 hy
            · obtain rfl : j = i3 := by omega
              rw [hz] at hy
              cases hy
              exact decide_eq_true (Or.inr c6)
          fail "gg"
          apply fin_mk
          · fail "cnd"
          · fail "nw"
          · fail "lt"
        · have c5 : z = 0 := by simpa using c5
          have hg' : ∀ (j : Nat) y, j < i3 + 1 → row[j]? = some y → decide (y = 0 ∨ y = 1) = true := fun j y hj hy => by
            by_cases c4 : j < i3
            · exact hg3 j y c4 hy
            · obtain rfl : j = i3 := by omega
              rw [hz] at hy
              cases hy
              exact decide_eq_true (Or.inl c5)
          fail "gg"
          apply fin_mk
          · fail "cnd"
          · fail "nw"
          · fail "lt"
      · obtain ⟨hg3, rfl⟩ := hM
        have hm : m = row.length := by first | exact hm.trans (List.length_map ..) | (rw [hm, List.length_map]) | simpa using hm
        have hR : rOk row x.N = true := by rw [eR]; exact all_from fun j z hj => hg3 j z (by rw [hm]; exact lt_of_get hj) hj
        have hg' : ∀ (j : Nat) y, j < i2 + 1 → x.l[j]? = some y → rOk y x.N = true := fun j y hj hy => by
          by_cases c4 : j < i2
          · exact hg2 j y c4 hy
          · obtain rfl : j = i2 := by omega
            rw [hrow] at hy
            cases hy
            exact hR
        apply fin_mk
        · fail "cnd"
        · fail "nw"
        · fail "lt"
    · obtain ⟨hg2, rfl⟩ := hM
      simp only [rgT_len, nt_len, Int.toNat_natCast, List.length_map] at hm
      fail "start"
      fail "gg"
      have hm : m = x.l.length := by first | exact hm.trans (List.length_map ..) | (rw [hm, List.length_map]) | simpa using hm
      have hL : lOk x = true := by
        rw [eL, List.all_eq_true]
        intro row hr
        obtain ⟨j, hj⟩ := List.getElem?_of_mem hr
        exact hg2 j row (by rw [hm]; exact lt_of_get hj) hj
      fail "gg"
      fail "ret"
      rw [fS_0 hh hS hL] at q
      exact q
theorem ok_law_made {f CCrew CBadCrew : Addr} {fd : FuncData} {k : Nat} (F : Fun K "_law_made" "_law_made" s_law_made f fd) (mlist : mg "list" = none) (NRCrew : OkNewR P w K mg base k CCrew "Crew" P_Crew_init (spW K [.mt, .pu, .pu, .pu] (wp_crew CCrew CBadCrew))) (mtuple : mg "tuple" = none) (NKRCrew : OkNewKR P w K mg base k CCrew "Crew" P_Crew_init ["leanings", "height", "seats"] (spW K [.mt, .pu, .pu, .pu] (wp_crew CCrew CBadCrew))) (TCrew : CTCrew K CCrew) : FnOk P w K mg base (L2.CX P w) (k + 1) f fd P_law_made (spW K [.pu, .pu] (wp_law_made CCrew CBadCrew)) := by
  refine F.okX sc_law_made (fun vs H Q E h => len_W rfl h) (fun cdv A outer s H vs Q E hr h => ⟨_, (pss_cons (ps_set (i := 2) sc_law_made.nd rfl (Or.inl rfl) (pe_callTy (r := rListOf K) call_listK (by rfl) mlist (by decide +kernel) (pa_cons (pe_ix (r := rIx K) ix_seq (pv 0) pe_int (fun _ _ => rfl)) pa_nil)))
    (pss_cons (ps_lcK (vs := [4]) (ps_setLc (i := 3) (own := [("row", 4)]) (g := (gName 4)) (tt := tYes) rfl sc_law_made.nd rfl rfl (sw_true rfl rfl rfl (by decide +kernel)) (pi_seqK (K := K) (pe_ix (r := rIx K) ix_seq (pv 0) pe_int (fun _ _ => rfl))) (blkOk_by (N := N_law_made) (sc := defScope s_law_made) (by decide +kernel)) (fun _ _ _ _ _ => (pg_name (i := 4) sc_law_made.nd rfl (Or.inl rfl))) (fun _ _ _ _ _ => pts_nil) (fun _ _ _ _ _ => (pe_callTy (r := rListOf K) call_listK (by rfl) mlist (by decide +kernel) (pa_cons (pv 4) pa_nil)))))
    (pss_cutV [(5, .no)] (C8.pss_cut (ps_if (pt_cmpR op_eq (pv 1) pe_int (nomark _))
      (pss_one (ps_set (i := 5) sc_law_made.nd rfl (Or.inl rfl) (pe_newR NRCrew hr (takes_of rfl rfl rfl rfl) (by rfl) (pa_cons (pe_ix (r := rIx K) ix_seq (pv 0) pe_int (fun _ _ => rfl)) (pa_cons (pe_callTy (r := rTupOf K) call_tupleK (by rfl) mtuple (by decide +kernel) (pa_cons (pv 2) pa_nil)) (pa_cons (pe_callTy (r := rTupOf K) call_tupleK (by rfl) mtuple (by decide +kernel) (pa_cons (pe_lcK (vs := [4]) (pe_lc (own := [("row", 4)]) (g := (gName 4)) (tt := tYes) rfl sc_law_made.nd (pi_seqK (K := K) (pv 3)) (blkOk_by (N := N_law_made) (sc := defScope s_law_made) (by decide +kernel)) (fun _ _ _ _ _ => (pg_name (i := 4) sc_law_made.nd rfl (Or.inl rfl))) (fun _ _ _ _ _ => pts_nil) (fun _ _ _ _ _ => (pe_callTy (r := rTupOf K) call_tupleK (by rfl) mtuple (by decide +kernel) (pa_cons (pv 4) pa_nil))))) pa_nil)) pa_nil))))))
      (pss_one (ps_if (pt_cmpR op_eq (pv 1) pe_int (nomark _))
        (pss_one (ps_set (i := 5) sc_law_made.nd rfl (Or.inl rfl) (pe_newKR NKRCrew hr (takes_of rfl rfl rfl rfl) (by rfl) (pk_cons (pe_callTy (r := rTupOf K) call_tupleK (by rfl) mtuple (by decide +kernel) (pa_cons (pv 3) pa_nil)) (pk_cons (pe_ix (r := rIx K) ix_seq (pv 0) pe_int (fun _ _ => rfl)) (pk_cons (pv 2) pk_nil))))))
        (pss_one (ps_if (pt_cmpR op_eq (pv 1) pe_int (nomark _))
          (pss_one (ps_set (i := 5) sc_law_made.nd rfl (Or.inl rfl) (pe_newR NRCrew hr (takes_of rfl rfl rfl rfl) (by rfl) (pa_cons (pe_ix (r := rIx K) ix_seq (pv 0) pe_int (fun _ _ => rfl)) (pa_cons (pe_callTy (r := rTupOf K) call_tupleK (by rfl) mtuple (by decide +kernel) (pa_cons (pv 2) pa_nil)) (pa_cons (pe_lcK (vs := [4]) (pe_lc (own := [("row", 4)]) (g := (gName 4)) (tt := tYes) rfl sc_law_made.nd (pi_seqK (K := K) (pv 3)) (blkOk_by (N := N_law_made) (sc := defScope s_law_made) (by decide +kernel)) (fun _ _ _ _ _ => (pg_name (i := 4) sc_law_made.nd rfl (Or.inl rfl))) (fun _ _ _ _ _ => pts_nil) (fun _ _ _ _ _ => (pe_callTy (r := rTupOf K) call_tupleK (by rfl) mtuple (by decide +kernel) (pa_cons (pv 4) pa_nil))))) pa_nil))))))
          (pss_one (ps_set (i := 5) sc_law_made.nd rfl (Or.inl rfl) (pe_newR NRCrew hr (takes_of rfl rfl rfl rfl) (by rfl) (pa_cons (pe_ix (r := rIx K) ix_seq (pv 0) pe_int (fun _ _ => rfl)) (pa_cons (pv 2) (pa_cons (pv 3) pa_nil)))))))))))
    (pss_cons (ps_if (PW.pt (pw_or (pt_cmpR (r := rNeP K) (op_neP hr.units) (pv 2) (pe_ix (r := rIx K) ix_seq (pv 0) pe_int (fun _ _ => rfl)) (nomark _)) (pw_or1 (pt_cmpR (r := rNeP K) (op_neP hr.units) (pv 3) (pe_ix (r := rIx K) ix_seq (pv 0) pe_int (fun _ _ => rfl)) (nomark _)))))
      (pss_one (ps_ret pe_non))
      pss_nil)
    (pss_one (ps_ret (pv 5)))))))), ?_⟩)
  refine run_W (n := 6) (rest := [.no, .no, .no, .no]) rfl (by fail "blank") rfl (fun ts as Φ Ψ hts has w => ?_) h
  obtain rfl := as0 has
  -- slots: 0 rows 1 shape 2 seats 3 leanings 4 row 5 crew
  obtain ⟨x, k, rfl, sm, e1, q⟩ := w
  have sl := sm.l; have ss := sm.s
  fail "start"
  fail "gg"
  fail "gg"
  refine ev_map (xs := x.l) (h := fun row => T.lst (row.map T.int)) (f := fun row => T.lst (row.map T.int)) (by fail "gok") ?_
  fail "gg"
  refine ⟨by fail "lt", by fail "mapeq", by fail "om", fun x hx => ?_, ?_⟩
  · fail "start"
    fail "gg"
    fail "end"
  fail "gg"
  fail "gg"
  refine es_cutV (fun ρb ρ' => (fieldI x = none) ∧ ρ' = puts [(5, .sh (crewI CCrew x))] ρb) ?_ fun ρ' hM => ?_
  · fail "gg"
    refine spl_d (fun c1 => ?_) (fun c1 => ?_)
    · fail "gg"
      refine ev_makeS ?_
      fail "gg"
      fail "gg"
      refine ev_map (xs := x.l) (h := fun row => T.lst (row.map T.int)) (f := fun row => T.tup (row.map T.int)) (by fail "gok") ?_
      fail "gg"
      refine ⟨by fail "lt", by fail "mapeq", by fail "om", fun x hx => ?_, ?_⟩
      · fail "start"
        fail "gg"
        fail "end"
      fail "gg"
      refine ⟨_, _, by fail "args", by fail "lt", x, _, _, _, rfl, sm, rfl, rfl, by simp, (fun i2 t2 h2 => by
        obtain ⟨row, hrow, rfl⟩ := get_map h2
        rw [List.getD_eq_getElem?_getD, hrow]
        rfl), fun f hf => e1 f hf, fun hf => ⟨rfl, fun u hu => ?_⟩⟩
      cases hu
      fail "gg"
      apply fin_mk
      · fail "cnd"
      · fail "nw"
      · fail "lt"
    · fail "gg"
      refine spl_d (fun c2 => ?_) (fun c2 => ?_)
      · fail "gg"
        refine ev_makeS ?_
        fail "gg"
        refine ea_pm ?_
        fail "gg"
        dsimp only [pm3]
        refine ⟨_, _, by fail "args", by fail "lt", x, _, _, _, rfl, sm, rfl, rfl, by simp, (fun i2 t2 h2 => by
          obtain ⟨row, hrow, rfl⟩ := get_map h2
          rw [List.getD_eq_getElem?_getD, hrow]
          rfl), fun f hf => e1 f hf, fun hf => ⟨rfl, fun u hu => ?_⟩⟩
        cases hu
        fail "gg"
        apply fin_mk
        · fail "cnd"
        · fail "nw"
        · fail "lt"
      · fail "gg"
        refine spl_d (fun c3 => ?_) (fun c3 => ?_)
        · fail "gg"
          refine ev_makeS ?_
          fail "gg"
          fail "gg"
          refine ev_map (xs := x.l) (h := fun row => T.lst (row.map T.int)) (f := fun row => T.tup (row.map T.int)) (by fail "gok") ?_
          fail "gg"
          refine ⟨by fail "lt", by fail "mapeq", by fail "om", fun x hx => ?_, ?_⟩
          · fail "start"
            fail "gg"
            fail "end"
          fail "gg"
          refine ⟨_, _, by fail "args", by fail "lt", x, _, _, _, rfl, sm, rfl, rfl, by simp, (fun i2 t2 h2 => by
            obtain ⟨row, hrow, rfl⟩ := get_map h2
            rw [List.getD_eq_getElem?_getD, hrow]
            rfl), fun f hf => e1 f hf, fun hf => ⟨rfl, fun u hu => ?_⟩⟩
          cases hu
          fail "gg"
          apply fin_mk
          · fail "cnd"
          · fail "nw"
          · fail "lt"
        · fail "gg"
          refine ev_makeS ?_
          fail "gg"
          refine ⟨_, _, by fail "args", by fail "lt", x, _, _, _, rfl, sm, rfl, rfl, by simp, (fun i2 t2 h2 => by
            obtain ⟨row, hrow, rfl⟩ := get_map h2
            rw [List.getD_eq_getElem?_getD, hrow]
            rfl), fun f hf => e1 f hf, fun hf => ⟨rfl, fun u hu => ?_⟩⟩
          cases hu
          fail "gg"
          apply fin_mk
          · fail "cnd"
          · fail "nw"
          · fail "lt"
  obtain ⟨hf, rfl⟩ := hM
  fail "start"
  fail "gg"
  fail "gg"
  fail "ret"
  exact q hf
end
end K26
namespace K26
open PySem L2 Vk Tr
local macro_rules | `(tactic| fail "fld") => `(tactic| first
  | refine ⟨_, _, _, _, rfl, CTCrew.cl (by assumption), CTCrew.n_height (by assumption), fx_Crew_height, rfl, ?_⟩
  | refine ⟨_, _, _, _, rfl, CTCrew.cl (by assumption), CTCrew.n_seats (by assumption), fx_Crew_seats, rfl, ?_⟩
  | refine ⟨_, _, _, _, rfl, CTCrew.cl (by assumption), CTCrew.n_leanings (by assumption), fx_Crew_leanings, rfl, ?_⟩
  | fail "stuck")
local macro_rules | `(tactic| fail "fldN") => `(tactic| first
  | refine ⟨_, _, _, _, _, rfl, rfl, CTCrew.cl (by assumption), CTCrew.n_height (by assumption), fn_Crew_height, by fail "lt", by fail "lt", by fail "norm", ?_⟩
  | refine ⟨_, _, _, _, _, rfl, rfl, CTCrew.cl (by assumption), CTCrew.n_seats (by assumption), fn_Crew_seats, by fail "lt", by fail "lt", by fail "norm", ?_⟩
  | refine ⟨_, _, _, _, _, rfl, rfl, CTCrew.cl (by assumption), CTCrew.n_leanings (by assumption), fn_Crew_leanings, by fail "lt", by fail "lt", by fail "norm", ?_⟩
  | fail "stuck")
local macro_rules | `(tactic| fail "lt") => `(tactic| exact Nat.le_of_ble_eq_true rfl)
local macro_rules | `(tactic| fail "norm") => `(tactic| first | (simp only [List.take_succ_cons, List.take_zero, List.take_nil, List.set_cons_zero, List.set_cons_succ, List.cons_append, List.nil_append, initU, wipeU, List.length_cons, List.length_nil, Nat.zero_add, Nat.reduceAdd]; done) | (simp only [List.take_succ_cons, List.take_zero, List.take_nil, List.set_cons_zero, List.set_cons_succ, List.cons_append, List.nil_append, initU, wipeU, List.length_cons, List.length_nil, Nat.zero_add, Nat.reduceAdd]; exact rfl) | exact rfl)
local macro_rules | `(tactic| fail "pl") => `(tactic| first
  | exact pl_int | exact pl_str | exact pl_bl | exact pl_non | exact pl_nil
  | ((with_reducible refine pl_lst ?_); fail "pl") | ((with_reducible refine pl_tup ?_); fail "pl") | ((with_reducible refine pl_cl ?_); fail "pl")
  | exact pl_nt
  | ((with_reducible refine pl_cons ?_ ?_); (fail "pl"); (fail "pl"))
  | ((with_reducible refine pl_map fun _ _ => ?_); fail "pl")
  | assumption)
local macro_rules | `(tactic| fail "fz") => `(tactic| first | exact Fz.sh | exact Fz.new rfl (Nat.le_of_ble_eq_true rfl) | exact Fz.mu (by exact rfl) (by fail "norm"))
local macro_rules | `(tactic| fail "fzl") => `(tactic| first | exact FzL.nil | exact FzL.cons (by fail "fz") (by fail "fzl"))
local macro_rules | `(tactic| fail "kps") => `(tactic| first | exact Kps.z | exact Kps.nil | (refine Kps.skip rfl ?_; fail "kps") | (refine Kps.same ?_; fail "kps"))
local macro_rules | `(tactic| fail "wks") => `(tactic| first | exact Wks.nil | (refine Wks.cons .no ?_; fail "wks") | (refine Wks.cons .nm ?_; fail "wks") | ((with_reducible refine Wks.cons .same ?_); fail "wks") | (refine Wks.consE (by first | exact rfl | exact int_eq (by omega) | exact int_eq (by (repeat' split) <;> omega)) ?_; fail "wks") | (refine Wks.consM (by first | exact rfl | assumption) ?_; fail "wks") | (refine Wks.cons .same ?_; fail "wks"))
local macro_rules | `(tactic| fail "blank") => `(tactic| first | exact Blank.nil | (refine Blank.no ?_; fail "blank") | (refine Blank.nm ?_; fail "blank"))
local macro_rules | `(tactic| fail "args") => `(tactic| first | (with_reducible exact ArgR.nil) | ((with_reducible apply ArgR.pu); (fail "fz"); (fail "args")) | ((with_reducible apply ArgR.fe); (fail "args"); exact rfl) | ((with_reducible apply ArgR.mt); (fail "args"); exact rfl))
local macro_rules | `(tactic| fail "num") => `(tactic| first | omega | decide | exact Nat.le_of_ble_eq_true rfl)
/-! one step of an expression -/
local macro_rules | `(tactic| fail "rdd") => `(tactic| first | exact Or.inl rfl | exact Or.inr ⟨_, _, _, rfl, rfl, rfl⟩)
local macro_rules | `(tactic| fail "kE") => `(tactic| first
  | ((with_reducible apply ev_var); exact rfl; fail "lt")
  | (with_reducible apply ev_op)
  | ((with_reducible apply ev_c); (first | exact .int | exact .bl | exact .str | exact .non))
  | (with_reducible apply ev_call)
  | (with_reducible apply ev_cb)
  | ((with_reducible apply ev_varm); exact rfl; fail "lt")
  | ((with_reducible apply ev_varf); exact rfl; fail "lt")
  | (with_reducible apply ev_tup)
  | (with_reducible apply ev_lst)
  | (with_reducible apply ev_fldS)
  | (with_reducible apply ev_prop)
  | (with_reducible apply ev_bm)
  | (with_reducible apply ev_and)
  | (with_reducible apply ev_or)
  | (with_reducible apply ev_not)
  | (with_reducible apply ev_if)
  | (with_reducible apply ev_chain)
  | (with_reducible apply ev_un)
  | (with_reducible apply ev_sl)
  | (with_reducible apply ev_bm0)
  | (with_reducible apply ev_meth)
  | (with_reducible apply ev_make)
  | (with_reducible apply ev_ty)
  | (with_reducible apply ev_revL)
  | fail "stuck")
local macro_rules | `(tactic| fail "kM") => `(tactic| first
  | (with_reducible apply evm_lst)
  | (with_reducible apply evm_list)
  | ((with_reducible apply evm_any); fail "kE")
  | fail "stuck")
local macro_rules | `(tactic| fail "kA") => `(tactic| first
  | (with_reducible apply ea_cons)
  | (with_reducible apply ea_nil)
  | fail "stuck")
local macro_rules | `(tactic| fail "kT") => `(tactic| first
  | (with_reducible apply et_test)
  | (with_reducible apply et_b)
  | (with_reducible apply et_and)
  | (with_reducible apply et_or)
  | (with_reducible apply et_not)
  | (with_reducible apply et_yes)
  | fail "stuck")
local macro_rules | `(tactic| fail "kC") => `(tactic| first | exact Or.inl ⟨by omega, by omega⟩ | exact Or.inr ⟨by omega, by omega⟩ | exact Or.inl ⟨by decide, by decide⟩ | exact Or.inr ⟨by decide, by decide⟩ | exact ⟨by decide, by decide⟩ | exact ⟨by omega, by omega⟩ | exact ⟨by omega, by omega, by decide⟩ | (show _ ≠ _; omega) | (show (_ : Int) < _; omega))
local macro_rules | `(tactic| fail "k2") => `(tactic| first
  | (with_reducible apply rd_ii)
  | (with_reducible apply rd_ib)
  | ((with_reducible apply rd_ix); (first | exact rfl | assumption); (first | ((with_reducible apply atI0); exact rfl) | ((with_reducible apply atI1); exact rfl) | ((with_reducible apply atI2); exact rfl) | ((with_reducible apply atI3); exact rfl) | ((with_reducible apply atI4); exact rfl) | ((with_reducible apply atNk); omega) | ((with_reducible apply atN0); omega) | ((with_reducible apply atN1); omega) | ((with_reducible apply atN2); omega)))
  | ((with_reducible apply rd_ixm); exact rfl; (first | ((with_reducible apply atI0); exact rfl) | ((with_reducible apply atI1); exact rfl) | ((with_reducible apply atI2); exact rfl) | ((with_reducible apply atI3); exact rfl) | ((with_reducible apply atI4); exact rfl) | ((with_reducible apply atNk); omega) | ((with_reducible apply atN0); omega) | ((with_reducible apply atN1); omega) | ((with_reducible apply atN2); omega)))
  | (with_reducible apply rd_eqi)
  | ((with_reducible apply rd_ic); fail "kC")
  | (with_reducible apply rd_nei)
  | (with_reducible apply rd_eqs)
  | (with_reducible apply rd_nes)
  | ((with_reducible apply rd_eqP); fail "pl"; fail "pl")
  | ((with_reducible apply rd_neP); fail "pl"; fail "pl")
  | ((with_reducible apply rd_inP); (first | exact rfl | assumption); fail "pl"; fail "pl")
  | ((with_reducible apply rd_notInP); (first | exact rfl | assumption); fail "pl"; fail "pl")
  | ((with_reducible apply rd_inM); exact rfl; fail "pl"; fail "pl")
  | ((with_reducible apply rd_notInM); exact rfl; fail "pl"; fail "pl")
  | ((with_reducible apply rd_eqM); fail "rdd"; fail "rdd"; fail "pl"; fail "pl")
  | ((with_reducible apply rd_neM); fail "rdd"; fail "rdd"; fail "pl"; fail "pl")
  | (with_reducible apply rd_isN)
  | (with_reducible apply rd_notN)
  | fail "stuck")
local macro_rules | `(tactic| fail "k1") => `(tactic| first
  | ((with_reducible apply rd_slL); (first | exact Or.inl rfl | exact Or.inr rfl))
  | ((with_reducible apply rd_slm); exact rfl)
  | fail "stuck")
local macro_rules | `(tactic| fail "kL") => `(tactic| first
  | ((with_reducible apply rl_len); (first | exact rfl | assumption))
  | ((with_reducible apply rl_lenm); exact rfl)
  | ((with_reducible apply rl_list); (first | exact rfl | assumption))
  | ((with_reducible apply rl_listm); exact rfl)
  | ((with_reducible apply rl_tup); (first | exact rfl | assumption))
  | ((with_reducible apply rl_tupm); exact rfl)
  | (with_reducible apply rl_int)
  | (with_reducible apply rl_intb)
  | (with_reducible apply rl_max2)
  | (with_reducible apply rl_min2)
  | ((with_reducible apply rl_isi); exact rfl; exact rfl)
  | ((with_reducible apply rl_isim); exact rfl; exact rfl)
  | fail "stuck")
local macro_rules | `(tactic| fail "kLM") => `(tactic| first
  | ((with_reducible apply rlm_list); (first | exact rfl | assumption))
  | ((with_reducible apply rlm_listm); exact rfl)
  | fail "stuck")
local macro_rules | `(tactic| fail "kRM") => `(tactic| first
  | (refine rm_append (by fail "fz") rfl (by first | (fail "lt") | (simp only [nt_len, List.length_map]; omega) | omega) ?_)
  | (refine rm_insert (by fail "fz") rfl (by simp only [nt_len, List.length_map]; omega) (by omega) (by simp only [nt_len, List.length_map]; omega) ?_)
  | fail "stuck")
local macro_rules | `(tactic| fail "retN") => `(tactic| (refine ⟨_, _, _, rfl, by fail "lt", rfl, ?_⟩; dsimp only [FinU]))
local macro_rules | `(tactic| fail "kO") => `(tactic| first
  | (with_reducible apply eo_none)
  | (with_reducible apply eo_some)
  | fail "stuck")
local macro_rules | `(tactic| fail "kG") => `(tactic| first
  | ((with_reducible apply eg_name); fail "norm")
  | ((with_reducible apply eg_move); exact rfl; exact rfl; fail "lt"; fail "norm")
  | ((with_reducible apply eg_tup); exact rfl)
  | (with_reducible refine eg_sub (by fail "fz") ?_)
  | ((with_reducible apply eg_lst); exact rfl)
  | fail "stuck")
local macro_rules | `(tactic| fail "kGs") => `(tactic| first
  | (with_reducible apply egs_cons)
  | (with_reducible apply egs_nil)
  | fail "stuck")
local macro_rules | `(tactic| fail "kI") => `(tactic| first
  | (with_reducible apply ei_row)
  | (with_reducible apply ei_list)
  | (with_reducible apply ei_tup)
  | (with_reducible apply ei_range1)
  | (with_reducible apply ei_range2)
  | fail "stuck")
local macro_rules | `(tactic| fail "kS") => `(tactic| first
  | (with_reducible apply es_seq)
  | ((with_reducible apply es_asgM); exact rfl)
  | (with_reducible apply es_asg)
  | (with_reducible apply es_ret)
  | (with_reducible apply es_if)
  | (with_reducible apply es_dropE)
  | (with_reducible apply es_next)
  | (with_reducible apply es_break)
  | (with_reducible apply es_cont)
  | (with_reducible apply es_retN)
  | (with_reducible apply es_fldN)
  | fail "stuck")
/-! what is left: choices, splits -/
local macro_rules | `(tactic| fail "dA") => `(tactic| first
  | (refine spl_t rfl ?_) | (refine spl_f rfl ?_)
  | ((with_reducible apply spl_dt); omega) | ((with_reducible apply spl_df); omega)
  | ((with_reducible apply spl_ndt); omega) | ((with_reducible apply spl_ndf); omega)
  | (refine ⟨ty_mu (by exact rfl), ?_⟩)
  | fail "stuck")
local macro_rules | `(tactic| fail "dE") => `(tactic| first
  | (refine ⟨_, rfl, by omega, by omega, ?_⟩)
  | (refine ⟨_, rfl, ?_⟩)
  | (refine ⟨_, _, by fail "fzl", by (exact Nat.le_of_ble_eq_true rfl), ?_⟩)
  | (refine ⟨_, _, _, by fail "fz", rfl, ?_⟩)
  | (refine ⟨_, _, _, by fail "fz", by assumption, ?_⟩)
  | (refine ⟨_, _, _, by fail "fz", Or.inl rfl, ?_⟩)
  | (refine ⟨_, _, _, by fail "fz", Or.inr rfl, ?_⟩)
  | (refine ⟨_, by fail "lt", by fail "norm", ?_⟩)
  | (refine ⟨_, _, by fail "fz", ?_⟩)
  | (refine ⟨_, _, _, _, _, _, _, rfl, rfl, rfl, rfl, rfl, by fail "lt", by fail "norm", ?_⟩)
  | (refine ⟨_, Or.inl rfl, ?_⟩)
  | fail "fld"
  | fail "fldN"
  | (refine ⟨_, _, rfl, ⟨by omega, by omega, by omega, by omega⟩, ?_⟩)
  | fail "stuck")
/-! the end of a def; what a comprehension asks -/
local macro_rules | `(tactic| fail "ret") => `(tactic| first | (refine ⟨_, _, by fail "fz", ?_⟩; dsimp only [FinU]) | dsimp only [FinU])
local macro_rules | `(tactic| fail "gok") => `(tactic| first | exact gok_name (by decide) | exact gok_tup (gsok_cons gmono_name (gok_name (by decide)) (gsok_cons gmono_name (gok_name (by decide)) gsok_nil)) | exact gok_tup (gsok_cons gmono_name (gok_name (by decide)) (gsok_cons gmono_name (gok_name (by decide)) (gsok_cons gmono_name (gok_name (by decide)) gsok_nil))))
local macro_rules | `(tactic| fail "start") => `(tactic| refine es_norm (by fail "norm") ?_)
local macro_rules | `(tactic| fail "end") => `(tactic| (refine ⟨_, by fail "fz", by fail "kps"⟩))
local macro_rules | `(tactic| fail "s") => `(tactic| first
  | ((guard_target = EvE _ _ _ _); fail "kE")
  | ((guard_target = EvS _ _ _ _); fail "kS")
  | ((guard_target = Rd2 _ _ _ _ _ _); fail "k2")
  | ((guard_target = EvA _ _ _ _); fail "kA")
  | ((guard_target = EvG _ _ _ _ _); fail "kG")
  | ((guard_target = EvT _ _ _ _); fail "kT")
  | ((guard_target = RdL _ _ _ _ _); fail "kL")
  | ((guard_target = EvM _ _ _ _); fail "kM")
  | ((guard_target = EvI _ _ _ _); fail "kI")
  | ((guard_target = EvGs _ _ _ _ _); fail "kGs")
  | ((guard_target = RdM _ _ _ _ _ _); fail "kRM")
  | ((guard_target = RdLM _ _ _ _ _); fail "kLM")
  | ((guard_target = EvO _ _ _ _); fail "kO")
  | ((guard_target = Rd1 _ _ _ _ _); fail "k1")
  | ((guard_target = Exists _); fail "dE")
  | ((guard_target = And _ _); fail "dA")
  | fail "stuck")
local macro_rules | `(tactic| fail "go") => `(tactic| repeat' fail "s")
local macro_rules | `(tactic| fail "call") => `(tactic| refine spe_W (by fail "args") (by first | decide | simp) ?_)
local macro_rules | `(tactic| fail "callN") => `(tactic| refine spe_N (by fail "args") (by first | decide | simp) ?_)
local macro_rules | `(tactic| fail "app") => `(tactic| (refine rm_append (by fail "fz") rfl (by first | (fail "lt") | (simp only [nt_len, List.length_map]; omega) | omega) ?_; refine ⟨_, by fail "lt", by fail "norm", ?_⟩))
local macro_rules | `(tactic| fail "take") => `(tactic| refine spe_take rfl (by omega) (by omega) (fun _ _ => ?_))
def wp_law_crew : WpT := fun ts Φ _ => ∃ (m u : Nat), ts = [.non, .int (m : Int), .int (u : Int)] ∧ 1 ≤ m ∧ m ≤ 4 ∧ 1 ≤ u ∧ u ≤ 16 ∧ ∀ r : Rows, r.ok → Φ (rowsT r) []
section
variable {P : Program} {w : World} {K : PySem.W.Frag} {mg : Str → Option Value} {base : Heap}
theorem ok_law_crew {f : Addr} {fd : FuncData} {k : Nat} (F : Fun K "_law_crew" "_law_crew" s_law_crew f fd) (O_law_take : Ok P w K mg base k "_law_take" P_law_take spTake) (mmin : mg "min" = none) (mrange : mg "range" = none) : FnOk P w K mg base CX0 (k + 1) f fd P_law_crew (spW K [.fe, .pu, .pu] wp_law_crew) := by
  refine F.ok sc_law_crew (fun vs H Q E h => len_W rfl h) (fun cdv A outer s H vs Q E hr h => ⟨_, (pss_cons (ps_set (i := 3) sc_law_crew.nd rfl (Or.inl rfl) (pe_op op_add pe_int (pe_c O_law_take hr (by rfl) (pa_cons (pv 0) (pa_cons (pv 1) pa_nil)))))
    (C8.pss_cut (ps_if (pt_cmpR op_eq (pe_c O_law_take hr (by rfl) (pa_cons (pv 0) (pa_cons pe_int pa_nil))) pe_int (nomark _))
      (pss_one (ps_set (i := 3) sc_law_crew.nd rfl (Or.inl rfl) (pe_callB (call_min2 rfl) (by rfl) mmin (by decide +kernel) (pa_cons (pv 3) (pa_cons pe_int pa_nil)))))
      pss_nil)
    (pss_cons (ps_set (i := 4) sc_law_crew.nd rfl (Or.inl rfl) (pe_op op_add pe_int (pe_c O_law_take hr (by rfl) (pa_cons (pv 0) (pa_cons (pv 2) pa_nil)))))
    (pss_cons (ps_set (i := 5) sc_law_crew.nd rfl (Or.inl rfl) (pe_ix (r := rIx K) ix_seq (pe_lst (pa_cons pe_int (pa_cons pe_int (pa_cons pe_int (pa_cons pe_int (pa_cons pe_int pa_nil)))))) (pv 3) (fun _ _ => rfl)))
    (pss_cons (ps_set (i := 6) sc_law_crew.nd rfl (Or.inl rfl) (pe_c O_law_take hr (by rfl) (pa_cons (pv 0) (pa_cons pe_int pa_nil))))
    (pss_cons (ps_set (i := 7) sc_law_crew.nd rfl (Or.inl rfl) (pe_lst pa_nil))
    (pss_cons (ps_set (i := 8) sc_law_crew.nd rfl (Or.inl rfl) (pe_lst pa_nil))
    (pss_cons (ps_for PassesOwn.never rfl (pi_range1 (by rfl) mrange (pa_cons (pv 4) pa_nil)) (pg_name (i := 9) sc_law_crew.nd rfl (Or.inl rfl))
      (C8.pss_cut (ps_if (pt_cmpR op_eq (pv 6) pe_int (nomark _))
        (pss_one (ps_expr (pe_bmK (K := K) PySem.F.plainAttrs_list PySem.F.slot_list_append PySem.F.type_list_append mt_append (pv 7) (pa_cons (pe_op op_fdivN (pe_op op_mul (pv 9) (pv 5)) (pv 4)) pa_nil))))
        (pss_one (ps_if (pt_cmpR op_eq (pv 6) pe_int (nomark _))
          (pss_one (ps_expr (pe_bmK (K := K) PySem.F.plainAttrs_list PySem.F.slot_list_append PySem.F.type_list_append mt_append (pv 7) (pa_cons (pe_op op_mul (pe_c O_law_take hr (by rfl) (pa_cons (pv 0) (pa_cons pe_int pa_nil))) (pe_op op_sub (pv 5) pe_int)) pa_nil))))
          (pss_one (ps_expr (pe_bmK (K := K) PySem.F.plainAttrs_list PySem.F.slot_list_append PySem.F.type_list_append mt_append (pv 7) (pa_cons (pe_c O_law_take hr (by rfl) (pa_cons (pv 0) (pa_cons (pv 5) pa_nil))) pa_nil)))))))
      (pss_cons (ps_set (i := 10) sc_law_crew.nd rfl (Or.inl rfl) (pe_c O_law_take hr (by rfl) (pa_cons (pv 0) (pa_cons pe_int pa_nil))))
      (pss_one (ps_if (pt_cmpR op_eq (pv 10) pe_int (nomark _))
        (pss_one (ps_expr (pe_bmK (K := K) PySem.F.plainAttrs_list PySem.F.slot_list_append PySem.F.type_list_append mt_append (pv 8) (pa_cons (pe_lcK (vs := [11]) (pe_lc (own := [("j", 11)]) (g := (gName 11)) (tt := tYes) rfl sc_law_crew.nd (pi_range1 (by rfl) mrange (pa_cons (pe_op op_sub (pv 5) pe_int) pa_nil)) (blkOk_by (N := N_law_crew) (sc := defScope s_law_crew) (by decide +kernel)) (fun _ _ _ _ _ => (pg_name (i := 11) sc_law_crew.nd rfl (Or.inl rfl))) (fun _ _ _ _ _ => pts_nil) (fun _ _ _ _ _ => pe_int))) pa_nil))))
        (pss_one (ps_if (pt_cmpR op_eq (pv 10) pe_int (nomark _))
          (pss_one (ps_expr (pe_bmK (K := K) PySem.F.plainAttrs_list PySem.F.slot_list_append PySem.F.type_list_append mt_append (pv 8) (pa_cons (pe_lcK (vs := [11]) (pe_lc (own := [("j", 11)]) (g := (gName 11)) (tt := tYes) rfl sc_law_crew.nd (pi_range1 (by rfl) mrange (pa_cons (pe_op op_sub (pv 5) pe_int) pa_nil)) (blkOk_by (N := N_law_crew) (sc := defScope s_law_crew) (by decide +kernel)) (fun _ _ _ _ _ => (pg_name (i := 11) sc_law_crew.nd rfl (Or.inl rfl))) (fun _ _ _ _ _ => pts_nil) (fun _ _ _ _ _ => pe_int))) pa_nil))))
          (pss_one (ps_expr (pe_bmK (K := K) PySem.F.plainAttrs_list PySem.F.slot_list_append PySem.F.type_list_append mt_append (pv 8) (pa_cons (pe_lcK (vs := [11]) (pe_lc (own := [("j", 11)]) (g := (gName 11)) (tt := tYes) rfl sc_law_crew.nd (pi_range1 (by rfl) mrange (pa_cons (pe_op op_sub (pv 5) pe_int) pa_nil)) (blkOk_by (N := N_law_crew) (sc := defScope s_law_crew) (by decide +kernel)) (fun _ _ _ _ _ => (pg_name (i := 11) sc_law_crew.nd rfl (Or.inl rfl))) (fun _ _ _ _ _ => pts_nil) (fun _ _ _ _ _ => (pe_c O_law_take hr (by rfl) (pa_cons (pv 0) (pa_cons pe_int pa_nil)))))) pa_nil)))))))))))
    (pss_one (ps_ret (pe_lst (pa_cons (pv 3) (pa_cons (pv 7) (pa_cons (pv 8) pa_nil)))))))))))))), ?_⟩)
  refine run_W (n := 12) (rest := [.no, .no, .no, .no, .nm, .nm, .no, .no, .no]) rfl (by fail "blank") rfl (fun ts as Φ Ψ hts has w => ?_) h
  obtain ⟨a0, rfl⟩ := as1 has
  -- slots: 0 feed 1 tallest 2 upto 3 height 4 count 5 leaves 6 kind 7 seats* 8 leanings* 9 k 10 sort 11 j
  obtain ⟨m, u, rfl, m1, m4, u1, u16, q⟩ := w
  fail "start"
  fail "go"
  fail "take"
  fail "go"
  rename_i x0 hx0
  refine es_cut (fun ρ' => ∃ h : Nat, 1 ≤ h ∧ h ≤ 4 ∧ ρ' = [.fd a0, .sh (.int (m : Int)), .sh (.int (u : Int)), .sh (.int (h : Int)), .no, .no, .no, .nm, .nm, .no, .no, .no]) ?_ fun ρ' hM => ?_
  · fail "go"
    fail "take"
    fail "go"
    refine spl_d (fun c => ?_) (fun c => ?_)
    · fail "go"
      refine ⟨_, ?_, by fail "lt", if 2 < 1 + x0 then 2 else 1 + x0, by split <;> omega, by split <;> omega, rfl⟩
      fail "wks"
    · fail "go"
      refine ⟨_, ?_, by fail "lt", 1 + x0, by omega, by omega, rfl⟩
      fail "wks"
  · obtain ⟨h, h1, h4, rfl⟩ := hM
    fail "go"
    fail "take"
    fail "go"
    rename_i x1 hx1
    have e5 : ([T.int 1, T.int 2, T.int 4, T.int 8, T.int 16] : List T)[h]? = some (.int ((2 ^ h : Nat) : Int)) := by
      have : h = 1 ∨ h = 2 ∨ h = 3 ∨ h = 4 := by omega
      rcases this with rfl | rfl | rfl | rfl <;> rfl
    have hN : 2 ≤ 2 ^ h ∧ 2 ^ h ≤ 16 := by
      have : h = 1 ∨ h = 2 ∨ h = 3 ∨ h = 4 := by omega
      rcases this with rfl | rfl | rfl | rfl <;> simp
    refine rd_ix rfl (atI_eq rfl e5) ?_
    generalize hE : 2 ^ h = N at hN e5
    fail "go"
    refine spe_take rfl (by omega) (by omega) fun x2 hx2 => ?_
    fail "go"
    intro ps
    fail "go"
    intro pl
    fail "go"
    refine es_for ?_
    fail "go"
    refine ⟨by fail "lt", fun i ρ' => ∃ (ss : List Nat) (ls : List (List Nat)), ss.length = i ∧ ls.length = i ∧ (∀ x ∈ ss, x < N) ∧ (∀ row ∈ ls, row.length = N - 1 ∧ ∀ x ∈ row, x ≤ 1) ∧
      ρ' = [.fd a0, .sh (.int (m : Int)), .sh (.int (u : Int)), .sh (.int (h : Int)), .sh (.int (1 + (x1 : Int))), .sh (.int (N : Int)), .sh (.int (x2 : Int)), .mu ps (.lst (nt ss)), .mu pl (.lst (ls.map fun row => .lst (nt row))), .no, .no, .no],
      ⟨[], [], rfl, rfl, by simp, by simp, rfl⟩, fun i t ρ' ht hI => ?_, fun ρ' hI => ?_⟩
    · obtain ⟨ss, ls, l1, l2, hs, hr, rfl⟩ := hI
      obtain ⟨hi, rfl⟩ := rgT_get0 ht
      have hi : i < 1 + x1 := by omega
      fail "go"
      refine es_cut (fun ρ' => ∃ s0 : Nat, s0 < N ∧ ρ' = [.fd a0, .sh (.int (m : Int)), .sh (.int (u : Int)), .sh (.int (h : Int)), .sh (.int (1 + (x1 : Int))), .sh (.int (N : Int)), .sh (.int (x2 : Int)), .mu ps (.lst (nt (ss ++ [s0]))), .mu pl (.lst (ls.map fun row => .lst (nt row))), .no, .no, .no]) ?_ fun ρ' hM => ?_
      · fail "go"
        refine spl_d (fun c => ?_) (fun c => ?_)
        · fail "go"
          have e1 : Int.fdiv ((i : Int) * (N : Int)) (1 + (x1 : Int)) = ((i * N / (1 + x1) : Nat) : Int) := by
            rw [show (i : Int) * (N : Int) = ((i * N : Nat) : Int) by simp, show 1 + (x1 : Int) = ((1 + x1 : Nat) : Int) by simp, fdiv_nat]
          have e := nt_sn (ns := ss) e1
          refine ⟨_, ?_, by fail "lt", i * N / (1 + x1), Nat.div_lt_of_lt_mul (Nat.mul_lt_mul_of_pos_right (by omega) (by omega)), rfl⟩
          fail "wks"
        · fail "go"
          refine spl_d (fun c2 => ?_) (fun c2 => ?_)
          · fail "go"
            refine spe_take rfl (by omega) (by omega) fun x3 hx3 => ?_
            fail "go"
            have e1 : (x3 : Int) * ((N : Int) - 1) = ((x3 * (N - 1) : Nat) : Int) := by
              rw [show (N : Int) - 1 = ((N - 1 : Nat) : Int) by omega]
              simp
            have e := nt_sn (ns := ss) e1
            have : x3 = 0 ∨ x3 = 1 := by omega
            refine ⟨_, ?_, by fail "lt", x3 * (N - 1), by rcases this with rfl | rfl <;> omega, rfl⟩
            fail "wks"
          · fail "go"
            refine spe_take rfl (by omega) (by omega) fun x3 hx3 => ?_
            fail "go"
            have e := nt_sn (ns := ss) (x := (x3 : Int)) rfl
            refine ⟨_, ?_, by fail "lt", x3, by omega, rfl⟩
            fail "wks"
      · obtain ⟨s0, hs0, rfl⟩ := hM
        have hs2 := mem_snoc hs hs0
        have l3 : (ss ++ [s0]).length = i + 1 := by rw [List.length_append, l1]; rfl
        generalize ss ++ [s0] = ss' at hs2 l3 ⊢
        have fin : ∀ row : List Nat, row.length = N - 1 → (∀ x ∈ row, x ≤ 1) → (fun (i : Nat) (ρ' : List U) => ∃ (ss : List Nat) (ls : List (List Nat)), ss.length = i ∧ ls.length = i ∧ (∀ x ∈ ss, x < N) ∧ (∀ row ∈ ls, row.length = N - 1 ∧ ∀ x ∈ row, x ≤ 1) ∧
      ρ' = [.fd a0, .sh (.int (m : Int)), .sh (.int (u : Int)), .sh (.int (h : Int)), .sh (.int (1 + (x1 : Int))), .sh (.int (N : Int)), .sh (.int (x2 : Int)), .mu ps (.lst (nt ss)), .mu pl (.lst (ls.map fun row => .lst (nt row))), .no, .no, .no]) (i + 1) [.fd a0, .sh (.int (m : Int)), .sh (.int (u : Int)), .sh (.int (h : Int)), .sh (.int (1 + (x1 : Int))), .sh (.int (N : Int)), .sh (.int (x2 : Int)), .mu ps (.lst (nt ss')), .mu pl (.lst ((ls ++ [row]).map fun row => .lst (nt row))), .no, .no, .no] := fun row h1 h2 =>
          ⟨ss', ls ++ [row], l3, by rw [List.length_append, l2]; rfl, hs2, mem_snoc hr ⟨h1, h2⟩, rfl⟩
        fail "go"
        refine spe_take rfl (by omega) (by omega) fun x3 hx3 => ?_
        fail "go"
        refine spl_d (fun c => ?_) (fun c => ?_)
        · fail "go"
          refine ev_lc (f := fun _ => .int 0) (by fail "gok") ?_
          fail "go"
          refine ⟨by fail "lt", by rw [rgT_len]; omega, fun i2 t2 ht2 => ?_, ?_⟩
          · obtain ⟨_, rfl⟩ := rgT_get0 ht2
            refine eg_norm (by fail "norm") ?_
            fail "go"
            fail "end"
          rw [rgT_len]
          fail "go"
          have e : T.lst ((ls.map fun row => T.lst (nt row)) ++ [.lst ((List.range ((N : Int) - 1).toNat).map fun _ => .int 0)]) = T.lst ((ls ++ [List.replicate (N - 1) 0]).map fun row => T.lst (nt row)) := by
            rw [← map_sn, const_nt0 (k := N - 1) (by omega)]
          refine ⟨_, ?_, by fail "lt", fin (List.replicate (N - 1) 0) (by simp) (by simp)⟩
          fail "wks"
        · fail "go"
          refine spl_d (fun c => ?_) (fun c => ?_)
          · fail "go"
            refine ev_lc (f := fun _ => .int 1) (by fail "gok") ?_
            fail "go"
            refine ⟨by fail "lt", by rw [rgT_len]; omega, fun i2 t2 ht2 => ?_, ?_⟩
            · obtain ⟨_, rfl⟩ := rgT_get0 ht2
              refine eg_norm (by fail "norm") ?_
              fail "go"
              fail "end"
            rw [rgT_len]
            fail "go"
            have e : T.lst ((ls.map fun row => T.lst (nt row)) ++ [.lst ((List.range ((N : Int) - 1).toNat).map fun _ => .int 1)]) = T.lst ((ls ++ [List.replicate (N - 1) 1]).map fun row => T.lst (nt row)) := by
              rw [← map_sn, const_nt1 (k := N - 1) (by omega)]
            refine ⟨_, ?_, by fail "lt", fin (List.replicate (N - 1) 1) (by simp) (by simp)⟩
            fail "wks"
          · fail "go"
            refine ev_lcP (P := fun _ u => ∃ n : Nat, u = .int (n : Int) ∧ n ≤ 1) (by fail "gok") ?_
            fail "go"
            refine ⟨by fail "lt", by rw [rgT_len]; omega, fun i2 t2 ht2 => ?_, fun us hus hp => ?_⟩
            · obtain ⟨_, rfl⟩ := rgT_get0 ht2
              refine eg_norm (by fail "norm") ?_
              fail "go"
              refine spe_take rfl (by omega) (by omega) fun x4 hx4 => ?_
              exact ⟨_, _, .sh, by fail "kps", x4, rfl, by omega⟩
            obtain ⟨row, rfl, hrow⟩ := nt_ofI hp
            rw [rgT_len, nt_len] at hus
            fail "go"
            refine ⟨_, ?_, by fail "lt", fin row (by omega) hrow⟩
            have e := map_sn (xs := ls) (x := row) (f := fun row => T.lst (nt row))
            fail "wks"
    · obtain ⟨ss, ls, l1, l2, hs, hr, rfl⟩ := hI
      rw [rgT_len] at l1 l2
      fail "go"
      fail "ret"
      have ko : Rows.ok ⟨h, ss, ls⟩ := ⟨h1, h4, by show 1 ≤ ss.length; omega, by show ss.length ≤ 16; omega, by unfold Rows.N; rw [hE]; exact hs, by show ls.length = ss.length; omega, by unfold Rows.N; rw [hE]; exact fun row m => (hr row m).1, fun row m => (hr row m).2⟩
      exact ⟨rfl, q ⟨h, ss, ls⟩ ko⟩
end
end K26
set_option maxHeartbeats 1000000
namespace K26
open PySem L2 Vk Tr
local macro_rules | `(tactic| fail "fld") => `(tactic| first
  | refine ⟨_, _, _, _, rfl, CTCrew.cl (by assumption), CTCrew.n_height (by assumption), fx_Crew_height, rfl, ?_⟩
  | refine ⟨_, _, _, _, rfl, CTCrew.cl (by assumption), CTCrew.n_seats (by assumption), fx_Crew_seats, rfl, ?_⟩
  | refine ⟨_, _, _, _, rfl, CTCrew.cl (by assumption), CTCrew.n_leanings (by assumption), fx_Crew_leanings, rfl, ?_⟩
  | fail "stuck")
local macro_rules | `(tactic| fail "fldN") => `(tactic| first
  | refine ⟨_, _, _, _, _, rfl, rfl, CTCrew.cl (by assumption), CTCrew.n_height (by assumption), fn_Crew_height, by fail "lt", by fail "lt", by fail "norm", ?_⟩
  | refine ⟨_, _, _, _, _, rfl, rfl, CTCrew.cl (by assumption), CTCrew.n_seats (by assumption), fn_Crew_seats, by fail "lt", by fail "lt", by fail "norm", ?_⟩
  | refine ⟨_, _, _, _, _, rfl, rfl, CTCrew.cl (by assumption), CTCrew.n_leanings (by assumption), fn_Crew_leanings, by fail "lt", by fail "lt", by fail "norm", ?_⟩
  | fail "stuck")
local macro_rules | `(tactic| fail "lt") => `(tactic| exact Nat.le_of_ble_eq_true rfl)
local macro_rules | `(tactic| fail "norm") => `(tactic| first | (simp only [puts, List.take_succ_cons, List.take_zero, List.take_nil, List.set_cons_zero, List.set_cons_succ, List.cons_append, List.nil_append, initU, wipeU, List.length_cons, List.length_nil, Nat.zero_add, Nat.reduceAdd]; done) | (simp only [puts, List.take_succ_cons, List.take_zero, List.take_nil, List.set_cons_zero, List.set_cons_succ, List.cons_append, List.nil_append, initU, wipeU, List.length_cons, List.length_nil, Nat.zero_add, Nat.reduceAdd]; exact rfl) | exact rfl)
local macro_rules | `(tactic| fail "pl") => `(tactic| first
  | exact pl_int | exact pl_str | exact pl_bl | exact pl_non | exact pl_nil
  | ((with_reducible refine pl_lst ?_); fail "pl") | ((with_reducible refine pl_tup ?_); fail "pl") | ((with_reducible refine pl_cl ?_); fail "pl")
  | exact pl_nt | exact pl_txs
  | ((with_reducible refine pl_cons ?_ ?_); (fail "pl"); (fail "pl"))
  | ((with_reducible refine pl_map fun _ _ => ?_); fail "pl")
  | assumption)
local macro_rules | `(tactic| fail "fz") => `(tactic| first | exact Fz.sh | exact Fz.new rfl (Nat.le_of_ble_eq_true rfl) | exact Fz.mu (by exact rfl) (by fail "norm"))
local macro_rules | `(tactic| fail "fzl") => `(tactic| first | exact FzL.nil | exact FzL.cons (by fail "fz") (by fail "fzl"))
local macro_rules | `(tactic| fail "kps") => `(tactic| first | exact Kps.z | exact Kps.nil | (refine Kps.skip rfl ?_; fail "kps") | (refine Kps.same ?_; fail "kps"))
local macro_rules | `(tactic| fail "wks") => `(tactic| first | exact Wks.nil | (refine Wks.cons .no ?_; fail "wks") | (refine Wks.cons .nm ?_; fail "wks") | ((with_reducible refine Wks.cons .same ?_); fail "wks") | (refine Wks.consE (by first | exact rfl | exact int_eq (by omega) | exact int_eq (by (repeat' split) <;> omega)) ?_; fail "wks") | (refine Wks.consM (by first | exact rfl | assumption) ?_; fail "wks") | (refine Wks.cons .same ?_; fail "wks"))
local macro_rules | `(tactic| fail "blank") => `(tactic| first | exact Blank.nil | (refine Blank.no ?_; fail "blank") | (refine Blank.nm ?_; fail "blank"))
local macro_rules | `(tactic| fail "args") => `(tactic| first | (with_reducible exact ArgR.nil) | ((with_reducible apply ArgR.pu); (fail "fz"); (fail "args")) | ((with_reducible apply ArgR.fe); (fail "args"); exact rfl) | ((with_reducible apply ArgR.mt); (fail "args"); exact rfl))
local macro_rules | `(tactic| fail "tx") => `(tactic| first | (with_reducible exact rfl) | (with_reducible exact tx_sp) | (with_reducible exact tx_nl) | (with_reducible exact tx_e) | (with_reducible exact tx_hd) | (with_reducible exact tx_01) | exact tx1 _ | exact txof _ | exact rfl)
local macro_rules | `(tactic| fail "ll") => `(tactic| first | omega | assumption | decide | (simp only [List.length_append, List.length_cons, List.length_nil, List.length_take, List.length_drop, List.length_map, List.length_replicate, List.length_range, List.length_reverse, tx_len]; omega) | (refine Nat.le_trans cutL_len ?_; fail "ll") | (refine Nat.le_trans (numL2 (by omega)) ?_; decide) | (refine lcat ?_ ?_ <;> fail "ll"))
local macro_rules | `(tactic| fail "tl") => `(tactic| first | assumption | omega | decide | (simp only [tx_len, tx_app, List.length_append, List.length_cons, List.length_nil]; omega) | (exact Nat.le_of_ble_eq_true rfl))
local macro_rules | `(tactic| fail "num") => `(tactic| first | omega | decide | exact Nat.le_of_ble_eq_true rfl)
/-! one step of an expression -/
local macro_rules | `(tactic| fail "rdd") => `(tactic| first | exact Or.inl rfl | exact Or.inr ⟨_, _, _, rfl, rfl, rfl⟩)
local macro_rules | `(tactic| fail "kE") => `(tactic| first
  | ((with_reducible apply ev_var); exact rfl; fail "lt")
  | (with_reducible apply ev_op)
  | ((with_reducible apply ev_c); (first | exact .int | exact .bl | exact .str | exact .non))
  | (with_reducible apply ev_call)
  | (with_reducible apply ev_cb)
  | ((with_reducible apply ev_varm); exact rfl; fail "lt")
  | ((with_reducible apply ev_varf); exact rfl; fail "lt")
  | (with_reducible apply ev_tup)
  | (with_reducible apply ev_lst)
  | (with_reducible apply ev_fldS)
  | (with_reducible apply ev_prop)
  | (with_reducible apply ev_bm)
  | (with_reducible apply ev_and)
  | (with_reducible apply ev_or)
  | (with_reducible apply ev_not)
  | (with_reducible apply ev_if)
  | (with_reducible apply ev_chain)
  | (with_reducible apply ev_un)
  | (with_reducible apply ev_sl)
  | (with_reducible apply ev_bm0)
  | (with_reducible apply ev_meth)
  | (with_reducible apply ev_make)
  | (with_reducible apply ev_ty)
  | (with_reducible apply ev_revL)
  | (with_reducible apply ev_joinTx)
  | (with_reducible apply ev_bits)
  | (with_reducible apply ev_callS)
  | (with_reducible apply ev_cref)
  | (with_reducible apply ev_xf)
  | (with_reducible apply ev_listRev)
  | (with_reducible apply ev_joined)
  | (with_reducible apply ev_fmt)
  | (with_reducible apply ev_split)
  | fail "stuck")
local macro_rules | `(tactic| fail "kM") => `(tactic| first
  | (with_reducible apply evm_lst)
  | (with_reducible apply evm_list)
  | ((with_reducible apply evm_any); fail "kE")
  | fail "stuck")
local macro_rules | `(tactic| fail "kA") => `(tactic| first
  | (with_reducible apply ea_cons)
  | (with_reducible apply ea_nil)
  | fail "stuck")
local macro_rules | `(tactic| fail "kT") => `(tactic| first
  | (with_reducible apply et_test)
  | (with_reducible apply et_b)
  | (with_reducible apply et_and)
  | (with_reducible apply et_or)
  | (with_reducible apply et_not)
  | (with_reducible apply et_yes)
  | fail "stuck")
local macro_rules | `(tactic| fail "kC") => `(tactic| first | exact Or.inl ⟨by omega, by omega⟩ | exact Or.inr ⟨by omega, by omega⟩ | exact Or.inl ⟨by decide, by decide⟩ | exact Or.inr ⟨by decide, by decide⟩ | exact ⟨by decide, by decide⟩ | exact ⟨by omega, by omega⟩ | exact ⟨by omega, by omega, by decide⟩ | (show _ ≠ _; omega) | (show (0 : Int) ≤ _; omega) | (show (_ : Int) < _; omega))
local macro_rules | `(tactic| fail "k2") => `(tactic| first
  | (with_reducible apply rd_ii)
  | (with_reducible apply rd_ib)
  | ((with_reducible apply rd_ix); (first | exact rfl | assumption); (first | ((with_reducible apply atI_ltd); assumption) | ((with_reducible apply atI0); exact rfl) | ((with_reducible apply atI1); exact rfl) | ((with_reducible apply atI2); exact rfl) | ((with_reducible apply atI3); exact rfl) | ((with_reducible apply atI4); exact rfl) | ((with_reducible apply atI_lean0); assumption) | ((with_reducible apply atI_map2); assumption) | ((with_reducible apply atI_two); assumption) | ((with_reducible apply atI_lean); assumption; assumption) | ((with_reducible apply atNk); omega) | ((with_reducible apply atN0); omega) | ((with_reducible apply atN1); omega) | ((with_reducible apply atN2); omega)))
  | ((with_reducible apply rd_ixm); exact rfl; (first | ((with_reducible apply atI_ltd); assumption) | ((with_reducible apply atI0); exact rfl) | ((with_reducible apply atI1); exact rfl) | ((with_reducible apply atI2); exact rfl) | ((with_reducible apply atI3); exact rfl) | ((with_reducible apply atI4); exact rfl) | ((with_reducible apply atI_lean0); assumption) | ((with_reducible apply atI_map2); assumption) | ((with_reducible apply atI_two); assumption) | ((with_reducible apply atI_lean); assumption; assumption) | ((with_reducible apply atNk); omega) | ((with_reducible apply atN0); omega) | ((with_reducible apply atN1); omega) | ((with_reducible apply atN2); omega)))
  | (with_reducible apply rd_eqi)
  | ((with_reducible apply rd_ic); fail "kC")
  | (with_reducible apply rd_nei)
  | ((with_reducible apply rd_eqTx); fail "tx"; fail "tx")
  | ((with_reducible apply rd_neTx); fail "tx"; fail "tx")
  | (with_reducible apply rd_eqs)
  | (with_reducible apply rd_nes)
  | ((with_reducible apply rd_eqP); fail "pl"; fail "pl")
  | ((with_reducible apply rd_neP); fail "pl"; fail "pl")
  | ((with_reducible apply rd_inTx); fail "tx")
  | ((with_reducible apply rd_notInTx); fail "tx")
  | ((with_reducible apply rd_inP); (first | exact rfl | assumption); fail "pl"; fail "pl")
  | ((with_reducible apply rd_notInP); (first | exact rfl | assumption); fail "pl"; fail "pl")
  | ((with_reducible apply rd_inM); exact rfl; fail "pl"; fail "pl")
  | ((with_reducible apply rd_notInM); exact rfl; fail "pl"; fail "pl")
  | ((with_reducible apply rd_eqM); fail "rdd"; fail "rdd"; fail "pl"; fail "pl")
  | ((with_reducible apply rd_neM); fail "rdd"; fail "rdd"; fail "pl"; fail "pl")
  | (with_reducible apply rd_isN)
  | (with_reducible apply rd_notN)
  | ((with_reducible apply rd_catN); fail "rdd"; fail "rdd"; fail "om")
  | ((with_reducible apply rd_rep); fail "rdd"; fail "om"; fail "om"; fail "om")
  | (with_reducible apply rd_notInX)
  | ((with_reducible apply rd_addTx); fail "tx"; fail "tx"; fail "ll"; fail "ll")
  | (with_reducible apply rd_inC)
  | (with_reducible apply rd_notInC)
  | ((with_reducible apply rd_mulT); fail "tl"; fail "tl")
  | fail "stuck")
local macro_rules | `(tactic| fail "k1") => `(tactic| first
  | ((with_reducible apply rd_slL); (first | exact Or.inl rfl | exact Or.inr rfl))
  | ((with_reducible apply rd_slm); exact rfl)
  | (with_reducible apply rd_neg)
  | ((with_reducible apply rd_slTx); fail "tx"; fail "ll")
  | fail "stuck")
local macro_rules | `(tactic| fail "kL") => `(tactic| first
  | ((with_reducible apply rl_len); (first | exact rfl | assumption))
  | ((with_reducible apply rl_lenm); exact rfl)
  | ((with_reducible apply rl_list); (first | exact rfl | assumption))
  | ((with_reducible apply rl_listm); exact rfl)
  | ((with_reducible apply rl_tup); (first | exact rfl | assumption))
  | ((with_reducible apply rl_tupm); exact rfl)
  | (with_reducible apply rl_int)
  | (with_reducible apply rl_intb)
  | (with_reducible apply rl_max2)
  | (with_reducible apply rl_min2)
  | ((with_reducible apply rl_isi); exact rfl; exact rfl)
  | ((with_reducible apply rl_isim); exact rfl; exact rfl)
  | ((with_reducible apply rl_lenTx); fail "tx"; fail "ll")
  | ((with_reducible apply rl_minN); fail "rdd"; fail "om")
  | (with_reducible apply rl_allM)
  | ((with_reducible apply rl_strN); fail "om")
  | fail "stuck")
local macro_rules | `(tactic| fail "kLM") => `(tactic| first
  | ((with_reducible apply rlm_list); (first | exact rfl | assumption))
  | ((with_reducible apply rlm_listm); exact rfl)
  | fail "stuck")
local macro_rules | `(tactic| fail "kRM") => `(tactic| first
  | (refine rm_append (by fail "fz") rfl (by first | (fail "lt") | (simp only [nt_len, List.length_map, List.length_range]; omega) | omega) ?_)
  | (refine rm_insert (by fail "fz") rfl (by simp only [nt_len, List.length_map]; omega) (by omega) (by simp only [nt_len, List.length_map]; omega) ?_)
  | fail "stuck")
local macro_rules | `(tactic| fail "retN") => `(tactic| ((try dsimp only); refine ⟨_, _, _, rfl, by fail "lt", rfl, ?_⟩; first | dsimp only [FinU] | dsimp only [FinU, List.cons_append, List.nil_append]))
local macro_rules | `(tactic| fail "kO") => `(tactic| first
  | (with_reducible apply eo_none)
  | (with_reducible apply eo_some)
  | fail "stuck")
local macro_rules | `(tactic| fail "kG") => `(tactic| first
  | ((with_reducible apply eg_name); fail "norm")
  | ((with_reducible apply eg_move); exact rfl; exact rfl; fail "lt"; fail "norm")
  | ((with_reducible apply eg_tup); exact rfl)
  | (with_reducible refine eg_sub (by fail "fz") ?_)
  | ((with_reducible apply eg_lst); exact rfl)
  | fail "stuck")
local macro_rules | `(tactic| fail "kGs") => `(tactic| first
  | (with_reducible apply egs_cons)
  | (with_reducible apply egs_nil)
  | fail "stuck")
local macro_rules | `(tactic| fail "kI") => `(tactic| first
  | (with_reducible apply ei_row)
  | (with_reducible apply ei_list)
  | (with_reducible apply ei_tup)
  | (with_reducible apply ei_range1)
  | (with_reducible apply ei_range2)
  | (with_reducible apply ei_str)
  | (with_reducible apply ei_enumS)
  | (with_reducible apply ei_enumX)
  | (with_reducible apply ei_enumK)
  | (with_reducible apply ei_zipT)
  | fail "stuck")
local macro_rules | `(tactic| fail "kS") => `(tactic| first
  | (with_reducible apply es_seq)
  | ((with_reducible apply es_asgM); exact rfl)
  | (with_reducible apply es_asg)
  | (with_reducible apply es_ret)
  | (with_reducible apply es_if)
  | (with_reducible apply es_dropE)
  | (with_reducible apply es_next)
  | (with_reducible apply es_break)
  | (with_reducible apply es_cont)
  | (with_reducible apply es_retN)
  | (with_reducible apply es_fldN)
  | fail "stuck")
/-! what is left: choices, splits -/
local macro_rules | `(tactic| fail "dA") => `(tactic| first
  | (refine spl_t rfl ?_) | (refine spl_f rfl ?_)
  | ((with_reducible apply spl_neS); fail "pl") | ((with_reducible apply spl_eqS); fail "pl")
  | ((with_reducible apply spl_dt); omega) | ((with_reducible apply spl_df); omega)
  | ((with_reducible apply spl_ndt); omega) | ((with_reducible apply spl_ndf); omega)
  | (refine ⟨ty_mu (by exact rfl), ?_⟩)
  | (refine ⟨ty_lst, ?_⟩)
  | fail "stuck")
local macro_rules | `(tactic| fail "om") => `(tactic| first | omega | (simp only [List.length_append, txs_len, nt_len, List.length_range, List.length_map, List.length_cons, List.length_nil, List.length_replicate, rgT_len, Int.toNat_natCast]; omega))
local macro_rules | `(tactic| fail "dO") => `(tactic| first | (refine Or.inl ⟨_, rfl, by fail "ll", ?_⟩) | (refine Or.inr ⟨_, rfl, by fail "om", ?_⟩))
local macro_rules | `(tactic| fail "kJ") => `(tactic| first | (with_reducible apply ej_cons) | (with_reducible apply ej_nil) | fail "stuck")
local macro_rules | `(tactic| fail "dE") => `(tactic| first
  | (refine ⟨_, _, rfl, rfl, by fail "om", by fail "om", ?_⟩)
  | (refine ⟨_, _, rfl, by fail "tx", by fail "ll", ?_⟩)
  | (refine ⟨_, _, rfl, by fail "tx", ?_⟩)
  | (refine ⟨_, _, _, _, rfl, by fail "fz", by first | exact rfl | assumption, ?_⟩)
  | (refine ⟨_, rfl, by fail "om", by fail "om", ?_⟩)
  | (refine ⟨_, rfl, ?_⟩)
  | (refine ⟨_, _, by fail "fzl", by (exact Nat.le_of_ble_eq_true rfl), ?_⟩)
  | (refine ⟨_, _, _, by fail "fz", rfl, ?_⟩)
  | (refine ⟨_, _, _, by fail "fz", by assumption, ?_⟩)
  | (refine ⟨_, _, _, by fail "fz", Or.inl rfl, ?_⟩)
  | (refine ⟨_, _, _, by fail "fz", Or.inr rfl, ?_⟩)
  | (refine ⟨_, by fail "lt", by fail "norm", ?_⟩)
  | (refine ⟨_, _, by fail "fz", ?_⟩)
  | (refine ⟨_, _, _, _, _, _, _, rfl, rfl, rfl, rfl, rfl, by fail "lt", by fail "norm", ?_⟩)
  | (refine ⟨_, Or.inl rfl, ?_⟩)
  | (refine ⟨_, Or.inr ⟨_, _, rfl, rfl⟩, ?_⟩)
  | fail "fld"
  | fail "fldN"
  | (refine ⟨_, _, rfl, ⟨by fail "om", by fail "om", by fail "om", by fail "om"⟩, ?_⟩)
  | (refine ⟨_, _, rfl, ?_⟩)
  | fail "stuck")
/-! the end of a def; what a comprehension asks -/
local macro_rules | `(tactic| fail "ret") => `(tactic| first | (refine ⟨_, _, by fail "fz", ?_⟩; dsimp only [FinU]) | dsimp only [FinU])
local macro_rules | `(tactic| fail "gok") => `(tactic| first | exact gok_name (by decide) | exact gok_tup (gsok_cons gmono_name (gok_name (by decide)) (gsok_cons gmono_name (gok_name (by decide)) gsok_nil)) | exact gok_tup (gsok_cons gmono_name (gok_name (by decide)) (gsok_cons gmono_name (gok_name (by decide)) (gsok_cons gmono_name (gok_name (by decide)) gsok_nil))))
local macro_rules | `(tactic| fail "start") => `(tactic| first | refine es_norm (by fail "norm") ?_ | refine eg_norm (by fail "norm") ?_)
local macro_rules | `(tactic| fail "end") => `(tactic| (refine ⟨_, by fail "fz", by fail "kps"⟩))
local macro_rules | `(tactic| fail "s") => `(tactic| first
  | ((guard_target = EvE _ _ _ _); fail "kE")
  | ((guard_target = EvS _ _ _ _); fail "kS")
  | ((guard_target = Rd2 _ _ _ _ _ _); fail "k2")
  | ((guard_target = EvA _ _ _ _); fail "kA")
  | ((guard_target = EvG _ _ _ _ _); fail "kG")
  | ((guard_target = EvT _ _ _ _); fail "kT")
  | ((guard_target = RdL _ _ _ _ _); fail "kL")
  | ((guard_target = EvM _ _ _ _); fail "kM")
  | ((guard_target = EvI _ _ _ _); fail "kI")
  | ((guard_target = EvGs _ _ _ _ _); fail "kGs")
  | ((guard_target = RdM _ _ _ _ _ _); fail "kRM")
  | ((guard_target = RdLM _ _ _ _ _); fail "kLM")
  | ((guard_target = EvO _ _ _ _); fail "kO")
  | ((guard_target = Rd1 _ _ _ _ _); fail "k1")
  | ((guard_target = Exists _); fail "dE")
  | ((guard_target = And _ _); fail "dA")
  | ((guard_target = EvJ _ _ _ _ _); fail "kJ")
  | ((guard_target = Or _ _); fail "dO")
  | fail "stuck")
local macro_rules | `(tactic| fail "go") => `(tactic| repeat' fail "s")
local macro_rules | `(tactic| fail "call") => `(tactic| refine spe_W (by fail "args") (by first | decide | simp) ?_)
local macro_rules | `(tactic| fail "callN") => `(tactic| refine spe_N (by fail "args") (by first | decide | simp) ?_)
local macro_rules | `(tactic| fail "app") => `(tactic| (refine rm_append (by fail "fz") rfl (by first | (fail "lt") | (simp only [nt_len, List.length_map]; omega) | omega) ?_; refine ⟨_, by fail "lt", by fail "norm", ?_⟩))
local macro_rules | `(tactic| fail "take") => `(tactic| refine spe_take rfl (by omega) (by omega) (fun _ _ => ?_))

local macro_rules | `(tactic| fail "nw") => `(tactic| ((try simp only [puts, List.set_cons_zero, List.set_cons_succ]); fail "wks"))
local macro_rules | `(tactic| fail "side") => `(tactic| first | exact rfl | assumption | omega | (simp only [List.length_append, List.length_cons, List.length_nil, List.length_map, nt_len, rgT_len, List.length_replicate]; omega) | exact mem_snoc (by assumption) (by first | assumption | omega | exact ⟨by first | assumption | omega, by first | assumption | omega⟩) | decide | (simp; done))
local macro_rules | `(tactic| fail "cnd") => `(tactic| repeat' (first | (guard_target = And _ _; refine And.intro ?_ ?_) | fail "side"))
local macro_rules | `(tactic| fail "callS") => `(tactic| (guard_target = SpE _ _ _ _ _ _); refine spe_WS (by fail "args") (by first | decide | simp) ?_)
local macro_rules | `(tactic| fail "callNS") => `(tactic| (guard_target = SpE _ _ _ _ _ _); refine spe_NS (by fail "args") (by first | decide | simp) ?_)
local macro_rules | `(tactic| fail "un") => `(tactic| with_reducible apply Stop.mk)
local macro_rules | `(tactic| fail "gg") => `(tactic| repeat' (first | fail "s" | ((guard_target = SpE _ (spW _ _ _) _ _ _ _); fail "callS"; fail "wp"; fail "un") | ((guard_target = SpE _ (spCellv _) _ _ _ _); refine spe_cell (by omega) (by omega) fun _ => ?_) | ((guard_target = SpE _ spFeed _ _ _ _); refine spe_feed fun _ => ?_)))
local macro_rules | `(tactic| fail "mapeq") => `(tactic| first | exact rfl | exact word_items | exact nums_str _ | exact tx_items _ | exact rg0 | (rw [rg0]; exact congrArg (fun k => nt (List.range k)) (by omega)) | exact cutT_map | (rw [rg0]; exact rfl) | (simp only [nt_len, List.length_map, Int.toNat_natCast]; exact rg0) | (rw [rg0]; simp only [nt_len, List.length_map, Int.toNat_natCast]; exact rfl))
local macro_rules | `(tactic| fail "wp2") => `(tactic| repeat (first | ((guard_target = Exists _); apply Exists.intro) | ((guard_target = And _ _); refine And.intro (by fail "side") ?_)))
local macro_rules | `(tactic| fail "wp") => `(tactic| first | (apply Exists.intro; fail "wp2") | (refine And.intro (by fail "side") ?_; fail "wp2") | fail "wp stuck")
def ofR (r : Rows) : RI := ⟨(r.h : Int), r.seats.map fun n : Nat => (n : Int), r.lean.map fun row => row.map fun n : Nat => (n : Int)⟩
theorem rows_ofR (r : Rows) : rowsT r = rowsI (ofR r) := by
  simp [rowsT, rowsI, ofR, nt, Function.comp_def]
theorem sm_ofR {r : Rows} (ko : r.ok) : (ofR r).sm := by
  have h16 := ko.s16
  have hll := ko.ll
  have hp := ko.pos
  refine ⟨by show (List.map _ _).length ≤ _; rw [List.length_map]; omega, by show (List.map _ _).length ≤ _; rw [List.length_map]; omega, fun row hr => ?_⟩
  obtain ⟨row', h, rfl⟩ := List.mem_map.mp hr
  rw [List.length_map]
  have := ko.rl _ h
  omega
theorem N_ofR (r : Rows) : (ofR r).N = (r.N : Int) := by
  unfold RI.N ofR Rows.N
  simp
theorem good_ofR {r : Rows} (ko : r.ok) : fieldI (ofR r) = none := by
  have h1 := ko.h1; have h4 := ko.h4; have s1 := ko.s1; have s16 := ko.s16; have hp := ko.pos
  have c1 : hOk (ofR r).h = true := decide_eq_true ⟨by show (1 : Int) ≤ (r.h : Int); omega, by show (r.h : Int) ≤ 4; omega⟩
  have c2 : sOk (ofR r).s (ofR r).N = true := by
    unfold sOk
    rw [N_ofR, decide_eq_true (by show 1 ≤ (List.map _ _).length ∧ (List.map _ _).length ≤ 16; rw [List.length_map]; exact ⟨s1, s16⟩), Bool.true_and, List.all_eq_true]
    intro z hz
    obtain ⟨n, hn, rfl⟩ := List.mem_map.mp hz
    have := ko.sN _ hn
    exact decide_eq_true ⟨by omega, by omega⟩
  have c3 : lOk (ofR r) = true := by
    unfold lOk
    rw [decide_eq_true (by show (List.map _ _).length = (List.map _ _).length; rw [List.length_map, List.length_map]; exact ko.ll), Bool.true_and, List.all_eq_true]
    intro row hr
    obtain ⟨row', h, rfl⟩ := List.mem_map.mp hr
    have hrl := ko.rl _ h
    unfold rOk
    rw [N_ofR, List.length_map, decide_eq_true (by omega), Bool.true_and, List.all_eq_true]
    intro z hz
    obtain ⟨n, hn, rfl⟩ := List.mem_map.mp hz
    have := ko.r1 _ h _ hn
    exact decide_eq_true (by omega)
  unfold fieldI
  rw [if_neg (by rw [c1]; decide), if_neg (by rw [c2]; decide), if_neg (by rw [c3]; decide)]
def wp_law_rows : WpT := fun ts Φ _ => ∃ (z : Int), ts = [.int z] ∧ ∀ r : Rows, r.ok → Φ (rowsT r) []
def wp_law_changed_seat : WpT := fun ts Φ _ => ∃ m : Nat, ts = [.non, .int (m : Int)] ∧ 1 ≤ m ∧ m ≤ 16 ∧ ∀ z : Int, Φ (.int z) []
def wp_law_changed_row : WpT := fun ts Φ _ => ∃ (xs : List Int) (k : Nat), ts = [.non, .lst (xs.map T.int), .int (k : Int)] ∧ xs.length ≤ 500 ∧ ∀ ys : List Int, ys.length ≤ xs.length + 1 → Φ (.lst (ys.map T.int)) []
section
variable {P : Program} {w : World} {K : PySem.W.Frag} {mg : Str → Option Value} {base : Heap}
theorem ok_law_refuses {f CCrew CBadCrew CBadExpression CBadLine CBadRound CBadStorm CBadTable CBadText CDisagree CEndlessTable CHasNotes CNeedsRule CNoArray CNotEnded CNotOver COutOfBounds CPartOver CStillError CTakenName CTooLong CUnknownName : Addr} {fd : FuncData} {k : Nat} (F : Fun K "_law_refuses" "_law_refuses" s_law_refuses f fd) (mcStillError : mg "StillError" = some (.ref CStillError)) (R__law_made : OkR P w K mg base k "_law_made" P_law_made (spW K [.pu, .pu] (wp_law_made CCrew CBadCrew))) (misinstance : mg "isinstance" = none) (mValueError : mg "ValueError" = none) (mcBadCrew : mg "BadCrew" = some (.ref CBadCrew)) (mcHasNotes : mg "HasNotes" = some (.ref CHasNotes)) (mcEndlessTable : mg "EndlessTable" = some (.ref CEndlessTable)) (mcDisagree : mg "Disagree" = some (.ref CDisagree)) (mcBadText : mg "BadText" = some (.ref CBadText)) (mcBadTable : mg "BadTable" = some (.ref CBadTable)) (mcBadStorm : mg "BadStorm" = some (.ref CBadStorm)) (mcBadRound : mg "BadRound" = some (.ref CBadRound)) (mcBadLine : mg "BadLine" = some (.ref CBadLine)) (mcBadExpression : mg "BadExpression" = some (.ref CBadExpression)) (mcUnknownName : mg "UnknownName" = some (.ref CUnknownName)) (mcTooLong : mg "TooLong" = some (.ref CTooLong)) (mcTakenName : mg "TakenName" = some (.ref CTakenName)) (mcPartOver : mg "PartOver" = some (.ref CPartOver)) (mcOutOfBounds : mg "OutOfBounds" = some (.ref COutOfBounds)) (mcNotOver : mg "NotOver" = some (.ref CNotOver)) (mcNotEnded : mg "NotEnded" = some (.ref CNotEnded)) (mcNoArray : mg "NoArray" = some (.ref CNoArray)) (mcNeedsRule : mg "NeedsRule" = some (.ref CNeedsRule)) (Z_BadCrew : XC K CBadCrew) (Zn_BadCrew : OexF K CBadCrew ["field"]) (mstr : mg "str" = none) (xm : PySem.W.exmOne K (.ref CBadCrew) (.ref CStillError) = some true) (k1 : PySem.W.kitOne K (.ref CBadCrew) (.ref CBadCrew) = some true) (k2 : PySem.W.kitOne K (.ref CBadCrew) (.type "ValueError") = some true) (k3 : PySem.W.kitAny K (.ref CBadCrew) [.ref CBadExpression, .ref CBadLine, .ref CBadRound, .ref CBadStorm, .ref CBadTable, .ref CBadText, .ref CDisagree, .ref CEndlessTable, .ref CHasNotes] = some false) (k4 : PySem.W.kitAny K (.ref CBadCrew) [.ref CNeedsRule, .ref CNoArray, .ref CNotEnded, .ref CNotOver, .ref COutOfBounds, .ref CPartOver, .ref CTakenName, .ref CTooLong, .ref CUnknownName] = some false) : FnOk P w K mg base CX0 (k + 1) f fd P_law_refuses (spW K [.pu, .pu, .pu] wp_law_refuses) := by
  refine F.ok sc_law_refuses (fun vs H Q E h => len_W rfl h) (fun cdv A outer s H vs Q E hr h => ⟨_, (pss_cons (ps_tryF (K := K) (i := 3) rfl rfl sc_law_refuses.nd rfl rfl ⟨by rfl, by decide, Or.inl mcStillError⟩ (fun W pn xe tk =>
      (pss_one (ps_expr (pe_cR R__law_made hr tk (by rfl) (pa_cons (pv 0) (pa_cons (pv 1) pa_nil)))))) (fun a oe cls d pn hz hf =>
      (pss_cons (ps_if (PW.pt (pw_or (pt_not (pt_val (pe_callB (r := rIsX1 K a cls d) (call_isX1 hz hf) (by rfl) misinstance (by decide +kernel) (pa_cons (pv 3) (pa_cons (pe_glob (v := .ref CBadCrew) (by rfl) mcBadCrew rfl) pa_nil))))) (pw_or1 (pt_not (pt_val (pe_callB (r := rIsX1 K a cls d) (call_isX1 hz hf) (by rfl) misinstance (by decide +kernel) (pa_cons (pv 3) (pa_cons (pe_bltn (v := .ty "ValueError") (by rfl) mValueError (by decide +kernel) rfl) pa_nil))))))))
        (pss_one (ps_ret pe_bl))
        pss_nil)
      (pss_cons (ps_if (pt_val (pe_callB (r := rIsXT K a cls d) (call_isXT hz hf) (by rfl) misinstance (by decide +kernel) (pa_cons (pv 3) (pa_cons (pe_tup (pa_cons (pe_glob (v := .ref CBadExpression) (by rfl) mcBadExpression rfl) (pa_cons (pe_glob (v := .ref CBadLine) (by rfl) mcBadLine rfl) (pa_cons (pe_glob (v := .ref CBadRound) (by rfl) mcBadRound rfl) (pa_cons (pe_glob (v := .ref CBadStorm) (by rfl) mcBadStorm rfl) (pa_cons (pe_glob (v := .ref CBadTable) (by rfl) mcBadTable rfl) (pa_cons (pe_glob (v := .ref CBadText) (by rfl) mcBadText rfl) (pa_cons (pe_glob (v := .ref CDisagree) (by rfl) mcDisagree rfl) (pa_cons (pe_glob (v := .ref CEndlessTable) (by rfl) mcEndlessTable rfl) (pa_cons (pe_glob (v := .ref CHasNotes) (by rfl) mcHasNotes rfl) pa_nil)))))))))) pa_nil))))
        (pss_one (ps_ret pe_bl))
        pss_nil)
      (pss_cons (ps_if (pt_val (pe_callB (r := rIsXT K a cls d) (call_isXT hz hf) (by rfl) misinstance (by decide +kernel) (pa_cons (pv 3) (pa_cons (pe_tup (pa_cons (pe_glob (v := .ref CNeedsRule) (by rfl) mcNeedsRule rfl) (pa_cons (pe_glob (v := .ref CNoArray) (by rfl) mcNoArray rfl) (pa_cons (pe_glob (v := .ref CNotEnded) (by rfl) mcNotEnded rfl) (pa_cons (pe_glob (v := .ref CNotOver) (by rfl) mcNotOver rfl) (pa_cons (pe_glob (v := .ref COutOfBounds) (by rfl) mcOutOfBounds rfl) (pa_cons (pe_glob (v := .ref CPartOver) (by rfl) mcPartOver rfl) (pa_cons (pe_glob (v := .ref CTakenName) (by rfl) mcTakenName rfl) (pa_cons (pe_glob (v := .ref CTooLong) (by rfl) mcTooLong rfl) (pa_cons (pe_glob (v := .ref CUnknownName) (by rfl) mcUnknownName rfl) pa_nil)))))))))) pa_nil))))
        (pss_one (ps_ret pe_bl))
        pss_nil)
      (pss_one (ps_ret (pe_and (pe_callB (r := rIsi K) call_isi (by rfl) misinstance (by decide +kernel) (pa_cons (pe_xf Z_BadCrew.xf (Zn_BadCrew.no "field" (by simp)) hz hf (pv 3)) (pa_cons (pe_bltn (v := .ty "str") (by rfl) mstr (by decide +kernel) rfl) pa_nil))) (pe_one (pe_cmpR (r := rEqP K) (op_eqP hr.units) (pe_xf Z_BadCrew.xf (Zn_BadCrew.no "field" (by simp)) hz hf (pv 3)) (pv 2) (nomark _)))))))))))
    (pss_one (ps_ret pe_bl))), ?_⟩)
  refine run_W (n := 4) (rest := [.no]) rfl (by fail "blank") rfl (fun ts as Φ Ψ hts has w => ?_) h
  obtain rfl := as0 has
  -- slots: 0 rows 1 shape 2 field 3 e
  obtain ⟨x, k, fl, rfl, sm, hf, q⟩ := w
  fail "start"
  fail "gg"
  refine es_tryF (fun y ρ' => y = ⟨CBadCrew, [("field", .str fl)]⟩ ∧ ρ' = [.sh (rowsI x), .sh (.int k), .sh (.str fl), .no]) (fun W => ?_) (by fail "lt") (fun C fs ρ' hx => ?_)
  · fail "gg"
    refine spe_X (by fail "args") ?_
    refine ⟨x, k, rfl, sm, fun f2 h2 => ?_, fun h => ?_⟩
    · rw [hf] at h2
      cases h2
      exact ⟨rfl, rfl⟩
    · rw [hf] at h
      cases h
  · obtain ⟨e1, rfl⟩ := hx
    cases e1
    refine ⟨by fail "lt", by simp, xm, fun a d => ?_⟩
    fail "start"
    fail "gg"
    refine rl_isX1 Z_BadCrew (.own _) k1 ?_
    fail "gg"
    refine rl_isX1 Z_BadCrew (.ty _) k2 ?_
    fail "gg"
    refine rl_isXT Z_BadCrew (.cons (.own _) (.cons (.own _) (.cons (.own _) (.cons (.own _) (.cons (.own _) (.cons (.own _) (.cons (.own _) (.cons (.own _) (.cons (.own _) .nil))))))))) k3 ?_
    fail "gg"
    refine rl_isXT Z_BadCrew (.cons (.own _) (.cons (.own _) (.cons (.own _) (.cons (.own _) (.cons (.own _) (.cons (.own _) (.cons (.own _) (.cons (.own _) (.cons (.own _) .nil))))))))) k4 ?_
    fail "gg"
    fail "ret"
    exact bl_t (eq_rfl (k := 60) (by fail "pl")) q
theorem ok_law_rows {f : Addr} {fd : FuncData} {k : Nat} (F : Fun K "_law_rows" "_law_rows" s_law_rows f fd) (O_law_feed : Ok P w K mg base k "_law_feed" P_law_feed spFeed) (O_law_take : Ok P w K mg base k "_law_take" P_law_take spTake) (O_law_crew : Ok P w K mg base k "_law_crew" P_law_crew (spW K [.fe, .pu, .pu] wp_law_crew)) : FnOk P w K mg base CX0 (k + 1) f fd P_law_rows (spW K [.pu] wp_law_rows) := by
  refine F.ok sc_law_rows (fun vs H Q E h => len_W rfl h) (fun cdv A outer s H vs Q E hr h => ⟨_, (pss_cons (ps_set (i := 1) sc_law_rows.nd rfl (Or.inl rfl) (pe_c O_law_feed hr (by rfl) (pa_cons (pv 0) pa_nil)))
    (pss_cons (ps_set (i := 2) sc_law_rows.nd rfl (Or.inl rfl) (pe_ix (r := rIx K) ix_seq (pe_lst (pa_cons pe_int (pa_cons pe_int (pa_cons pe_int pa_nil)))) (pe_c O_law_take hr (by rfl) (pa_cons (pv 1) (pa_cons pe_int pa_nil))) (fun _ _ => rfl)))
    (pss_one (ps_ret (pe_c O_law_crew hr (by rfl) (pa_cons (pv 1) (pa_cons pe_int (pa_cons (pv 2) pa_nil)))))))), ?_⟩)
  refine run_W (n := 3) (rest := [.nm, .no]) rfl (by fail "blank") rfl (fun ts as Φ Ψ hts has w => ?_) h
  obtain rfl := as0 has
  -- slots: 0 cell 1 feed* 2 upto
  obtain ⟨z, rfl, q⟩ := w
  fail "start"
  fail "gg"
  refine spe_take rfl (by omega) (by omega) fun t0 ht0 => ?_
  fail "gg"
  obtain ⟨u, hu, u1, u16⟩ : ∃ u : Nat, atI [T.int 4, T.int 16, T.int 5] (t0 : Int) = some (.int (u : Int)) ∧ 1 ≤ u ∧ u ≤ 16 := by
    have : t0 = 0 ∨ t0 = 1 ∨ t0 = 2 := by omega
    rcases this with rfl | rfl | rfl
    · exact ⟨4, rfl, by omega, by omega⟩
    · exact ⟨16, rfl, by omega, by omega⟩
    · exact ⟨5, rfl, by omega, by omega⟩
  refine rd_ix rfl hu ?_
  fail "gg"
  fail "callS"
  refine ⟨4, u, rfl, by omega, by omega, u1, u16, fun r ko => ?_⟩
  fail "un"
  fail "ret"
  exact q r ko
theorem ok_law_changed_seat {f : Addr} {fd : FuncData} {k : Nat} (F : Fun K "_law_changed_seat" "_law_changed_seat" s_law_changed_seat f fd) (O_law_take : Ok P w K mg base k "_law_take" P_law_take spTake) : FnOk P w K mg base CX0 (k + 1) f fd P_law_changed_seat (spW K [.fe, .pu] wp_law_changed_seat) := by
  refine F.ok sc_law_changed_seat (fun vs H Q E h => len_W rfl h) (fun cdv A outer s H vs Q E hr h => ⟨_, (pss_cons (ps_set (i := 2) sc_law_changed_seat.nd rfl (Or.inl rfl) (pe_c O_law_take hr (by rfl) (pa_cons (pv 0) (pa_cons pe_int pa_nil))))
    (pss_cons (ps_if (pt_cmpR op_eq (pv 2) pe_int (nomark _))
      (pss_one (ps_ret (pe_un un_neg pe_int)))
      pss_nil)
    (pss_cons (ps_if (pt_cmpR op_eq (pv 2) pe_int (nomark _))
      (pss_one (ps_ret (pv 1)))
      pss_nil)
    (pss_cons (ps_if (pt_cmpR op_eq (pv 2) pe_int (nomark _))
      (pss_one (ps_ret (pe_op op_sub (pe_c O_law_take hr (by rfl) (pa_cons (pv 0) (pa_cons (pe_op op_add pe_int (pv 1)) pa_nil))) pe_int)))
      pss_nil)
    (pss_one (ps_ret (pe_c O_law_take hr (by rfl) (pa_cons (pv 0) (pa_cons (pv 1) pa_nil))))))))), ?_⟩)
  refine run_W (n := 3) (rest := [.no]) rfl (by fail "blank") rfl (fun ts as Φ Ψ hts has w => ?_) h
  obtain ⟨a0, rfl⟩ := as1 has
  -- slots: 0 feed 1 leaves 2 kind
  obtain ⟨m, rfl, m1, m16, q⟩ := w
  fail "start"
  fail "gg"
  refine spe_take rfl (by omega) (by omega) fun t0 ht0 => ?_
  fail "gg"
  fail "gg"
  refine spl_d (fun c1 => ?_) (fun c1 => ?_)
  · fail "gg"
    fail "ret"
    exact ⟨rfl, q _⟩
  · fail "gg"
    refine spl_d (fun c2 => ?_) (fun c2 => ?_)
    · fail "gg"
      fail "ret"
      exact ⟨rfl, q _⟩
    · fail "gg"
      refine spl_d (fun c3 => ?_) (fun c3 => ?_)
      · fail "gg"
        refine spe_take rfl (by omega) (by omega) fun x2 hx2 => ?_
        fail "gg"
        fail "ret"
        exact ⟨rfl, q _⟩
      · fail "gg"
        fail "gg"
        refine spe_take rfl (by omega) (by omega) fun x2 hx2 => ?_
        fail "gg"
        fail "ret"
        exact ⟨rfl, q _⟩
theorem ok_law_changed_row {f : Addr} {fd : FuncData} {k : Nat} (F : Fun K "_law_changed_row" "_law_changed_row" s_law_changed_row f fd) (O_law_take : Ok P w K mg base k "_law_take" P_law_take spTake) (mlist : mg "list" = none) (mlen : mg "len" = none) : FnOk P w K mg base CX0 (k + 1) f fd P_law_changed_row (spW K [.fe, .pu, .pu] wp_law_changed_row) := by
  refine F.ok sc_law_changed_row (fun vs H Q E h => len_W rfl h) (fun cdv A outer s H vs Q E hr h => ⟨_, (pss_cons (ps_if (pt_cmpR op_eq (pv 2) pe_int (nomark _))
      (pss_one (ps_ret (pe_slice (r := rSlL K) sl_list (pv 1) (po_some pe_int) po_none)))
      pss_nil)
    (pss_cons (ps_if (pt_cmpR op_eq (pv 2) pe_int (nomark _))
      (pss_one (ps_ret (pe_op op_cat (pv 1) (pe_lst (pa_cons (pe_c O_law_take hr (by rfl) (pa_cons (pv 0) (pa_cons pe_int pa_nil))) pa_nil)))))
      pss_nil)
    (pss_cons (ps_if (pt_cmpR op_eq (pv 2) pe_int (nomark _))
      (pss_one (ps_ret (pe_lst pa_nil)))
      pss_nil)
    (pss_cons (ps_set (i := 3) sc_law_changed_row.nd rfl (Or.inl rfl) (pe_callTy (r := rListOf K) call_listK (by rfl) mlist (by decide +kernel) (pa_cons (pv 1) pa_nil)))
    (pss_cutV [(3, .nm), (4, .no)] (C8.pss_cut (ps_if (pt_cmpR op_gt (pe_callB (r := rLenS K) call_lenK (by rfl) mlen (by decide +kernel) (pa_cons (pv 3) pa_nil)) pe_int (nomark _))
      (pss_cons (ps_set (i := 4) sc_law_changed_row.nd rfl (Or.inl rfl) (pe_c O_law_take hr (by rfl) (pa_cons (pv 0) (pa_cons (pe_callB (r := rLenS K) call_lenK (by rfl) mlen (by decide +kernel) (pa_cons (pv 3) pa_nil)) pa_nil))))
      (pss_one (ps_if (pt_cmpR op_eq (pv 2) pe_int (nomark _))
        (pss_one (ps_asg (pe_ix (r := rIx K) ix_seq (pe_lst (pa_cons pe_int (pa_cons (pe_un un_neg pe_int) pa_nil))) (pe_c O_law_take hr (by rfl) (pa_cons (pv 0) (pa_cons pe_int pa_nil))) (fun _ _ => rfl)) (pg_sub (pv 3) (pv 4) set_list)))
        (pss_one (ps_if (pt_cmpR op_eq (pv 2) pe_int (nomark _))
          (pss_one (ps_asg (pe_op op_sub (pe_c O_law_take hr (by rfl) (pa_cons (pv 0) (pa_cons pe_int pa_nil))) pe_int) (pg_sub (pv 3) (pv 4) set_list)))
          (pss_one (ps_asg (pe_op op_sub pe_int (pe_ix (r := rIx K) ix_seq (pv 3) (pv 4) (fun _ _ => rfl))) (pg_sub (pv 3) (pv 4) set_list))))))))
      pss_nil)
    (pss_one (ps_ret (pv 3))))))))), ?_⟩)
  refine run_W (n := 5) (rest := [.nm, .no]) rfl (by fail "blank") rfl (fun ts as Φ Ψ hts has w => ?_) h
  obtain ⟨a0, rfl⟩ := as1 has
  -- slots: 0 feed 1 row 2 kind 3 fresh* 4 at
  obtain ⟨xs, k, rfl, hl, q⟩ := w
  have ln : (xs.map T.int).length = xs.length := List.length_map ..
  fail "start"
  fail "gg"
  fail "gg"
  refine spl_d (fun c1 => ?_) (fun c1 => ?_)
  · fail "gg"
    have hc := cutL_len (xs := xs) (lo := some 1) (hi := none)
    rw [show cutT (xs.map T.int) (some 1) none = (cutL xs (some 1) none).map T.int from cutT_map]
    fail "ret"
    exact ⟨rfl, q _ (by omega)⟩
  · fail "gg"
    refine spl_d (fun c2 => ?_) (fun c2 => ?_)
    · fail "gg"
      fail "gg"
      refine spe_take rfl (by omega) (by omega) fun t1 ht1 => ?_
      fail "gg"
      fail "gg"
      intro p
      have := q (xs ++ [(t1 : Int)]) (by rw [List.length_append]; simp only [List.length_cons, List.length_nil]; omega)
      rw [List.map_append] at this
      fail "ret"
      exact ⟨rfl, this⟩
    · fail "gg"
      refine spl_d (fun c3 => ?_) (fun c3 => ?_)
      · fail "gg"
        fail "ret"
        exact ⟨rfl, q [] (by simp)⟩
      · fail "gg"
        intro p
        fail "gg"
        fail "gg"
        refine es_cutV (fun ρb ρ' => ∃ (ys : List Int), (ys.length = xs.length) ∧ ρ' = puts [(3, .mu p (.lst (ys.map T.int)))] ρb) ?_ fun ρ' hM => ?_
        · fail "gg"
          refine spl_d (fun d => ?_) (fun d => ?_)
          · fail "gg"
            refine spe_take rfl (by omega) (by omega) fun at1 hat => ?_
            fail "gg"
            fail "gg"
            refine spl_d (fun c4 => ?_) (fun c4 => ?_)
            · fail "gg"
              refine spe_take rfl (by omega) (by omega) fun t2 ht2 => ?_
              fail "gg"
              obtain ⟨z, hz⟩ : ∃ z : Int, atI [T.int 2, T.int (-1)] (t2 : Int) = some (.int z) := by
                have : t2 = 0 ∨ t2 = 1 := by omega
                rcases this with rfl | rfl
                · exact ⟨2, rfl⟩
                · exact ⟨-1, rfl⟩
              refine rd_ix rfl hz ?_
              fail "gg"
              refine ⟨_, _, _, _, at1, _, _, rfl, rfl, rfl, ixN_lt (n := (xs.map T.int).length) (by omega), (show (xs.map T.int).set at1 (.int (z)) = (xs.set at1 (z)).map T.int from by rw [List.map_set]), by fail "lt", by fail "norm", ?_⟩
              have k0 : (xs.set at1 (z)).length = xs.length := List.length_set ..
              apply fin_mk
              · refine ⟨xs.set at1 (z), ?_⟩
                fail "cnd"
              · fail "nw"
              · fail "lt"
            · fail "gg"
              refine spl_d (fun c5 => ?_) (fun c5 => ?_)
              · fail "gg"
                refine spe_take rfl (by omega) (by omega) fun t3 ht3 => ?_
                fail "gg"
                fail "gg"
                refine ⟨_, _, _, _, at1, _, _, rfl, rfl, rfl, ixN_lt (n := (xs.map T.int).length) (by omega), (show (xs.map T.int).set at1 (.int ((t3 : Int) - 3)) = (xs.set at1 ((t3 : Int) - 3)).map T.int from by rw [List.map_set]), by fail "lt", by fail "norm", ?_⟩
                have k0 : (xs.set at1 ((t3 : Int) - 3)).length = xs.length := List.length_set ..
                apply fin_mk
                · refine ⟨xs.set at1 ((t3 : Int) - 3), ?_⟩
                  fail "cnd"
                · fail "nw"
                · fail "lt"
              · obtain ⟨y, hy⟩ := get_of_lt (xs := xs) (i := at1) (by omega)
                fail "gg"
                refine rd_ixm rfl (atI_map hy) ?_
                fail "gg"
                refine ⟨_, _, _, _, at1, _, _, rfl, rfl, rfl, ixN_lt (n := (xs.map T.int).length) (by omega), (show (xs.map T.int).set at1 (.int (1 - y)) = (xs.set at1 (1 - y)).map T.int from by rw [List.map_set]), by fail "lt", by fail "norm", ?_⟩
                have k0 : (xs.set at1 (1 - y)).length = xs.length := List.length_set ..
                apply fin_mk
                · refine ⟨xs.set at1 (1 - y), ?_⟩
                  fail "cnd"
                · fail "nw"
                · fail "lt"
          · fail "gg"
            apply fin_mk
            · refine ⟨xs, ?_⟩
              fail "cnd"
            · fail "nw"
            · fail "lt"
        obtain ⟨ys, hy, rfl⟩ := hM
        fail "start"
        fail "gg"
        fail "gg"
        fail "ret"
        exact ⟨rfl, q ys (by omega)⟩
end
end K26
set_option maxHeartbeats 8000000
namespace K26
open PySem L2 Vk Tr
local macro_rules | `(tactic| fail "fld") => `(tactic| first
  | refine ⟨_, _, _, _, rfl, CTCrew.cl (by assumption), CTCrew.n_height (by assumption), fx_Crew_height, rfl, ?_⟩
  | refine ⟨_, _, _, _, rfl, CTCrew.cl (by assumption), CTCrew.n_seats (by assumption), fx_Crew_seats, rfl, ?_⟩
  | refine ⟨_, _, _, _, rfl, CTCrew.cl (by assumption), CTCrew.n_leanings (by assumption), fx_Crew_leanings, rfl, ?_⟩
  | fail "stuck")
local macro_rules | `(tactic| fail "fldN") => `(tactic| first
  | refine ⟨_, _, _, _, _, rfl, rfl, CTCrew.cl (by assumption), CTCrew.n_height (by assumption), fn_Crew_height, by fail "lt", by fail "lt", by fail "norm", ?_⟩
  | refine ⟨_, _, _, _, _, rfl, rfl, CTCrew.cl (by assumption), CTCrew.n_seats (by assumption), fn_Crew_seats, by fail "lt", by fail "lt", by fail "norm", ?_⟩
  | refine ⟨_, _, _, _, _, rfl, rfl, CTCrew.cl (by assumption), CTCrew.n_leanings (by assumption), fn_Crew_leanings, by fail "lt", by fail "lt", by fail "norm", ?_⟩
  | fail "stuck")
local macro_rules | `(tactic| fail "lt") => `(tactic| exact Nat.le_of_ble_eq_true rfl)
local macro_rules | `(tactic| fail "norm") => `(tactic| first | (simp only [puts, List.take_succ_cons, List.take_zero, List.take_nil, List.set_cons_zero, List.set_cons_succ, List.cons_append, List.nil_append, initU, wipeU, List.length_cons, List.length_nil, Nat.zero_add, Nat.reduceAdd]; done) | (simp only [puts, List.take_succ_cons, List.take_zero, List.take_nil, List.set_cons_zero, List.set_cons_succ, List.cons_append, List.nil_append, initU, wipeU, List.length_cons, List.length_nil, Nat.zero_add, Nat.reduceAdd]; exact rfl) | exact rfl)
local macro_rules | `(tactic| fail "pl") => `(tactic| first
  | exact pl_int | exact pl_str | exact pl_bl | exact pl_non | exact pl_nil
  | ((with_reducible refine pl_lst ?_); fail "pl") | ((with_reducible refine pl_tup ?_); fail "pl") | ((with_reducible refine pl_cl ?_); fail "pl")
  | exact pl_nt | exact pl_txs
  | ((with_reducible refine pl_cons ?_ ?_); (fail "pl"); (fail "pl"))
  | ((with_reducible refine pl_map fun _ _ => ?_); fail "pl")
  | assumption)
local macro_rules | `(tactic| fail "fz") => `(tactic| first | exact Fz.sh | exact Fz.new rfl (Nat.le_of_ble_eq_true rfl) | exact Fz.mu (by exact rfl) (by fail "norm"))
local macro_rules | `(tactic| fail "fzl") => `(tactic| first | exact FzL.nil | exact FzL.cons (by fail "fz") (by fail "fzl"))
local macro_rules | `(tactic| fail "kps") => `(tactic| first | exact Kps.z | exact Kps.nil | (refine Kps.skip rfl ?_; fail "kps") | (refine Kps.same ?_; fail "kps"))
local macro_rules | `(tactic| fail "wks") => `(tactic| first | exact Wks.nil | (refine Wks.cons .no ?_; fail "wks") | (refine Wks.cons .nm ?_; fail "wks") | ((with_reducible refine Wks.cons .same ?_); fail "wks") | (refine Wks.consE (by first | exact rfl | exact int_eq (by omega) | exact int_eq (by (repeat' split) <;> omega)) ?_; fail "wks") | (refine Wks.consM (by first | exact rfl | assumption) ?_; fail "wks") | (refine Wks.cons .same ?_; fail "wks"))
local macro_rules | `(tactic| fail "blank") => `(tactic| first | exact Blank.nil | (refine Blank.no ?_; fail "blank") | (refine Blank.nm ?_; fail "blank"))
local macro_rules | `(tactic| fail "args") => `(tactic| first | (with_reducible exact ArgR.nil) | ((with_reducible apply ArgR.pu); (fail "fz"); (fail "args")) | ((with_reducible apply ArgR.fe); (fail "args"); exact rfl) | ((with_reducible apply ArgR.mt); (fail "args"); exact rfl))
local macro_rules | `(tactic| fail "tx") => `(tactic| first | (with_reducible exact rfl) | (with_reducible exact tx_sp) | (with_reducible exact tx_nl) | (with_reducible exact tx_e) | (with_reducible exact tx_hd) | (with_reducible exact tx_01) | exact tx1 _ | exact txof _ | exact rfl)
local macro_rules | `(tactic| fail "ll") => `(tactic| first | omega | assumption | decide | (simp only [List.length_append, List.length_cons, List.length_nil, List.length_take, List.length_drop, List.length_map, List.length_replicate, List.length_range, List.length_reverse, tx_len]; omega) | (refine Nat.le_trans cutL_len ?_; fail "ll") | (refine Nat.le_trans (numL2 (by omega)) ?_; decide) | (refine lcat ?_ ?_ <;> fail "ll"))
local macro_rules | `(tactic| fail "tl") => `(tactic| first | assumption | omega | decide | (simp only [tx_len, tx_app, List.length_append, List.length_cons, List.length_nil]; omega) | (exact Nat.le_of_ble_eq_true rfl))
local macro_rules | `(tactic| fail "num") => `(tactic| first | omega | decide | exact Nat.le_of_ble_eq_true rfl)
/-! one step of an expression -/
local macro_rules | `(tactic| fail "rdd") => `(tactic| first | exact Or.inl rfl | exact Or.inr ⟨_, _, _, rfl, rfl, rfl⟩)
local macro_rules | `(tactic| fail "kE") => `(tactic| first
  | ((with_reducible apply ev_var); exact rfl; fail "lt")
  | (with_reducible apply ev_op)
  | ((with_reducible apply ev_c); (first | exact .int | exact .bl | exact .str | exact .non))
  | (with_reducible apply ev_call)
  | (with_reducible apply ev_cb)
  | ((with_reducible apply ev_varm); exact rfl; fail "lt")
  | ((with_reducible apply ev_varf); exact rfl; fail "lt")
  | (with_reducible apply ev_tup)
  | (with_reducible apply ev_lst)
  | (with_reducible apply ev_fldS)
  | (with_reducible apply ev_prop)
  | (with_reducible apply ev_bm)
  | (with_reducible apply ev_and)
  | (with_reducible apply ev_or)
  | (with_reducible apply ev_not)
  | (with_reducible apply ev_if)
  | (with_reducible apply ev_chain)
  | (with_reducible apply ev_un)
  | (with_reducible apply ev_sl)
  | (with_reducible apply ev_bm0)
  | (with_reducible apply ev_meth)
  | (with_reducible apply ev_make)
  | (with_reducible apply ev_ty)
  | (with_reducible apply ev_revL)
  | (with_reducible apply ev_joinTx)
  | (with_reducible apply ev_bits)
  | (with_reducible apply ev_callS)
  | (with_reducible apply ev_cref)
  | (with_reducible apply ev_xf)
  | (with_reducible apply ev_listRev)
  | (with_reducible apply ev_joined)
  | (with_reducible apply ev_fmt)
  | (with_reducible apply ev_split)
  | fail "stuck")
local macro_rules | `(tactic| fail "kM") => `(tactic| first
  | (with_reducible apply evm_lst)
  | (with_reducible apply evm_list)
  | ((with_reducible apply evm_any); fail "kE")
  | fail "stuck")
local macro_rules | `(tactic| fail "kA") => `(tactic| first
  | (with_reducible apply ea_cons)
  | (with_reducible apply ea_nil)
  | fail "stuck")
local macro_rules | `(tactic| fail "kT") => `(tactic| first
  | (with_reducible apply et_test)
  | (with_reducible apply et_b)
  | (with_reducible apply et_and)
  | (with_reducible apply et_or)
  | (with_reducible apply et_not)
  | (with_reducible apply et_yes)
  | fail "stuck")
local macro_rules | `(tactic| fail "kC") => `(tactic| first | exact Or.inl ⟨by omega, by omega⟩ | exact Or.inr ⟨by omega, by omega⟩ | exact Or.inl ⟨by decide, by decide⟩ | exact Or.inr ⟨by decide, by decide⟩ | exact ⟨by decide, by decide⟩ | exact ⟨by omega, by omega⟩ | exact ⟨by omega, by omega, by decide⟩ | (show _ ≠ _; omega) | (show (0 : Int) ≤ _; omega) | (show (_ : Int) < _; omega))
local macro_rules | `(tactic| fail "k2") => `(tactic| first
  | (with_reducible apply rd_ii)
  | (with_reducible apply rd_ib)
  | ((with_reducible apply rd_ix); (first | exact rfl | assumption); (first | ((with_reducible apply atI_ltd); assumption) | ((with_reducible apply atI0); exact rfl) | ((with_reducible apply atI1); exact rfl) | ((with_reducible apply atI2); exact rfl) | ((with_reducible apply atI3); exact rfl) | ((with_reducible apply atI4); exact rfl) | ((with_reducible apply atI_lean0); assumption) | ((with_reducible apply atI_map2); assumption) | ((with_reducible apply atI_two); assumption) | ((with_reducible apply atI_lean); assumption; assumption) | ((with_reducible apply atNk); omega) | ((with_reducible apply atN0); omega) | ((with_reducible apply atN1); omega) | ((with_reducible apply atN2); omega)))
  | ((with_reducible apply rd_ixm); exact rfl; (first | ((with_reducible apply atI_ltd); assumption) | ((with_reducible apply atI0); exact rfl) | ((with_reducible apply atI1); exact rfl) | ((with_reducible apply atI2); exact rfl) | ((with_reducible apply atI3); exact rfl) | ((with_reducible apply atI4); exact rfl) | ((with_reducible apply atI_lean0); assumption) | ((with_reducible apply atI_map2); assumption) | ((with_reducible apply atI_two); assumption) | ((with_reducible apply atI_lean); assumption; assumption) | ((with_reducible apply atNk); omega) | ((with_reducible apply atN0); omega) | ((with_reducible apply atN1); omega) | ((with_reducible apply atN2); omega)))
  | (with_reducible apply rd_eqi)
  | ((with_reducible apply rd_ic); fail "kC")
  | (with_reducible apply rd_nei)
  | ((with_reducible apply rd_eqTx); fail "tx"; fail "tx")
  | ((with_reducible apply rd_neTx); fail "tx"; fail "tx")
  | (with_reducible apply rd_eqs)
  | (with_reducible apply rd_nes)
  | ((with_reducible apply rd_eqP); fail "pl"; fail "pl")
  | ((with_reducible apply rd_neP); fail "pl"; fail "pl")
  | ((with_reducible apply rd_inTx); fail "tx")
  | ((with_reducible apply rd_notInTx); fail "tx")
  | ((with_reducible apply rd_inP); (first | exact rfl | assumption); fail "pl"; fail "pl")
  | ((with_reducible apply rd_notInP); (first | exact rfl | assumption); fail "pl"; fail "pl")
  | ((with_reducible apply rd_inM); exact rfl; fail "pl"; fail "pl")
  | ((with_reducible apply rd_notInM); exact rfl; fail "pl"; fail "pl")
  | ((with_reducible apply rd_eqM); fail "rdd"; fail "rdd"; fail "pl"; fail "pl")
  | ((with_reducible apply rd_neM); fail "rdd"; fail "rdd"; fail "pl"; fail "pl")
  | (with_reducible apply rd_isN)
  | (with_reducible apply rd_notN)
  | ((with_reducible apply rd_catN); fail "rdd"; fail "rdd"; fail "om")
  | ((with_reducible apply rd_rep); fail "rdd"; fail "om"; fail "om"; fail "om")
  | (with_reducible apply rd_notInX)
  | ((with_reducible apply rd_addTx); fail "tx"; fail "tx"; fail "ll"; fail "ll")
  | (with_reducible apply rd_inC)
  | (with_reducible apply rd_notInC)
  | ((with_reducible apply rd_mulT); fail "tl"; fail "tl")
  | fail "stuck")
local macro_rules | `(tactic| fail "k1") => `(tactic| first
  | ((with_reducible apply rd_slL); (first | exact Or.inl rfl | exact Or.inr rfl))
  | ((with_reducible apply rd_slm); exact rfl)
  | (with_reducible apply rd_neg)
  | ((with_reducible apply rd_slTx); fail "tx"; fail "ll")
  | fail "stuck")
local macro_rules | `(tactic| fail "kL") => `(tactic| first
  | ((with_reducible apply rl_len); (first | exact rfl | assumption))
  | ((with_reducible apply rl_lenm); exact rfl)
  | ((with_reducible apply rl_list); (first | exact rfl | assumption))
  | ((with_reducible apply rl_listm); exact rfl)
  | ((with_reducible apply rl_tup); (first | exact rfl | assumption))
  | ((with_reducible apply rl_tupm); exact rfl)
  | (with_reducible apply rl_int)
  | (with_reducible apply rl_intb)
  | (with_reducible apply rl_max2)
  | (with_reducible apply rl_min2)
  | ((with_reducible apply rl_isi); exact rfl; exact rfl)
  | ((with_reducible apply rl_isim); exact rfl; exact rfl)
  | ((with_reducible apply rl_lenTx); fail "tx"; fail "ll")
  | ((with_reducible apply rl_minN); fail "rdd"; fail "om")
  | (with_reducible apply rl_allM)
  | ((with_reducible apply rl_strN); fail "om")
  | fail "stuck")
local macro_rules | `(tactic| fail "kLM") => `(tactic| first
  | ((with_reducible apply rlm_list); (first | exact rfl | assumption))
  | ((with_reducible apply rlm_listm); exact rfl)
  | fail "stuck")
local macro_rules | `(tactic| fail "kRM") => `(tactic| first
  | (refine rm_append (by fail "fz") rfl (by first | (fail "lt") | (simp only [nt_len, List.length_map, List.length_range]; omega) | omega) ?_)
  | (refine rm_insert (by fail "fz") rfl (by simp only [nt_len, List.length_map]; omega) (by omega) (by simp only [nt_len, List.length_map]; omega) ?_)
  | fail "stuck")
local macro_rules | `(tactic| fail "retN") => `(tactic| ((try dsimp only); refine ⟨_, _, _, rfl, by fail "lt", rfl, ?_⟩; first | dsimp only [FinU] | dsimp only [FinU, List.cons_append, List.nil_append]))
local macro_rules | `(tactic| fail "kO") => `(tactic| first
  | (with_reducible apply eo_none)
  | (with_reducible apply eo_some)
  | fail "stuck")
local macro_rules | `(tactic| fail "kG") => `(tactic| first
  | ((with_reducible apply eg_name); fail "norm")
  | ((with_reducible apply eg_move); exact rfl; exact rfl; fail "lt"; fail "norm")
  | ((with_reducible apply eg_tup); exact rfl)
  | (with_reducible refine eg_sub (by fail "fz") ?_)
  | ((with_reducible apply eg_lst); exact rfl)
  | fail "stuck")
local macro_rules | `(tactic| fail "kGs") => `(tactic| first
  | (with_reducible apply egs_cons)
  | (with_reducible apply egs_nil)
  | fail "stuck")
local macro_rules | `(tactic| fail "kI") => `(tactic| first
  | (with_reducible apply ei_row)
  | (with_reducible apply ei_list)
  | (with_reducible apply ei_tup)
  | (with_reducible apply ei_range1)
  | (with_reducible apply ei_range2)
  | (with_reducible apply ei_str)
  | (with_reducible apply ei_enumS)
  | (with_reducible apply ei_enumX)
  | (with_reducible apply ei_enumK)
  | (with_reducible apply ei_zipT)
  | fail "stuck")
local macro_rules | `(tactic| fail "kS") => `(tactic| first
  | (with_reducible apply es_seq)
  | ((with_reducible apply es_asgM); exact rfl)
  | (with_reducible apply es_asg)
  | (with_reducible apply es_ret)
  | (with_reducible apply es_if)
  | (with_reducible apply es_dropE)
  | (with_reducible apply es_next)
  | (with_reducible apply es_break)
  | (with_reducible apply es_cont)
  | (with_reducible apply es_retN)
  | (with_reducible apply es_fldN)
  | fail "stuck")
/-! what is left: choices, splits -/
local macro_rules | `(tactic| fail "dA") => `(tactic| first
  | (refine spl_t rfl ?_) | (refine spl_f rfl ?_)
  | ((with_reducible apply spl_neS); fail "pl") | ((with_reducible apply spl_eqS); fail "pl")
  | ((with_reducible apply spl_dt); omega) | ((with_reducible apply spl_df); omega)
  | ((with_reducible apply spl_ndt); omega) | ((with_reducible apply spl_ndf); omega)
  | (refine ⟨ty_mu (by exact rfl), ?_⟩)
  | (refine ⟨ty_lst, ?_⟩)
  | fail "stuck")
local macro_rules | `(tactic| fail "om") => `(tactic| first | omega | (simp only [List.length_append, txs_len, nt_len, List.length_range, List.length_map, List.length_cons, List.length_nil, List.length_replicate, rgT_len, Int.toNat_natCast]; omega))
local macro_rules | `(tactic| fail "dO") => `(tactic| first | (refine Or.inl ⟨_, rfl, by fail "ll", ?_⟩) | (refine Or.inr ⟨_, rfl, by fail "om", ?_⟩))
local macro_rules | `(tactic| fail "kJ") => `(tactic| first | (with_reducible apply ej_cons) | (with_reducible apply ej_nil) | fail "stuck")
local macro_rules | `(tactic| fail "dE") => `(tactic| first
  | (refine ⟨_, _, rfl, rfl, by fail "om", by fail "om", ?_⟩)
  | (refine ⟨_, _, rfl, by fail "tx", by fail "ll", ?_⟩)
  | (refine ⟨_, _, rfl, by fail "tx", ?_⟩)
  | (refine ⟨_, _, _, _, rfl, by fail "fz", by first | exact rfl | assumption, ?_⟩)
  | (refine ⟨_, rfl, by fail "om", by fail "om", ?_⟩)
  | (refine ⟨_, rfl, ?_⟩)
  | (refine ⟨_, _, by fail "fzl", by (exact Nat.le_of_ble_eq_true rfl), ?_⟩)
  | (refine ⟨_, _, _, by fail "fz", rfl, ?_⟩)
  | (refine ⟨_, _, _, by fail "fz", by assumption, ?_⟩)
  | (refine ⟨_, _, _, by fail "fz", Or.inl rfl, ?_⟩)
  | (refine ⟨_, _, _, by fail "fz", Or.inr rfl, ?_⟩)
  | (refine ⟨_, by fail "lt", by fail "norm", ?_⟩)
  | (refine ⟨_, _, by fail "fz", ?_⟩)
  | (refine ⟨_, _, _, _, _, _, _, rfl, rfl, rfl, rfl, rfl, by fail "lt", by fail "norm", ?_⟩)
  | (refine ⟨_, Or.inl rfl, ?_⟩)
  | (refine ⟨_, Or.inr ⟨_, _, rfl, rfl⟩, ?_⟩)
  | fail "fld"
  | fail "fldN"
  | (refine ⟨_, _, rfl, ⟨by fail "om", by fail "om", by fail "om", by fail "om"⟩, ?_⟩)
  | (refine ⟨_, _, rfl, ?_⟩)
  | fail "stuck")
/-! the end of a def; what a comprehension asks -/
local macro_rules | `(tactic| fail "ret") => `(tactic| first | (refine ⟨_, _, by fail "fz", ?_⟩; dsimp only [FinU]) | dsimp only [FinU])
local macro_rules | `(tactic| fail "gok") => `(tactic| first | exact gok_name (by decide) | exact gok_tup (gsok_cons gmono_name (gok_name (by decide)) (gsok_cons gmono_name (gok_name (by decide)) gsok_nil)) | exact gok_tup (gsok_cons gmono_name (gok_name (by decide)) (gsok_cons gmono_name (gok_name (by decide)) (gsok_cons gmono_name (gok_name (by decide)) gsok_nil))))
local macro_rules | `(tactic| fail "start") => `(tactic| first | refine es_norm (by fail "norm") ?_ | refine eg_norm (by fail "norm") ?_)
local macro_rules | `(tactic| fail "end") => `(tactic| (refine ⟨_, by fail "fz", by fail "kps"⟩))
local macro_rules | `(tactic| fail "s") => `(tactic| first
  | ((guard_target = EvE _ _ _ _); fail "kE")
  | ((guard_target = EvS _ _ _ _); fail "kS")
  | ((guard_target = Rd2 _ _ _ _ _ _); fail "k2")
  | ((guard_target = EvA _ _ _ _); fail "kA")
  | ((guard_target = EvG _ _ _ _ _); fail "kG")
  | ((guard_target = EvT _ _ _ _); fail "kT")
  | ((guard_target = RdL _ _ _ _ _); fail "kL")
  | ((guard_target = EvM _ _ _ _); fail "kM")
  | ((guard_target = EvI _ _ _ _); fail "kI")
  | ((guard_target = EvGs _ _ _ _ _); fail "kGs")
  | ((guard_target = RdM _ _ _ _ _ _); fail "kRM")
  | ((guard_target = RdLM _ _ _ _ _); fail "kLM")
  | ((guard_target = EvO _ _ _ _); fail "kO")
  | ((guard_target = Rd1 _ _ _ _ _); fail "k1")
  | ((guard_target = Exists _); fail "dE")
  | ((guard_target = And _ _); fail "dA")
  | ((guard_target = EvJ _ _ _ _ _); fail "kJ")
  | ((guard_target = Or _ _); fail "dO")
  | fail "stuck")
local macro_rules | `(tactic| fail "go") => `(tactic| repeat' fail "s")
local macro_rules | `(tactic| fail "call") => `(tactic| refine spe_W (by fail "args") (by first | decide | simp) ?_)
local macro_rules | `(tactic| fail "callN") => `(tactic| refine spe_N (by fail "args") (by first | decide | simp) ?_)
local macro_rules | `(tactic| fail "app") => `(tactic| (refine rm_append (by fail "fz") rfl (by first | (fail "lt") | (simp only [nt_len, List.length_map]; omega) | omega) ?_; refine ⟨_, by fail "lt", by fail "norm", ?_⟩))
local macro_rules | `(tactic| fail "take") => `(tactic| refine spe_take rfl (by omega) (by omega) (fun _ _ => ?_))

local macro_rules | `(tactic| fail "nw") => `(tactic| ((try simp only [puts, List.set_cons_zero, List.set_cons_succ]); fail "wks"))
local macro_rules | `(tactic| fail "side") => `(tactic| first | exact rfl | assumption | omega | (simp only [List.length_append, List.length_cons, List.length_nil, List.length_map, nt_len, rgT_len, List.length_replicate]; omega) | exact mem_snoc (by assumption) (by first | assumption | omega | exact ⟨by first | assumption | omega, by first | assumption | omega⟩) | decide | (simp; done))
local macro_rules | `(tactic| fail "cnd") => `(tactic| repeat' (first | (guard_target = And _ _; refine And.intro ?_ ?_) | fail "side"))
local macro_rules | `(tactic| fail "callS") => `(tactic| (guard_target = SpE _ _ _ _ _ _); refine spe_WS (by fail "args") (by first | decide | simp) ?_)
local macro_rules | `(tactic| fail "callNS") => `(tactic| (guard_target = SpE _ _ _ _ _ _); refine spe_NS (by fail "args") (by first | decide | simp) ?_)
local macro_rules | `(tactic| fail "un") => `(tactic| with_reducible apply Stop.mk)
local macro_rules | `(tactic| fail "gg") => `(tactic| repeat' (first | fail "s" | ((guard_target = SpE _ (spW _ _ _) _ _ _ _); fail "callS"; fail "wp"; fail "un") | ((guard_target = SpE _ (spCellv _) _ _ _ _); refine spe_cell (by omega) (by omega) fun _ => ?_) | ((guard_target = SpE _ spFeed _ _ _ _); refine spe_feed fun _ => ?_)))
local macro_rules | `(tactic| fail "mapeq") => `(tactic| first | exact rfl | exact word_items | exact nums_str _ | exact tx_items _ | exact rg0 | (rw [rg0]; exact congrArg (fun k => nt (List.range k)) (by omega)) | exact cutT_map | (rw [rg0]; exact rfl) | (simp only [nt_len, List.length_map, Int.toNat_natCast]; exact rg0) | (rw [rg0]; simp only [nt_len, List.length_map, Int.toNat_natCast]; exact rfl))
local macro_rules | `(tactic| fail "wp2") => `(tactic| repeat (first | ((guard_target = Exists _); apply Exists.intro) | ((guard_target = And _ _); refine And.intro (by fail "side") ?_)))
local macro_rules | `(tactic| fail "wp") => `(tactic| first | (apply Exists.intro; fail "wp2") | (refine And.intro (by fail "side") ?_; fail "wp2") | fail "wp stuck")
def rowsL (ls : List (List Int)) : List T := ls.map fun row => .lst (row.map T.int)
structure Bd (B : Nat) (ss : List Int) (ls : List (List Int)) : Prop where
  s : ss.length ≤ B
  l : ls.length ≤ B
  r : ∀ row ∈ ls, row.length ≤ B
theorem Bd.mono {B C : Nat} {ss : List Int} {ls : List (List Int)} (b : Bd B ss ls) (h : B ≤ C) : Bd C ss ls := ⟨Nat.le_trans b.s h, Nat.le_trans b.l h, fun row hr => Nat.le_trans (b.r row hr) h⟩
theorem rmem {ls : List (List Int)} {lo hi : Option Int} : ∀ row ∈ cutL ls lo hi, row ∈ ls := fun row h => by
  unfold cutL at h
  exact List.mem_of_mem_drop (List.mem_of_mem_take h)
theorem evm_revL {J : Jd} {te : TE} {ρ : List U} {Φ : R → List U → Prop} (h : EvE J te ρ fun r ρ1 => ∃ ts, (r = .sh (.lst ts) ∨ ∃ i a, r = .mr i a ∧ ρ1[i]? = some (.mu a (.lst ts))) ∧ ∀ p, Φ (.mr ρ1.length p) (ρ1 ++ [.mu p (.lst ts.reverse)])) : EvE J (tRevL J.K te) ρ Φ := by
  intro O σ G H Q hn E c
  refine h O σ G H _ hn E ⟨fun v r G1 H1 ρ1 ⟨ts, e, q⟩ E1 r1 g1 => ?_, c.x⟩
  rcases e with rfl | ⟨i, a, rfl, hi⟩
  · cases r1 with
    | lst h2 rl => exact ⟨_, _, rfl, SqL.of (E1.same _ _ h2), fun p np => (c.on g1).fresh hn E1 np rl.rev q⟩
  · cases r1
    obtain ⟨_, vs, e1, rl⟩ := E1.ob i _ hi
    exact ⟨_, _, rfl, SqL.of e1, fun p np => (c.on g1).fresh hn E1 np rl.rev q⟩
theorem wks_nm : ∀ (ρ : List U) (i : Nat), Wks ρ (ρ.set i .nm)
  | [], _ => .nil
  | _ :: ρ, 0 => .cons .nm (Wks.refl ρ)
  | _ :: ρ, i + 1 => .cons .same (wks_nm ρ i)
theorem es_nm {J : Jd} {ρ : List U} {ts : TS} {D : PD} (i : Nat) (h : EvS J ts (ρ.set i .nm) D) (hl : J.n ≤ ρ.length) : EvS J ts ρ D := es_wk (wks_nm ρ i) (by rw [List.length_set]; exact hl) h
theorem eg_nm {J : Jd} {ρ : List U} {g : TG} {r : R} {N : List U → Prop} (i : Nat) (h : EvG J g r (ρ.set i .nm) N) (hl : J.n ≤ ρ.length) : EvG J g r ρ N := eg_wk (wks_nm ρ i) (by rw [List.length_set]; exact hl) h
theorem rowsL_sn {ls : List (List Int)} {row : List Int} : rowsL ls ++ [T.lst (row.map T.int)] = rowsL (ls ++ [row]) := by unfold rowsL; rw [List.map_append]; rfl
def wp_law_joined : WpT := fun ts Φ _ => ∃ (ss : List Int) (ls : List (List Int)) (m : Nat) (k : Int) (B : Nat), ts = [.non, .lst (ss.map T.int), .lst (rowsL ls), .int (m : Int), .int k] ∧ 1 ≤ m ∧ m ≤ 16 ∧ Bd B ss ls ∧ 15 ≤ B ∧ B ≤ 500 ∧ ∀ ss' ls', Bd (B + 20) ss' ls' → Φ .non [.lst (ss'.map T.int), .lst (rowsL ls')]
def wp_law_changed : WpT := fun ts Φ _ => ∃ (z : Int) (r : Rows), ts = [.int z, rowsI (ofR r)] ∧ r.ok ∧ ∀ x : RI, x.sm → Φ (rowsI x) []
section
variable {P : Program} {w : World} {K : PySem.W.Frag} {mg : Str → Option Value} {base : Heap}
theorem ok_law_joined {f : Addr} {fd : FuncData} {k : Nat} (F : Fun K "_law_joined" "_law_joined" s_law_joined f fd) (mrange : mg "range" = none) (mlen : mg "len" = none) (O_law_take : Ok P w K mg base k "_law_take" P_law_take spTake) : FnOk P w K mg base CX0 (k + 1) f fd P_law_joined (spW K [.fe, .mt, .mt, .pu, .pu] wp_law_joined) := by
  refine F.ok sc_law_joined (fun vs H Q E h => len_W rfl h) (fun cdv A outer s H vs Q E hr h => ⟨_, (pss_one (ps_forV [(1, .nm), (2, .nm), (5, .no)] (ps_for PassesOwn.never rfl (pi_range1 (by rfl) mrange (pa_cons pe_int pa_nil)) (pg_name (i := 5) sc_law_joined.nd rfl (Or.inl rfl))
      (pss_one (ps_if (pt_cmpR op_lt (pe_callB (r := rLenS K) call_lenK (by rfl) mlen (by decide +kernel) (pa_cons (pv 1) pa_nil)) (pv 4) (nomark _))
        (pss_cons (ps_expr (pe_bmK (K := K) PySem.F.plainAttrs_list PySem.F.slot_list_append PySem.F.type_list_append mt_append (pv 1) (pa_cons (pe_c O_law_take hr (by rfl) (pa_cons (pv 0) (pa_cons (pv 3) pa_nil))) pa_nil)))
        (pss_one (ps_expr (pe_bmK (K := K) PySem.F.plainAttrs_list PySem.F.slot_list_append PySem.F.type_list_append mt_append (pv 2) (pa_cons (pe_lcK (vs := [6]) (pe_lc (own := [("j", 6)]) (g := (gName 6)) (tt := tYes) rfl sc_law_joined.nd (pi_range1 (by rfl) mrange (pa_cons (pe_op op_sub (pv 3) pe_int) pa_nil)) (blkOk_by (N := N_law_joined) (sc := defScope s_law_joined) (by decide +kernel)) (fun _ _ _ _ _ => (pg_name (i := 6) sc_law_joined.nd rfl (Or.inl rfl))) (fun _ _ _ _ _ => pts_nil) (fun _ _ _ _ _ => (pe_c O_law_take hr (by rfl) (pa_cons (pv 0) (pa_cons pe_int pa_nil)))))) pa_nil)))))
        pss_nil))))), ?_⟩)
  refine run_W (n := 7) (rest := [.no, .no]) rfl (by fail "blank") rfl (fun ts as Φ Ψ hts has w => ?_) h
  obtain ⟨a0, a1, a2, rfl⟩ := as3 has
  -- slots: 0 feed 1 seats* 2 leanings* 3 leaves 4 many 5 k 6 j
  obtain ⟨ss, ls, m, k, B, rfl, m1, m16, bd, b15, b500, q⟩ := w
  have hs0 : ss.length ≤ B + 0 := bd.s
  have hl0 : ls.length ≤ B + 0 := bd.l
  have hr0 := bd.r
  fail "start"
  fail "gg"
  refine es_forV ?_
  fail "gg"
  refine ⟨by fail "lt", fun ρb i ρ' => ∃ (ss' : List Int) (ls' : List (List Int)), (ss'.length ≤ B + i) ∧ (ls'.length ≤ B + i) ∧ (∀ row ∈ ls', row.length ≤ B) ∧ ρ' = puts [(1, .mu a1 (.lst (ss'.map T.int))), (2, .mu a2 (.lst (rowsL ls')))] ρb, ?_, fun i t ρ' ht hM => ?_, fun m ρ' hm hM => ?_⟩
  · apply fin_mk
    · refine ⟨ss, ls, ?_⟩
      fail "cnd"
    · fail "nw"
    · fail "lt"
  · obtain ⟨ss', ls', hs, hl, hr, rfl⟩ := hM
    obtain ⟨hi, rfl⟩ := rgT_get0 ht
    try simp only [nt_len, Int.toNat_natCast, List.length_map, List.length_cons, List.length_nil] at hi
    fail "start"
    fail "gg"
    have hi : i < 20 := hi
    have n1 : (ss'.map T.int).length = ss'.length := List.length_map ..
    have n2 : (rowsL ls').length = ls'.length := List.length_map ..
    fail "gg"
    refine spl_d (fun c => ?_) (fun c => ?_)
    · fail "gg"
      fail "gg"
      refine spe_take rfl (by omega) (by omega) fun t1 ht1 => ?_
      fail "gg"
      fail "gg"
      refine ev_mapD (xs := List.range (m - 1)) (h := fun i => T.int (i : Int)) (f := T.int) (P := fun _ => True) (by fail "gok") ?_
      fail "gg"
      refine ⟨by fail "lt", by fail "mapeq", by fail "om", fun x hx => ?_, ?_⟩
      · fail "start"
        fail "gg"
        refine spe_take rfl (by omega) (by omega) fun x1 hx1 => ?_
        fail "gg"
        exact ⟨by fail "kps", trivial⟩
      intro ys hul _
      rw [List.length_range] at hul
      have e1 : T.lst (ss'.map T.int ++ [T.int (t1 : Int)]) = T.lst ((ss' ++ [(t1 : Int)]).map T.int) := by rw [List.map_append]; rfl
      have e2 : T.lst (rowsL ls' ++ [T.lst (ys.map T.int)]) = T.lst (rowsL (ls' ++ [ys])) := by rw [rowsL_sn]
      have hs2 : (ss' ++ [(t1 : Int)]).length ≤ B + (i + 1) := by rw [List.length_append]; simp only [List.length_cons, List.length_nil]; omega
      have hl2 : (ls' ++ [ys]).length ≤ B + (i + 1) := by rw [List.length_append]; simp only [List.length_cons, List.length_nil]; omega
      have hr2 : ∀ row ∈ ls' ++ [ys], row.length ≤ B := all_app hr (all_one (by omega))
      fail "gg"
      apply fin_mk
      · refine ⟨ss' ++ [(t1 : Int)], ls' ++ [ys], ?_⟩
        fail "cnd"
      · fail "nw"
      · fail "lt"
    · have hs2 : ss'.length ≤ B + (i + 1) := by omega
      have hl2 : ls'.length ≤ B + (i + 1) := by omega
      fail "gg"
      apply fin_mk
      · refine ⟨ss', ls', ?_⟩
        fail "cnd"
      · fail "nw"
      · fail "lt"
  · obtain ⟨ss', ls', hs, hl, hr, rfl⟩ := hM
    have hm : m = 20 := hm
    subst hm
    exact ⟨rfl, _, rfl, _, rfl, q ss' ls' ⟨hs, hl, fun row hrow => Nat.le_trans (hr row hrow) (by omega)⟩⟩
theorem ok_law_changed {f : Addr} {fd : FuncData} {k : Nat} (F : Fun K "_law_changed" "_law_changed" s_law_changed f fd) (O_law_feed : Ok P w K mg base k "_law_feed" P_law_feed spFeed) (mlen : mg "len" = none) (mlist : mg "list" = none) (mrange : mg "range" = none) (O_law_take : Ok P w K mg base k "_law_take" P_law_take spTake) (O_law_changed_seat : Ok P w K mg base k "_law_changed_seat" P_law_changed_seat (spW K [.fe, .pu] wp_law_changed_seat)) (O_law_joined : Ok P w K mg base k "_law_joined" P_law_joined (spW K [.fe, .mt, .mt, .pu, .pu] wp_law_joined)) (O_law_changed_row : Ok P w K mg base k "_law_changed_row" P_law_changed_row (spW K [.fe, .pu, .pu] wp_law_changed_row)) : FnOk P w K mg base CX0 (k + 1) f fd P_law_changed (spW K [.pu, .pu] wp_law_changed) := by
  refine F.ok sc_law_changed (fun vs H Q E h => len_W rfl h) (fun cdv A outer s H vs Q E hr h => ⟨_, (pss_cons (ps_set (i := 2) sc_law_changed.nd rfl (Or.inr rfl) (pe_c O_law_feed hr (by rfl) (pa_cons (pv 0) pa_nil)))
    (pss_cons (ps_set (i := 3) sc_law_changed.nd rfl (Or.inl rfl) (pe_op op_add (pe_callB (r := rLenS K) call_lenK (by rfl) mlen (by decide +kernel) (pa_cons (pe_ix (r := rIx K) ix_seq (pe_ix (r := rIx K) ix_seq (pv 1) pe_int (fun _ _ => rfl)) pe_int (fun _ _ => rfl)) pa_nil)) pe_int))
    (pss_cons (ps_set (i := 4) sc_law_changed.nd rfl (Or.inl rfl) (pe_ix (r := rIx K) ix_seq (pv 1) pe_int (fun _ _ => rfl)))
    (pss_cons (ps_set (i := 5) sc_law_changed.nd rfl (Or.inl rfl) (pe_callTy (r := rListOf K) call_listK (by rfl) mlist (by decide +kernel) (pa_cons (pe_ix (r := rIx K) ix_seq (pv 1) pe_int (fun _ _ => rfl)) pa_nil)))
    (pss_cons (ps_lcK (vs := [7]) (ps_setLc (i := 6) (own := [("row", 7)]) (g := (gName 7)) (tt := tYes) rfl sc_law_changed.nd rfl rfl (sw_true rfl rfl rfl (by decide +kernel)) (pi_seqK (K := K) (pe_ix (r := rIx K) ix_seq (pv 1) pe_int (fun _ _ => rfl))) (blkOk_by (N := N_law_changed) (sc := defScope s_law_changed) (by decide +kernel)) (fun _ _ _ _ _ => (pg_name (i := 7) sc_law_changed.nd rfl (Or.inl rfl))) (fun _ _ _ _ _ => pts_nil) (fun _ _ _ _ _ => (pe_callTy (r := rListOf K) call_listK (by rfl) mlist (by decide +kernel) (pa_cons (pv 7) pa_nil)))))
    (pss_cons (ps_forV [(4, .no), (5, .nm), (6, .nm), (8, .no), (9, .no), (10, .no), (11, .no)] (ps_for PassesOwn.never rfl (pi_range1 (by rfl) mrange (pa_cons (pe_ix (r := rIx K) ix_seq (pe_lst (pa_cons pe_int (pa_cons pe_int (pa_cons pe_int (pa_cons pe_int (pa_cons pe_int (pa_cons pe_int pa_nil))))))) (pe_c O_law_take hr (by rfl) (pa_cons (pv 2) (pa_cons pe_int pa_nil))) (fun _ _ => rfl)) pa_nil)) (pg_name (i := 8) sc_law_changed.nd rfl (Or.inl rfl))
      (pss_cons (ps_set (i := 9) sc_law_changed.nd rfl (Or.inl rfl) (pe_c O_law_take hr (by rfl) (pa_cons (pv 2) (pa_cons pe_int pa_nil))))
      (pss_one (ps_if (pt_cmpR op_eq (pv 9) pe_int (nomark _))
        (pss_cons (ps_set (i := 4) sc_law_changed.nd rfl (Or.inl rfl) (pe_op op_sub (pe_c O_law_take hr (by rfl) (pa_cons (pv 2) (pa_cons pe_int pa_nil))) pe_int))
        (pss_one (ps_if (pt_cmpR op_eq (pe_c O_law_take hr (by rfl) (pa_cons (pv 2) (pa_cons pe_int pa_nil))) pe_int (nomark _))
          (pss_one (ps_set (i := 4) sc_law_changed.nd rfl (Or.inl rfl) (pe_op op_sub (pe_c O_law_take hr (by rfl) (pa_cons (pv 2) (pa_cons pe_int pa_nil))) pe_int)))
          pss_nil)))
        (pss_one (ps_if (PW.pt (pw_and (pt_cmpR op_lt (pv 9) pe_int (nomark _)) (pw_and1 (pt_cmpR op_gt (pe_callB (r := rLenS K) call_lenK (by rfl) mlen (by decide +kernel) (pa_cons (pv 5) pa_nil)) pe_int (nomark _)))))
          (pss_cons (ps_set (i := 10) sc_law_changed.nd rfl (Or.inl rfl) (pe_c O_law_take hr (by rfl) (pa_cons (pv 2) (pa_cons (pe_callB (r := rLenS K) call_lenK (by rfl) mlen (by decide +kernel) (pa_cons (pv 5) pa_nil)) pa_nil))))
          (pss_one (ps_asg (pe_c O_law_changed_seat hr (by rfl) (pa_cons (pv 2) (pa_cons (pv 3) pa_nil))) (pg_sub (pv 5) (pv 10) set_list))))
          (pss_one (ps_if (pt_cmpR op_eq (pv 9) pe_int (nomark _))
            (pss_cons (ps_set (i := 5) sc_law_changed.nd rfl (Or.inl rfl) (pe_lst pa_nil))
            (pss_one (ps_set (i := 6) sc_law_changed.nd rfl (Or.inl rfl) (pe_lst pa_nil))))
            (pss_one (ps_if (PW.pt (pw_or (pt_cmpR op_eq (pv 9) pe_int (nomark _)) (pw_or1 (pt_cmpR op_eq (pv 9) pe_int (nomark _)))))
              (pss_one (ps_expr (pe_c O_law_joined hr (by rfl) (pa_cons (pv 2) (pa_cons (pv 5) (pa_cons (pv 6) (pa_cons (pv 3) (pa_cons (pe_ix (r := rIx K) ix_seq (pe_lst (pa_cons pe_int (pa_cons pe_int (pa_cons pe_int (pa_cons pe_int (pa_cons pe_int pa_nil)))))) (pe_c O_law_take hr (by rfl) (pa_cons (pv 2) (pa_cons pe_int pa_nil))) (fun _ _ => rfl)) pa_nil))))))))
              (pss_one (ps_if (pt_cmpR op_eq (pv 9) pe_int (nomark _))
                (pss_one (ps_expr (pe_bmK (K := K) PySem.F.plainAttrs_list PySem.F.slot_list_append PySem.F.type_list_append mt_append (pv 5) (pa_cons (pe_c O_law_take hr (by rfl) (pa_cons (pv 2) (pa_cons (pv 3) pa_nil))) pa_nil))))
                (pss_one (ps_if (PW.pt (pw_and (pt_cmpR op_lt (pv 9) pe_int (nomark _)) (pw_and1 (pt_cmpR op_gt (pe_callB (r := rLenS K) call_lenK (by rfl) mlen (by decide +kernel) (pa_cons (pv 6) pa_nil)) pe_int (nomark _)))))
                  (pss_cons (ps_set (i := 10) sc_law_changed.nd rfl (Or.inl rfl) (pe_c O_law_take hr (by rfl) (pa_cons (pv 2) (pa_cons (pe_callB (r := rLenS K) call_lenK (by rfl) mlen (by decide +kernel) (pa_cons (pv 6) pa_nil)) pa_nil))))
                  (pss_one (ps_asg (pe_c O_law_changed_row hr (by rfl) (pa_cons (pv 2) (pa_cons (pe_ix (r := rIx K) ix_seq (pv 6) (pv 10) (fun _ _ => rfl)) (pa_cons (pe_c O_law_take hr (by rfl) (pa_cons (pv 2) (pa_cons pe_int pa_nil))) pa_nil)))) (pg_sub (pv 6) (pv 10) set_list))))
                  (pss_one (ps_if (PW.pt (pw_and (pt_cmpR op_eq (pv 9) pe_int (nomark _)) (pw_and1 (pt_cmpR op_gt (pe_callB (r := rLenS K) call_lenK (by rfl) mlen (by decide +kernel) (pa_cons (pv 6) pa_nil)) pe_int (nomark _)))))
                    (pss_cons (ps_set (i := 10) sc_law_changed.nd rfl (Or.inl rfl) (pe_c O_law_take hr (by rfl) (pa_cons (pv 2) (pa_cons (pe_callB (r := rLenS K) call_lenK (by rfl) mlen (by decide +kernel) (pa_cons (pv 6) pa_nil)) pa_nil))))
                    (pss_one (ps_set (i := 6) sc_law_changed.nd rfl (Or.inl rfl) (pe_op op_cat (pe_slice (r := rSlL K) sl_list (pv 6) po_none (po_some (pv 10))) (pe_slice (r := rSlL K) sl_list (pv 6) (po_some (pe_op op_add (pv 10) pe_int)) po_none)))))
                    (pss_one (ps_if (pt_cmpR op_eq (pv 9) pe_int (nomark _))
                      (pss_one (ps_set (i := 6) sc_law_changed.nd rfl (Or.inl rfl) (pe_lst pa_nil)))
                      (pss_one (ps_if (pt_cmpR op_eq (pv 9) pe_int (nomark _))
                        (pss_one (ps_forV [(6, .nm), (11, .no)] (ps_for PassesOwn.never rfl (pi_range1 (by rfl) mrange (pa_cons (pe_op op_add pe_int (pe_c O_law_take hr (by rfl) (pa_cons (pv 2) (pa_cons pe_int pa_nil)))) pa_nil)) (pg_name (i := 11) sc_law_changed.nd rfl (Or.inl rfl))
                          (pss_one (ps_expr (pe_bmK (K := K) PySem.F.plainAttrs_list PySem.F.slot_list_append PySem.F.type_list_append mt_append (pv 6) (pa_cons (pe_lcK (vs := [12]) (pe_lc (own := [("node", 12)]) (g := (gName 12)) (tt := tYes) rfl sc_law_changed.nd (pi_range1 (by rfl) mrange (pa_cons (pe_op op_sub (pv 3) pe_int) pa_nil)) (blkOk_by (N := N_law_changed) (sc := defScope s_law_changed) (by decide +kernel)) (fun _ _ _ _ _ => (pg_name (i := 12) sc_law_changed.nd rfl (Or.inl rfl))) (fun _ _ _ _ _ => pts_nil) (fun _ _ _ _ _ => (pe_c O_law_take hr (by rfl) (pa_cons (pv 2) (pa_cons pe_int pa_nil)))))) pa_nil)))))))
                        (pss_one (ps_if (pt_cmpR op_eq (pv 9) pe_int (nomark _))
                          (pss_cons (ps_set (i := 5) sc_law_changed.nd rfl (Or.inl rfl) (pe_revLK (K := K) (pv 5)))
                          (pss_one (ps_set (i := 6) sc_law_changed.nd rfl (Or.inl rfl) (pe_revLK (K := K) (pv 6)))))
                          pss_nil)))))))))))))))))))))))
    (pss_one (ps_ret (pe_lst (pa_cons (pv 4) (pa_cons (pv 5) (pa_cons (pv 6) pa_nil)))))))))))), ?_⟩)
  refine run_W (n := 13) (rest := [.no, .no, .no, .nm, .nm, .no, .no, .no, .no, .no, .no]) rfl (by fail "blank") rfl (fun ts as Φ Ψ hts has w => ?_) h
  obtain rfl := as0 has
  -- slots: 0 cell 1 rows 2 feed 3 leaves 4 height 5 seats* 6 leanings* 7 row 8 k 9 kind 10 at 11 j 12 node
  obtain ⟨z, r, rfl, ko, q⟩ := w
  have hp := ko.pos
  have h16 : r.seats.length ≤ 16 := ko.s16
  have hll := ko.ll
  have el : (ofR r).l.length = r.lean.length := List.length_map ..
  have es : (ofR r).s.length = r.seats.length := List.length_map ..
  have er : ∀ row ∈ (ofR r).l, row.length = r.N - 1 := fun row hr => by
    obtain ⟨row', h, rfl⟩ := List.mem_map.mp hr
    rw [List.length_map]
    exact ko.rl _ h
  obtain ⟨row0, hrow0⟩ := get_of_lt (xs := (ofR r).l) (i := 0) (by have := ko.s1; omega)
  have hl0 : (row0.map T.int).length = r.N - 1 := by rw [List.length_map]; exact er _ (List.mem_of_getElem? hrow0)
  fail "start"
  fail "gg"
  refine rd_ix rfl (atI_map hrow0) ?_
  fail "gg"
  rw [hl0, show ((r.N - 1 : Nat) : Int) + 1 = ((r.N : Nat) : Int) by omega]
  fail "gg"
  intro p
  fail "gg"
  fail "gg"
  refine evm_map (xs := (ofR r).l) (h := fun row => T.lst (row.map T.int)) (f := fun row => T.lst (row.map T.int)) (by fail "gok") ?_
  fail "gg"
  refine ⟨by fail "lt", by fail "mapeq", by fail "om", fun x hx => ?_, ?_⟩
  · fail "start"
    fail "gg"
    fail "end"
  intro p2
  fail "gg"
  rw [show (ofR r).l.map (fun row => T.lst (row.map T.int)) = rowsL (ofR r).l from rfl]
  refine es_forV ?_
  fail "gg"
  fail "gg"
  refine spe_take rfl (by omega) (by omega) fun t0 ht0 => ?_
  fail "gg"
  obtain ⟨mm, hmm, m3⟩ : ∃ mm : Nat, atI [T.int 1, T.int 1, T.int 2, T.int 1, T.int 3, T.int 0] (t0 : Int) = some (.int (mm : Int)) ∧ mm ≤ 3 := by
    have : t0 = 0 ∨ t0 = 1 ∨ t0 = 2 ∨ t0 = 3 ∨ t0 = 4 ∨ t0 = 5 := by omega
    rcases this with rfl | rfl | rfl | rfl | rfl | rfl
    · exact ⟨1, rfl, by omega⟩
    · exact ⟨1, rfl, by omega⟩
    · exact ⟨2, rfl, by omega⟩
    · exact ⟨1, rfl, by omega⟩
    · exact ⟨3, rfl, by omega⟩
    · exact ⟨0, rfl, by omega⟩
  refine rd_ix rfl hmm ?_
  fail "gg"
  have bd0 : Bd (16 + 40 * 0) (ofR r).s (ofR r).l := ⟨by omega, by omega, fun row hr => by have := er row hr; omega⟩
  refine ⟨by fail "lt", fun ρb i ρ' => ∃ (hh : Int) (ss : List Int) (ls : List (List Int)) (pa : Addr) (pb : Addr), (Bd (16 + 40 * i) ss ls) ∧ ρ' = puts [(4, .sh (.int hh)), (5, .mu pa (.lst (ss.map T.int))), (6, .mu pb (.lst (rowsL ls)))] ρb, ?_, fun i t ρ' ht hM => ?_, fun m ρ' hm hM => ?_⟩
  · apply fin_mk
    · refine ⟨(ofR r).h, (ofR r).s, (ofR r).l, p, p2, ?_⟩
      fail "cnd"
    · fail "nw"
    · fail "lt"
  · obtain ⟨hh, ss, ls, pa, pb, bd, rfl⟩ := hM
    obtain ⟨hi, rfl⟩ := rgT_get0 ht
    try simp only [nt_len, Int.toNat_natCast, List.length_map, List.length_cons, List.length_nil] at hi
    fail "start"
    fail "gg"
    have hi : i < mm := hi
    have n1 : (ss.map T.int).length = ss.length := List.length_map ..
    have n2 : (rowsL ls).length = ls.length := List.length_map ..
    have bs := bd.s
    have bl := bd.l
    fail "gg"
    refine spe_take rfl (by omega) (by omega) fun kd hkd => ?_
    fail "gg"
    fail "gg"
    refine spl_d (fun c0 => ?_) (fun c0 => ?_)
    · fail "gg"
      fail "gg"
      refine spe_take rfl (by omega) (by omega) fun t1 ht1 => ?_
      fail "gg"
      fail "gg"
      fail "gg"
      refine spe_take rfl (by omega) (by omega) fun t2 ht2 => ?_
      fail "gg"
      have bd2 : Bd (16 + 40 * (i + 1)) ss ls := bd.mono (by omega)
      fail "gg"
      refine spl_d (fun c1 => ?_) (fun c1 => ?_)
      · fail "gg"
        fail "gg"
        refine spe_take rfl (by omega) (by omega) fun t3 ht3 => ?_
        fail "gg"
        fail "gg"
        apply fin_mk
        · refine ⟨(t3 : Int) - 1000, ss, ls, pa, pb, ?_⟩
          fail "cnd"
        · fail "nw"
        · fail "lt"
      · fail "gg"
        apply fin_mk
        · refine ⟨(t1 : Int) - 3, ss, ls, pa, pb, ?_⟩
          fail "cnd"
        · fail "nw"
        · fail "lt"
    · fail "gg"
      refine spl_d (fun c1 => ?_) (fun c1 => ?_)
      · fail "gg"
        fail "gg"
        refine spl_d (fun c2 => ?_) (fun c2 => ?_)
        · fail "gg"
          refine spe_take rfl (by omega) (by omega) fun at1 hat => ?_
          fail "gg"
          fail "callS"
          refine ⟨r.N, rfl, by omega, by omega, fun z2 => ?_⟩
          fail "un"
          fail "gg"
          refine ⟨_, _, _, _, at1, _, _, rfl, rfl, rfl, ixN_lt (n := (ss.map T.int).length) (by omega), (show (ss.map T.int).set at1 (.int z2) = (ss.set at1 z2).map T.int from by rw [List.map_set]), by fail "lt", by fail "norm", ?_⟩
          have bd2 : Bd (16 + 40 * (i + 1)) (ss.set at1 z2) ls := ⟨by rw [List.length_set]; omega, by omega, fun row hr => by have := bd.r row hr; omega⟩
          apply fin_mk
          · refine ⟨hh, ss.set at1 z2, ls, pa, pb, ?_⟩
            fail "cnd"
          · fail "nw"
          · fail "lt"
        · fail "gg"
          fail "gg"
          refine spl_d (fun c3 => ?_) (fun c3 => ?_)
          · skip
            fail "gg"
            refine spe_take rfl (by omega) (by omega) fun at1 hat => ?_
            fail "gg"
            obtain ⟨row, hrow⟩ := get_of_lt (xs := ls) (i := at1) (by omega)
            have hrl := bd.r _ (List.mem_of_getElem? hrow)
            refine rd_ixm rfl (atI_map hrow) ?_
            fail "gg"
            fail "gg"
            refine spe_take rfl (by omega) (by omega) fun t9 ht9 => ?_
            fail "gg"
            fail "callS"
            refine ⟨row, t9, rfl, by omega, fun ys hy => ?_⟩
            fail "un"
            fail "gg"
            refine ⟨_, _, _, _, at1, _, _, rfl, rfl, rfl, ixN_lt (n := (rowsL ls).length) (by omega), (show (rowsL ls).set at1 (.lst (ys.map T.int)) = rowsL (ls.set at1 ys) from by unfold rowsL; rw [List.map_set]), by fail "lt", by fail "norm", ?_⟩
            have bd2 : Bd (16 + 40 * (i + 1)) ss (ls.set at1 ys) := ⟨by have := bd.s; omega, by have := bd.l; rw [List.length_set]; omega, fun row2 h2 => by
              rcases List.mem_or_eq_of_mem_set h2 with h3 | rfl
              · have := bd.r _ h3; omega
              · omega⟩
            apply fin_mk
            · refine ⟨hh, ss, ls.set at1 ys, pa, pb, ?_⟩
              fail "cnd"
            · fail "nw"
            · fail "lt"
          · skip
            have bd2 : Bd (16 + 40 * (i + 1)) ss ls := bd.mono (by omega)
            fail "gg"
            apply fin_mk
            · refine ⟨hh, ss, ls, pa, pb, ?_⟩
              fail "cnd"
            · fail "nw"
            · fail "lt"
      · fail "gg"
        refine spl_d (fun c4 => ?_) (fun c4 => ?_)
        · refine es_nm 5 ?_ (by fail "lt")
          refine es_nm 6 ?_ (by simp only [List.length_set]; fail "lt")
          dsimp only [List.set_cons_succ, List.set_cons_zero]
          fail "gg"
          intro p3
          fail "gg"
          intro p4
          fail "gg"
          have bd2 : Bd (16 + 40 * (i + 1)) [] [] := ⟨Nat.zero_le _, Nat.zero_le _, fun row hr => by cases hr⟩
          apply fin_mk
          · refine ⟨hh, [], [], p3, p4, ?_⟩
            fail "cnd"
          · fail "nw"
          · fail "lt"
        · fail "gg"
          refine spl_d (fun c5 => ?_) (fun c5 => ?_)
          · refine ⟨fun _ => ?_, fun z => nomatch z⟩
            fail "gg"
            fail "gg"
            refine spe_take rfl (by omega) (by omega) fun t5 ht5 => ?_
            fail "gg"
            obtain ⟨kk, hkk⟩ : ∃ kk : Int, atI [T.int 17, T.int 16, T.int 20, T.int 17, T.int 15] (t5 : Int) = some (.int kk) := by
              have : t5 = 0 ∨ t5 = 1 ∨ t5 = 2 ∨ t5 = 3 ∨ t5 = 4 := by omega
              rcases this with rfl | rfl | rfl | rfl | rfl
              · exact ⟨17, rfl⟩
              · exact ⟨16, rfl⟩
              · exact ⟨20, rfl⟩
              · exact ⟨17, rfl⟩
              · exact ⟨15, rfl⟩
            refine rd_ix rfl hkk ?_
            fail "gg"
            refine spe_W2 (by fail "args") (by first | decide | simp) (by decide) ?_
            refine ⟨ss, ls, r.N, kk, 16 + 40 * i, rfl, by omega, by omega, bd, by omega, by omega, fun ss2 ls2 hb u v e => ?_⟩
            cases e
            dsimp only [List.set_cons_succ, List.set_cons_zero]
            have bd2 : Bd (16 + 40 * (i + 1)) ss2 ls2 := hb.mono (by omega)
            fail "gg"
            apply fin_mk
            · refine ⟨hh, ss2, ls2, pa, pb, ?_⟩
              fail "cnd"
            · fail "nw"
            · fail "lt"
          · fail "gg"
            refine spl_d (fun c6 => ?_) (fun c6 => ?_)
            · skip
              fail "gg"
              fail "gg"
              refine spe_take rfl (by omega) (by omega) fun t5 ht5 => ?_
              fail "gg"
              obtain ⟨kk, hkk⟩ : ∃ kk : Int, atI [T.int 17, T.int 16, T.int 20, T.int 17, T.int 15] (t5 : Int) = some (.int kk) := by
                have : t5 = 0 ∨ t5 = 1 ∨ t5 = 2 ∨ t5 = 3 ∨ t5 = 4 := by omega
                rcases this with rfl | rfl | rfl | rfl | rfl
                · exact ⟨17, rfl⟩
                · exact ⟨16, rfl⟩
                · exact ⟨20, rfl⟩
                · exact ⟨17, rfl⟩
                · exact ⟨15, rfl⟩
              refine rd_ix rfl hkk ?_
              fail "gg"
              refine spe_W2 (by fail "args") (by first | decide | simp) (by decide) ?_
              refine ⟨ss, ls, r.N, kk, 16 + 40 * i, rfl, by omega, by omega, bd, by omega, by omega, fun ss2 ls2 hb u v e => ?_⟩
              cases e
              dsimp only [List.set_cons_succ, List.set_cons_zero]
              have bd2 : Bd (16 + 40 * (i + 1)) ss2 ls2 := hb.mono (by omega)
              fail "gg"
              apply fin_mk
              · refine ⟨hh, ss2, ls2, pa, pb, ?_⟩
                fail "cnd"
              · fail "nw"
              · fail "lt"
            · fail "gg"
              refine spl_d (fun c7 => ?_) (fun c7 => ?_)
              · skip
                fail "gg"
                fail "gg"
                refine spe_take rfl (by omega) (by omega) fun t7 ht7 => ?_
                fail "gg"
                have e1 : T.lst (ss.map T.int ++ [T.int (t7 : Int)]) = T.lst ((ss ++ [(t7 : Int)]).map T.int) := by rw [List.map_append]; rfl
                have bd2 : Bd (16 + 40 * (i + 1)) (ss ++ [(t7 : Int)]) ls := ⟨by rw [List.length_append]; simp only [List.length_cons, List.length_nil]; omega, by omega, fun row hr => by have := bd.r row hr; omega⟩
                fail "gg"
                apply fin_mk
                · refine ⟨hh, ss ++ [(t7 : Int)], ls, pa, pb, ?_⟩
                  fail "cnd"
                · fail "nw"
                · fail "lt"
              · fail "gg"
                refine spl_d (fun c8 => ?_) (fun c8 => ?_)
                · fail "gg"
                  fail "gg"
                  refine spl_d (fun c9 => ?_) (fun c9 => ?_)
                  · skip
                    fail "gg"
                    refine spe_take rfl (by omega) (by omega) fun at1 hat => ?_
                    fail "gg"
                    obtain ⟨row, hrow⟩ := get_of_lt (xs := ls) (i := at1) (by omega)
                    have hrl := bd.r _ (List.mem_of_getElem? hrow)
                    refine rd_ixm rfl (atI_map hrow) ?_
                    fail "gg"
                    fail "gg"
                    refine spe_take rfl (by omega) (by omega) fun t9 ht9 => ?_
                    fail "gg"
                    fail "callS"
                    refine ⟨row, t9, rfl, by omega, fun ys hy => ?_⟩
                    fail "un"
                    fail "gg"
                    refine ⟨_, _, _, _, at1, _, _, rfl, rfl, rfl, ixN_lt (n := (rowsL ls).length) (by omega), (show (rowsL ls).set at1 (.lst (ys.map T.int)) = rowsL (ls.set at1 ys) from by unfold rowsL; rw [List.map_set]), by fail "lt", by fail "norm", ?_⟩
                    have bd2 : Bd (16 + 40 * (i + 1)) ss (ls.set at1 ys) := ⟨by have := bd.s; omega, by have := bd.l; rw [List.length_set]; omega, fun row2 h2 => by
                      rcases List.mem_or_eq_of_mem_set h2 with h3 | rfl
                      · have := bd.r _ h3; omega
                      · omega⟩
                    apply fin_mk
                    · refine ⟨hh, ss, ls.set at1 ys, pa, pb, ?_⟩
                      fail "cnd"
                    · fail "nw"
                    · fail "lt"
                  · skip
                    have bd2 : Bd (16 + 40 * (i + 1)) ss ls := bd.mono (by omega)
                    fail "gg"
                    apply fin_mk
                    · refine ⟨hh, ss, ls, pa, pb, ?_⟩
                      fail "cnd"
                    · fail "nw"
                    · fail "lt"
                · fail "gg"
                  refine spl_d (fun c12 => ?_) (fun c12 => ?_)
                  · fail "gg"
                    fail "gg"
                    refine spl_d (fun c10 => ?_) (fun c10 => ?_)
                    · skip
                      fail "gg"
                      refine spe_take rfl (by omega) (by omega) fun at1 hat => ?_
                      fail "gg"
                      rw [show cutT (rowsL ls) none (some (at1 : Int)) = rowsL (cutL ls none (some (at1 : Int))) from cutT_map, show cutT (rowsL ls) (some ((at1 : Int) + 1)) none = rowsL (cutL ls (some ((at1 : Int) + 1)) none) from cutT_map]
                      have h1 : (cutL ls none (some (at1 : Int))).length ≤ at1 := by rw [cutL_to, List.length_take]; omega
                      have h2 : (cutL ls (some ((at1 : Int) + 1)) none).length ≤ ls.length - (at1 + 1) := by rw [show ((at1 : Int) + 1) = ((at1 + 1 : Nat) : Int) from rfl, cutL_from, List.length_drop]; omega
                      have g1 := rmem (ls := ls) (lo := none) (hi := some (at1 : Int))
                      have g2 := rmem (ls := ls) (lo := some ((at1 : Int) + 1)) (hi := none)
                      generalize cutL ls none (some (at1 : Int)) = A at h1 g1
                      generalize cutL ls (some ((at1 : Int) + 1)) none = B at h2 g2
                      have k1 : (rowsL A).length = A.length := List.length_map ..
                      have k2 : (rowsL B).length = B.length := List.length_map ..
                      refine rd_catN (by fail "rdd") (by fail "rdd") (by omega) fun p3 => ?_
                      refine eg_nm 6 ?_ (by fail "lt")
                      dsimp only [List.set_cons_succ, List.set_cons_zero, List.cons_append, List.nil_append]
                      fail "gg"
                      have e3 : T.lst (rowsL A ++ rowsL B) = T.lst (rowsL (A ++ B)) := by unfold rowsL; rw [List.map_append]
                      have bd2 : Bd (16 + 40 * (i + 1)) ss (A ++ B) := ⟨by omega, by rw [List.length_append]; omega, all_app (fun row hr => by have := bd.r _ (g1 row hr); omega) (fun row hr => by have := bd.r _ (g2 row hr); omega)⟩
                      apply fin_mk
                      · refine ⟨hh, ss, A ++ B, pa, p3, ?_⟩
                        fail "cnd"
                      · fail "nw"
                      · fail "lt"
                    · skip
                      have bd2 : Bd (16 + 40 * (i + 1)) ss ls := bd.mono (by omega)
                      fail "gg"
                      apply fin_mk
                      · refine ⟨hh, ss, ls, pa, pb, ?_⟩
                        fail "cnd"
                      · fail "nw"
                      · fail "lt"
                  · fail "gg"
                    refine spl_d (fun c13 => ?_) (fun c13 => ?_)
                    · refine es_nm 6 ?_ (by fail "lt")
                      dsimp only [List.set_cons_succ, List.set_cons_zero]
                      fail "gg"
                      intro p3
                      fail "gg"
                      have bd2 : Bd (16 + 40 * (i + 1)) ss [] := ⟨by omega, Nat.zero_le _, fun row hr => by cases hr⟩
                      apply fin_mk
                      · refine ⟨hh, ss, [], pa, p3, ?_⟩
                        fail "cnd"
                      · fail "nw"
                      · fail "lt"
                    · fail "gg"
                      refine spl_d (fun c14 => ?_) (fun c14 => ?_)
                      · have bdr := bd.r
                        refine es_forV ?_
                        fail "gg"
                        fail "gg"
                        refine spe_take rfl (by omega) (by omega) fun t8 ht8 => ?_
                        fail "gg"
                        fail "gg"
                        refine ⟨by fail "lt", fun ρb j ρ' => ∃ (lz : List (List Int)), (lz.length ≤ ls.length + j) ∧ (∀ row ∈ lz, row.length ≤ 16 + 40 * i) ∧ ρ' = puts [(6, .mu pb (.lst (rowsL lz)))] ρb, ?_, fun j t2 ρ' ht2 hM => ?_, fun m ρ' hm hM => ?_⟩
                        · apply fin_mk
                          · refine ⟨ls, ?_⟩
                            fail "cnd"
                          · fail "nw"
                          · fail "lt"
                        · obtain ⟨lz, hz, hzr, rfl⟩ := hM
                          obtain ⟨hi, rfl⟩ := rgT_get0 ht2
                          try simp only [nt_len, Int.toNat_natCast, List.length_map, List.length_cons, List.length_nil] at hi
                          fail "start"
                          fail "gg"
                          have n3 : (rowsL lz).length = lz.length := List.length_map ..
                          have hj2 : j < 3 := by omega
                          fail "gg"
                          refine ev_mapD (xs := List.range (r.N - 1)) (h := fun i => T.int (i : Int)) (f := T.int) (P := fun _ => True) (by fail "gok") ?_
                          fail "gg"
                          refine ⟨by fail "lt", by fail "mapeq", by fail "om", fun x hx => ?_, ?_⟩
                          · fail "start"
                            fail "gg"
                            refine spe_take rfl (by omega) (by omega) fun x1 hx1 => ?_
                            fail "gg"
                            exact ⟨by fail "kps", trivial⟩
                          intro ys hul _
                          rw [List.length_range] at hul
                          have e2 : T.lst (rowsL lz ++ [T.lst (ys.map T.int)]) = T.lst (rowsL (lz ++ [ys])) := by rw [rowsL_sn]
                          have hl2 : (lz ++ [ys]).length ≤ ls.length + (j + 1) := by rw [List.length_append]; simp only [List.length_cons, List.length_nil]; omega
                          have hr2 : ∀ row ∈ lz ++ [ys], row.length ≤ 16 + 40 * i := all_app hzr (all_one (by omega))
                          fail "gg"
                          apply fin_mk
                          · refine ⟨lz ++ [ys], ?_⟩
                            fail "cnd"
                          · fail "nw"
                          · fail "lt"
                        · obtain ⟨lz, hz, hzr, rfl⟩ := hM
                          have bd2 : Bd (16 + 40 * (i + 1)) ss lz := ⟨by omega, by have e9 : m = (1 + (t8 : Int)).toNat := hm.trans (rgT_len _ _); omega, fun row hr => by have := hzr row hr; omega⟩
                          apply fin_mk
                          · refine ⟨hh, ss, lz, pa, pb, ?_⟩
                            fail "cnd"
                          · fail "nw"
                          · fail "lt"
                      · clear c14
                        fail "gg"
                        refine spl_d (fun c15 => ?_) (fun c15 => ?_)
                        · refine es_seq (es_asg (evm_revL ?_))
                          fail "gg"
                          intro p3
                          refine eg_nm 5 ?_ (by fail "lt")
                          dsimp only [List.set_cons_succ, List.set_cons_zero, List.cons_append, List.nil_append]
                          apply eg_move
                          exact rfl
                          exact rfl
                          fail "lt"
                          fail "norm"
                          refine es_asg (evm_revL ?_)
                          fail "gg"
                          intro p4
                          refine eg_nm 6 ?_ (by fail "lt")
                          dsimp only [List.set_cons_succ, List.set_cons_zero, List.cons_append, List.nil_append]
                          fail "gg"
                          have e5 : T.lst (ss.map T.int).reverse = T.lst (ss.reverse.map T.int) := by rw [List.map_reverse]
                          have e6 : T.lst (rowsL ls).reverse = T.lst (rowsL ls.reverse) := by unfold rowsL; rw [List.map_reverse]
                          have bd2 : Bd (16 + 40 * (i + 1)) ss.reverse ls.reverse := ⟨by rw [List.length_reverse]; omega, by rw [List.length_reverse]; omega, fun row hr => by have := bd.r row (List.mem_reverse.mp hr); omega⟩
                          apply fin_mk
                          · refine ⟨hh, ss.reverse, ls.reverse, p3, p4, ?_⟩
                            fail "cnd"
                          · fail "nw"
                          · fail "lt"
                        · have bd2 : Bd (16 + 40 * (i + 1)) ss ls := bd.mono (by omega)
                          fail "gg"
                          apply fin_mk
                          · refine ⟨hh, ss, ls, pa, pb, ?_⟩
                            fail "cnd"
                          · fail "nw"
                          · fail "lt"
  · obtain ⟨hh, ss, ls, pa, pb, bd, rfl⟩ := hM
    simp only [rgT_len, nt_len, Int.toNat_natCast, List.length_map] at hm
    fail "start"
    fail "gg"
    fail "gg"
    dsimp only [FinU]
    exact q ⟨hh, ss, ls⟩ ⟨by have := bd.s; show ss.length ≤ 1000; omega, by have := bd.l; show ls.length ≤ 1000; omega, fun row hr => by have := bd.r row hr; omega⟩
end
end K26
set_option maxHeartbeats 8000000
namespace K26
open PySem L2 Vk Tr
local macro_rules | `(tactic| fail "fld") => `(tactic| first
  | refine ⟨_, _, _, _, rfl, CTCrew.cl (by assumption), CTCrew.n_height (by assumption), fx_Crew_height, rfl, ?_⟩
  | refine ⟨_, _, _, _, rfl, CTCrew.cl (by assumption), CTCrew.n_seats (by assumption), fx_Crew_seats, rfl, ?_⟩
  | refine ⟨_, _, _, _, rfl, CTCrew.cl (by assumption), CTCrew.n_leanings (by assumption), fx_Crew_leanings, rfl, ?_⟩
  | fail "stuck")
local macro_rules | `(tactic| fail "fldN") => `(tactic| first
  | refine ⟨_, _, _, _, _, rfl, rfl, CTCrew.cl (by assumption), CTCrew.n_height (by assumption), fn_Crew_height, by fail "lt", by fail "lt", by fail "norm", ?_⟩
  | refine ⟨_, _, _, _, _, rfl, rfl, CTCrew.cl (by assumption), CTCrew.n_seats (by assumption), fn_Crew_seats, by fail "lt", by fail "lt", by fail "norm", ?_⟩
  | refine ⟨_, _, _, _, _, rfl, rfl, CTCrew.cl (by assumption), CTCrew.n_leanings (by assumption), fn_Crew_leanings, by fail "lt", by fail "lt", by fail "norm", ?_⟩
  | fail "stuck")
local macro_rules | `(tactic| fail "lt") => `(tactic| exact Nat.le_of_ble_eq_true rfl)
local macro_rules | `(tactic| fail "norm") => `(tactic| first | (simp only [puts, List.take_succ_cons, List.take_zero, List.take_nil, List.set_cons_zero, List.set_cons_succ, List.cons_append, List.nil_append, initU, wipeU, List.length_cons, List.length_nil, Nat.zero_add, Nat.reduceAdd]; done) | (simp only [puts, List.take_succ_cons, List.take_zero, List.take_nil, List.set_cons_zero, List.set_cons_succ, List.cons_append, List.nil_append, initU, wipeU, List.length_cons, List.length_nil, Nat.zero_add, Nat.reduceAdd]; exact rfl) | exact rfl)
local macro_rules | `(tactic| fail "pl") => `(tactic| first
  | exact pl_int | exact pl_str | exact pl_bl | exact pl_non | exact pl_nil
  | ((with_reducible refine pl_lst ?_); fail "pl") | ((with_reducible refine pl_tup ?_); fail "pl") | ((with_reducible refine pl_cl ?_); fail "pl")
  | exact pl_nt | exact pl_txs
  | ((with_reducible refine pl_cons ?_ ?_); (fail "pl"); (fail "pl"))
  | ((with_reducible refine pl_map fun _ _ => ?_); fail "pl")
  | assumption)
local macro_rules | `(tactic| fail "fz") => `(tactic| first | exact Fz.sh | exact Fz.new rfl (Nat.le_of_ble_eq_true rfl) | exact Fz.mu (by exact rfl) (by fail "norm"))
local macro_rules | `(tactic| fail "fzl") => `(tactic| first | exact FzL.nil | exact FzL.cons (by fail "fz") (by fail "fzl"))
local macro_rules | `(tactic| fail "kps") => `(tactic| first | exact Kps.z | exact Kps.nil | (refine Kps.skip rfl ?_; fail "kps") | (refine Kps.same ?_; fail "kps"))
local macro_rules | `(tactic| fail "wks") => `(tactic| first | exact Wks.nil | (refine Wks.cons .no ?_; fail "wks") | (refine Wks.cons .nm ?_; fail "wks") | ((with_reducible refine Wks.cons .same ?_); fail "wks") | (refine Wks.consE (by first | exact rfl | exact int_eq (by omega) | exact int_eq (by (repeat' split) <;> omega)) ?_; fail "wks") | (refine Wks.consM (by first | exact rfl | assumption) ?_; fail "wks") | (refine Wks.cons .same ?_; fail "wks"))
local macro_rules | `(tactic| fail "blank") => `(tactic| first | exact Blank.nil | (refine Blank.no ?_; fail "blank") | (refine Blank.nm ?_; fail "blank"))
local macro_rules | `(tactic| fail "args") => `(tactic| first | (with_reducible exact ArgR.nil) | ((with_reducible apply ArgR.pu); (fail "fz"); (fail "args")) | ((with_reducible apply ArgR.fe); (fail "args"); exact rfl) | ((with_reducible apply ArgR.mt); (fail "args"); exact rfl))
local macro_rules | `(tactic| fail "tx") => `(tactic| first | (with_reducible exact rfl) | (with_reducible exact tx_sp) | (with_reducible exact tx_nl) | (with_reducible exact tx_e) | (with_reducible exact tx_hd) | (with_reducible exact tx_01) | exact tx1 _ | exact txof _ | exact rfl)
local macro_rules | `(tactic| fail "ll") => `(tactic| first | omega | assumption | decide | (simp only [List.length_append, List.length_cons, List.length_nil, List.length_take, List.length_drop, List.length_map, List.length_replicate, List.length_range, List.length_reverse, tx_len]; omega) | (refine Nat.le_trans cutL_len ?_; fail "ll") | (refine Nat.le_trans (numL2 (by omega)) ?_; decide) | (refine lcat ?_ ?_ <;> fail "ll"))
local macro_rules | `(tactic| fail "tl") => `(tactic| first | assumption | omega | decide | (simp only [tx_len, tx_app, List.length_append, List.length_cons, List.length_nil]; omega) | (exact Nat.le_of_ble_eq_true rfl))
local macro_rules | `(tactic| fail "num") => `(tactic| first | omega | decide | exact Nat.le_of_ble_eq_true rfl)
/-! one step of an expression -/
local macro_rules | `(tactic| fail "rdd") => `(tactic| first | exact Or.inl rfl | exact Or.inr ⟨_, _, _, rfl, rfl, rfl⟩)
local macro_rules | `(tactic| fail "kE") => `(tactic| first
  | ((with_reducible apply ev_var); exact rfl; fail "lt")
  | (with_reducible apply ev_op)
  | ((with_reducible apply ev_c); (first | exact .int | exact .bl | exact .str | exact .non))
  | (with_reducible apply ev_call)
  | (with_reducible apply ev_cb)
  | ((with_reducible apply ev_varm); exact rfl; fail "lt")
  | ((with_reducible apply ev_varf); exact rfl; fail "lt")
  | (with_reducible apply ev_tup)
  | (with_reducible apply ev_lst)
  | (with_reducible apply ev_fldS)
  | (with_reducible apply ev_prop)
  | (with_reducible apply ev_bm)
  | (with_reducible apply ev_and)
  | (with_reducible apply ev_or)
  | (with_reducible apply ev_not)
  | (with_reducible apply ev_if)
  | (with_reducible apply ev_chain)
  | (with_reducible apply ev_un)
  | (with_reducible apply ev_sl)
  | (with_reducible apply ev_bm0)
  | (with_reducible apply ev_meth)
  | (with_reducible apply ev_make)
  | (with_reducible apply ev_ty)
  | (with_reducible apply ev_revL)
  | (with_reducible apply ev_joinTx)
  | (with_reducible apply ev_bits)
  | (with_reducible apply ev_callS)
  | (with_reducible apply ev_cref)
  | (with_reducible apply ev_xf)
  | (with_reducible apply ev_listRev)
  | (with_reducible apply ev_joined)
  | (with_reducible apply ev_fmt)
  | (with_reducible apply ev_split)
  | fail "stuck")
local macro_rules | `(tactic| fail "kM") => `(tactic| first
  | (with_reducible apply evm_lst)
  | (with_reducible apply evm_list)
  | ((with_reducible apply evm_any); fail "kE")
  | fail "stuck")
local macro_rules | `(tactic| fail "kA") => `(tactic| first
  | (with_reducible apply ea_cons)
  | (with_reducible apply ea_nil)
  | fail "stuck")
local macro_rules | `(tactic| fail "kT") => `(tactic| first
  | (with_reducible apply et_test)
  | (with_reducible apply et_b)
  | (with_reducible apply et_and)
  | (with_reducible apply et_or)
  | (with_reducible apply et_not)
  | (with_reducible apply et_yes)
  | fail "stuck")
local macro_rules | `(tactic| fail "kC") => `(tactic| first | exact Or.inl ⟨by omega, by omega⟩ | exact Or.inr ⟨by omega, by omega⟩ | exact Or.inl ⟨by decide, by decide⟩ | exact Or.inr ⟨by decide, by decide⟩ | exact ⟨by decide, by decide⟩ | exact ⟨by omega, by omega⟩ | exact ⟨by omega, by omega, by decide⟩ | (show _ ≠ _; omega) | (show (0 : Int) ≤ _; omega) | (show (_ : Int) < _; omega))
local macro_rules | `(tactic| fail "k2") => `(tactic| first
  | (with_reducible apply rd_ii)
  | (with_reducible apply rd_ib)
  | ((with_reducible apply rd_ix); (first | exact rfl | assumption); (first | ((with_reducible apply atI_ltd); assumption) | ((with_reducible apply atI0); exact rfl) | ((with_reducible apply atI1); exact rfl) | ((with_reducible apply atI2); exact rfl) | ((with_reducible apply atI3); exact rfl) | ((with_reducible apply atI4); exact rfl) | ((with_reducible apply atI_lean0); assumption) | ((with_reducible apply atI_map2); assumption) | ((with_reducible apply atI_two); assumption) | ((with_reducible apply atI_lean); assumption; assumption) | ((with_reducible apply atNk); omega) | ((with_reducible apply atN0); omega) | ((with_reducible apply atN1); omega) | ((with_reducible apply atN2); omega)))
  | ((with_reducible apply rd_ixm); exact rfl; (first | ((with_reducible apply atI_ltd); assumption) | ((with_reducible apply atI0); exact rfl) | ((with_reducible apply atI1); exact rfl) | ((with_reducible apply atI2); exact rfl) | ((with_reducible apply atI3); exact rfl) | ((with_reducible apply atI4); exact rfl) | ((with_reducible apply atI_lean0); assumption) | ((with_reducible apply atI_map2); assumption) | ((with_reducible apply atI_two); assumption) | ((with_reducible apply atI_lean); assumption; assumption) | ((with_reducible apply atNk); omega) | ((with_reducible apply atN0); omega) | ((with_reducible apply atN1); omega) | ((with_reducible apply atN2); omega)))
  | (with_reducible apply rd_eqi)
  | ((with_reducible apply rd_ic); fail "kC")
  | (with_reducible apply rd_nei)
  | ((with_reducible apply rd_eqTx); fail "tx"; fail "tx")
  | ((with_reducible apply rd_neTx); fail "tx"; fail "tx")
  | (with_reducible apply rd_eqs)
  | (with_reducible apply rd_nes)
  | ((with_reducible apply rd_eqP); fail "pl"; fail "pl")
  | ((with_reducible apply rd_neP); fail "pl"; fail "pl")
  | ((with_reducible apply rd_inTx); fail "tx")
  | ((with_reducible apply rd_notInTx); fail "tx")
  | ((with_reducible apply rd_inP); (first | exact rfl | assumption); fail "pl"; fail "pl")
  | ((with_reducible apply rd_notInP); (first | exact rfl | assumption); fail "pl"; fail "pl")
  | ((with_reducible apply rd_inM); exact rfl; fail "pl"; fail "pl")
  | ((with_reducible apply rd_notInM); exact rfl; fail "pl"; fail "pl")
  | ((with_reducible apply rd_eqM); fail "rdd"; fail "rdd"; fail "pl"; fail "pl")
  | ((with_reducible apply rd_neM); fail "rdd"; fail "rdd"; fail "pl"; fail "pl")
  | (with_reducible apply rd_isN)
  | (with_reducible apply rd_notN)
  | ((with_reducible apply rd_catN); fail "rdd"; fail "rdd"; fail "om")
  | ((with_reducible apply rd_rep); fail "rdd"; fail "om"; fail "om"; fail "om")
  | (with_reducible apply rd_notInX)
  | ((with_reducible apply rd_addTx); fail "tx"; fail "tx"; fail "ll"; fail "ll")
  | (with_reducible apply rd_inC)
  | (with_reducible apply rd_notInC)
  | ((with_reducible apply rd_mulT); fail "tl"; fail "tl")
  | fail "stuck")
local macro_rules | `(tactic| fail "k1") => `(tactic| first
  | ((with_reducible apply rd_slL); (first | exact Or.inl rfl | exact Or.inr rfl))
  | ((with_reducible apply rd_slm); exact rfl)
  | (with_reducible apply rd_neg)
  | ((with_reducible apply rd_slTx); fail "tx"; fail "ll")
  | fail "stuck")
local macro_rules | `(tactic| fail "kL") => `(tactic| first
  | ((with_reducible apply rl_len); (first | exact rfl | assumption))
  | ((with_reducible apply rl_lenm); exact rfl)
  | ((with_reducible apply rl_list); (first | exact rfl | assumption))
  | ((with_reducible apply rl_listm); exact rfl)
  | ((with_reducible apply rl_tup); (first | exact rfl | assumption))
  | ((with_reducible apply rl_tupm); exact rfl)
  | (with_reducible apply rl_int)
  | (with_reducible apply rl_intb)
  | (with_reducible apply rl_max2)
  | (with_reducible apply rl_min2)
  | ((with_reducible apply rl_isi); exact rfl; exact rfl)
  | ((with_reducible apply rl_isim); exact rfl; exact rfl)
  | ((with_reducible apply rl_lenTx); fail "tx"; fail "ll")
  | ((with_reducible apply rl_minN); fail "rdd"; fail "om")
  | (with_reducible apply rl_allM)
  | ((with_reducible apply rl_strN); fail "om")
  | fail "stuck")
local macro_rules | `(tactic| fail "kLM") => `(tactic| first
  | ((with_reducible apply rlm_list); (first | exact rfl | assumption))
  | ((with_reducible apply rlm_listm); exact rfl)
  | fail "stuck")
local macro_rules | `(tactic| fail "kRM") => `(tactic| first
  | (refine rm_append (by fail "fz") rfl (by first | (fail "lt") | (simp only [nt_len, List.length_map, List.length_range]; omega) | omega) ?_)
  | (refine rm_insert (by fail "fz") rfl (by simp only [nt_len, List.length_map]; omega) (by omega) (by simp only [nt_len, List.length_map]; omega) ?_)
  | fail "stuck")
local macro_rules | `(tactic| fail "retN") => `(tactic| ((try dsimp only); refine ⟨_, _, _, rfl, by fail "lt", rfl, ?_⟩; first | dsimp only [FinU] | dsimp only [FinU, List.cons_append, List.nil_append]))
local macro_rules | `(tactic| fail "kO") => `(tactic| first
  | (with_reducible apply eo_none)
  | (with_reducible apply eo_some)
  | fail "stuck")
local macro_rules | `(tactic| fail "kG") => `(tactic| first
  | ((with_reducible apply eg_name); fail "norm")
  | ((with_reducible apply eg_move); exact rfl; exact rfl; fail "lt"; fail "norm")
  | ((with_reducible apply eg_tup); exact rfl)
  | (with_reducible refine eg_sub (by fail "fz") ?_)
  | ((with_reducible apply eg_lst); exact rfl)
  | fail "stuck")
local macro_rules | `(tactic| fail "kGs") => `(tactic| first
  | (with_reducible apply egs_cons)
  | (with_reducible apply egs_nil)
  | fail "stuck")
local macro_rules | `(tactic| fail "kI") => `(tactic| first
  | (with_reducible apply ei_row)
  | (with_reducible apply ei_list)
  | (with_reducible apply ei_tup)
  | (with_reducible apply ei_range1)
  | (with_reducible apply ei_range2)
  | (with_reducible apply ei_str)
  | (with_reducible apply ei_enumS)
  | (with_reducible apply ei_enumX)
  | (with_reducible apply ei_enumK)
  | (with_reducible apply ei_zipT)
  | fail "stuck")
local macro_rules | `(tactic| fail "kS") => `(tactic| first
  | (with_reducible apply es_seq)
  | ((with_reducible apply es_asgM); exact rfl)
  | (with_reducible apply es_asg)
  | (with_reducible apply es_ret)
  | (with_reducible apply es_if)
  | (with_reducible apply es_dropE)
  | (with_reducible apply es_next)
  | (with_reducible apply es_break)
  | (with_reducible apply es_cont)
  | (with_reducible apply es_retN)
  | (with_reducible apply es_fldN)
  | fail "stuck")
/-! what is left: choices, splits -/
local macro_rules | `(tactic| fail "dA") => `(tactic| first
  | (refine spl_t rfl ?_) | (refine spl_f rfl ?_)
  | ((with_reducible apply spl_neS); fail "pl") | ((with_reducible apply spl_eqS); fail "pl")
  | ((with_reducible apply spl_dt); omega) | ((with_reducible apply spl_df); omega)
  | ((with_reducible apply spl_ndt); omega) | ((with_reducible apply spl_ndf); omega)
  | (refine ⟨ty_mu (by exact rfl), ?_⟩)
  | (refine ⟨ty_lst, ?_⟩)
  | fail "stuck")
local macro_rules | `(tactic| fail "om") => `(tactic| first | omega | (simp only [List.length_append, txs_len, nt_len, List.length_range, List.length_map, List.length_cons, List.length_nil, List.length_replicate, rgT_len, Int.toNat_natCast]; omega))
local macro_rules | `(tactic| fail "dO") => `(tactic| first | (refine Or.inl ⟨_, rfl, by fail "ll", ?_⟩) | (refine Or.inr ⟨_, rfl, by fail "om", ?_⟩))
local macro_rules | `(tactic| fail "kJ") => `(tactic| first | (with_reducible apply ej_cons) | (with_reducible apply ej_nil) | fail "stuck")
local macro_rules | `(tactic| fail "dE") => `(tactic| first
  | (refine ⟨_, _, rfl, rfl, by fail "om", by fail "om", ?_⟩)
  | (refine ⟨_, _, rfl, by fail "tx", by fail "ll", ?_⟩)
  | (refine ⟨_, _, rfl, by fail "tx", ?_⟩)
  | (refine ⟨_, _, _, _, rfl, by fail "fz", by first | exact rfl | assumption, ?_⟩)
  | (refine ⟨_, rfl, by fail "om", by fail "om", ?_⟩)
  | (refine ⟨_, rfl, ?_⟩)
  | (refine ⟨_, _, by fail "fzl", by (exact Nat.le_of_ble_eq_true rfl), ?_⟩)
  | (refine ⟨_, _, _, by fail "fz", rfl, ?_⟩)
  | (refine ⟨_, _, _, by fail "fz", by assumption, ?_⟩)
  | (refine ⟨_, _, _, by fail "fz", Or.inl rfl, ?_⟩)
  | (refine ⟨_, _, _, by fail "fz", Or.inr rfl, ?_⟩)
  | (refine ⟨_, by fail "lt", by fail "norm", ?_⟩)
  | (refine ⟨_, _, by fail "fz", ?_⟩)
  | (refine ⟨_, _, _, _, _, _, _, rfl, rfl, rfl, rfl, rfl, by fail "lt", by fail "norm", ?_⟩)
  | (refine ⟨_, Or.inl rfl, ?_⟩)
  | (refine ⟨_, Or.inr ⟨_, _, rfl, rfl⟩, ?_⟩)
  | fail "fld"
  | fail "fldN"
  | (refine ⟨_, _, rfl, ⟨by fail "om", by fail "om", by fail "om", by fail "om"⟩, ?_⟩)
  | (refine ⟨_, _, rfl, ?_⟩)
  | fail "stuck")
/-! the end of a def; what a comprehension asks -/
local macro_rules | `(tactic| fail "ret") => `(tactic| first | (refine ⟨_, _, by fail "fz", ?_⟩; dsimp only [FinU]) | dsimp only [FinU])
local macro_rules | `(tactic| fail "gok") => `(tactic| first | exact gok_name (by decide) | exact gok_tup (gsok_cons gmono_name (gok_name (by decide)) (gsok_cons gmono_name (gok_name (by decide)) gsok_nil)) | exact gok_tup (gsok_cons gmono_name (gok_name (by decide)) (gsok_cons gmono_name (gok_name (by decide)) (gsok_cons gmono_name (gok_name (by decide)) gsok_nil))))
local macro_rules | `(tactic| fail "start") => `(tactic| first | refine es_norm (by fail "norm") ?_ | refine eg_norm (by fail "norm") ?_)
local macro_rules | `(tactic| fail "end") => `(tactic| (refine ⟨_, by fail "fz", by fail "kps"⟩))
local macro_rules | `(tactic| fail "s") => `(tactic| first
  | ((guard_target = EvE _ _ _ _); fail "kE")
  | ((guard_target = EvS _ _ _ _); fail "kS")
  | ((guard_target = Rd2 _ _ _ _ _ _); fail "k2")
  | ((guard_target = EvA _ _ _ _); fail "kA")
  | ((guard_target = EvG _ _ _ _ _); fail "kG")
  | ((guard_target = EvT _ _ _ _); fail "kT")
  | ((guard_target = RdL _ _ _ _ _); fail "kL")
  | ((guard_target = EvM _ _ _ _); fail "kM")
  | ((guard_target = EvI _ _ _ _); fail "kI")
  | ((guard_target = EvGs _ _ _ _ _); fail "kGs")
  | ((guard_target = RdM _ _ _ _ _ _); fail "kRM")
  | ((guard_target = RdLM _ _ _ _ _); fail "kLM")
  | ((guard_target = EvO _ _ _ _); fail "kO")
  | ((guard_target = Rd1 _ _ _ _ _); fail "k1")
  | ((guard_target = Exists _); fail "dE")
  | ((guard_target = And _ _); fail "dA")
  | ((guard_target = EvJ _ _ _ _ _); fail "kJ")
  | ((guard_target = Or _ _); fail "dO")
  | fail "stuck")
local macro_rules | `(tactic| fail "go") => `(tactic| repeat' fail "s")
local macro_rules | `(tactic| fail "call") => `(tactic| refine spe_W (by fail "args") (by first | decide | simp) ?_)
local macro_rules | `(tactic| fail "callN") => `(tactic| refine spe_N (by fail "args") (by first | decide | simp) ?_)
local macro_rules | `(tactic| fail "app") => `(tactic| (refine rm_append (by fail "fz") rfl (by first | (fail "lt") | (simp only [nt_len, List.length_map]; omega) | omega) ?_; refine ⟨_, by fail "lt", by fail "norm", ?_⟩))
local macro_rules | `(tactic| fail "take") => `(tactic| refine spe_take rfl (by omega) (by omega) (fun _ _ => ?_))

local macro_rules | `(tactic| fail "nw") => `(tactic| ((try simp only [puts, List.set_cons_zero, List.set_cons_succ]); fail "wks"))
local macro_rules | `(tactic| fail "side") => `(tactic| first | exact rfl | assumption | omega | (simp only [List.length_append, List.length_cons, List.length_nil, List.length_map, nt_len, rgT_len, List.length_replicate]; omega) | exact mem_snoc (by assumption) (by first | assumption | omega | exact ⟨by first | assumption | omega, by first | assumption | omega⟩) | decide | (simp; done))
local macro_rules | `(tactic| fail "cnd") => `(tactic| repeat' (first | (guard_target = And _ _; refine And.intro ?_ ?_) | fail "side"))
local macro_rules | `(tactic| fail "callS") => `(tactic| (guard_target = SpE _ _ _ _ _ _); refine spe_WS (by fail "args") (by first | decide | simp) ?_)
local macro_rules | `(tactic| fail "callNS") => `(tactic| (guard_target = SpE _ _ _ _ _ _); refine spe_NS (by fail "args") (by first | decide | simp) ?_)
local macro_rules | `(tactic| fail "un") => `(tactic| with_reducible apply Stop.mk)
local macro_rules | `(tactic| fail "gg") => `(tactic| repeat' (first | fail "s" | ((guard_target = SpE _ (spW _ _ _) _ _ _ _); fail "callS"; fail "wp"; fail "un") | ((guard_target = SpE _ (spCellv _) _ _ _ _); refine spe_cell (by omega) (by omega) fun _ => ?_) | ((guard_target = SpE _ spFeed _ _ _ _); refine spe_feed fun _ => ?_)))
local macro_rules | `(tactic| fail "mapeq") => `(tactic| first | exact rfl | exact word_items | exact nums_str _ | exact tx_items _ | exact rg0 | (rw [rg0]; exact congrArg (fun k => nt (List.range k)) (by omega)) | exact cutT_map | (rw [rg0]; exact rfl) | (simp only [nt_len, List.length_map, Int.toNat_natCast]; exact rg0) | (rw [rg0]; simp only [nt_len, List.length_map, Int.toNat_natCast]; exact rfl))
local macro_rules | `(tactic| fail "wp2") => `(tactic| repeat (first | ((guard_target = Exists _); apply Exists.intro) | ((guard_target = And _ _); refine And.intro (by fail "side") ?_)))
local macro_rules | `(tactic| fail "wp") => `(tactic| first | (apply Exists.intro; fail "wp2") | (refine And.intro (by fail "side") ?_; fail "wp2") | fail "wp stuck")
local macro_rules | `(tactic| fail "kE") => `(tactic| first | (with_reducible apply ev_eqX) | (with_reducible apply ev_eqXr) | fail "stuck")
theorem fieldI_ne {x : RI} {f : Str} (h : fieldI x = some f) : f.1.toList ≠ [] := by
  unfold fieldI at h
  repeat' (split at h)
  all_goals first | (cases h; decide) | cases h
theorem hOk_none {x : RI} (h : fieldI x = none) : hOk x.h = true := by
  unfold fieldI at h
  split at h
  · cases h
  · rename_i c
    exact (Bool.not_eq_false _).mp c
theorem pl_rowsI {x : RI} : Pl 60 (rowsI x) := by
  unfold rowsI
  fail "pl"
theorem eq_rowsI {x y : RI} : T.eq (rowsI x) (rowsI y) = true ↔ x = y := by
  have hl : eqL (x.l.map fun row => T.lst (row.map T.int)) (y.l.map fun row => T.lst (row.map T.int)) = true ↔ x.l = y.l := eqL_map (fun a b => by rw [eq_lst]; exact eqL_ints a b) _ _
  unfold rowsI
  rw [eq_lst, eqL_cc, eqL_cc, eqL_cc, eqL_nil, eq_int, eq_lst, eq_lst]
  simp only [Bool.and_eq_true, decide_eq_true_eq, and_true]
  rw [eqL_ints, hl, ri_eq]
section
variable {P : Program} {w : World} {K : PySem.W.Frag} {mg : Str → Option Value} {base : Heap}
theorem ok_Crew_eqX {f CCrew CBadCrew : Addr} {fd : FuncData} {k : Nat} (F : Fun K "__eq__" "Crew.__eq__" s_Crew_eq f fd) (misinstance : mg "isinstance" = none) (mcCrew : mg "Crew" = some (.ref CCrew)) (Z : XC K CBadCrew) (TCrew : CTCrew K CCrew) (kx : PySem.W.kitOne K (.ref CBadCrew) (.ref CCrew) = some false) : FnOk P w K mg base CX0 (k + 1) f fd P_Crew_eq (spEqX CCrew CBadCrew) := by
  refine F.ok sc_Crew_eq (fun vs H Q E h => ?_) (fun cdv A outer s H vs Q E hr h => ⟨_, (pss_cons (ps_if (pt_not (pt_val (pe_callB (r := rIsXo K) call_isXo (by rfl) misinstance (by decide +kernel) (pa_cons (pv 1) (pa_cons (pe_glob (v := .ref CCrew) (by rfl) mcCrew rfl) pa_nil)))))
      (pss_one (ps_ret pe_bl))
      pss_nil)
    (pss_one (ps_ret (pe_and (pe_cmpR (r := rEqP K) (op_eqP hr.units) (pe_fldK (K := K) (pv 0)) (pe_fldK (K := K) (pv 1)) (nomark _)) (pe_and (pe_cmpR (r := rEqP K) (op_eqP hr.units) (pe_fldK (K := K) (pv 0)) (pe_fldK (K := K) (pv 1)) (nomark _)) (pe_one (pe_cmpR (r := rEqP K) (op_eqP hr.units) (pe_fldK (K := K) (pv 0)) (pe_fldK (K := K) (pv 1)) (nomark _)))))))), ?_⟩)
  · obtain ⟨_, _, _, _, _, _, rfl, _⟩ := h
    rfl
  obtain ⟨a, b, dx, d, fs, gs, rfl, ha, hb, hd, q⟩ := h
  exact ⟨_, rfl, b, CBadCrew, d, gs, _, _, false, rfl, Z, hb, hd, .own CCrew, kx, false, rfl, q⟩
theorem ok_law {f CCrew CBadCrew : Addr} {fd : FuncData} {k : Nat} (F : Fun K "law" "law" s_law f fd) (O_law_rows : Ok P w K mg base k "_law_rows" P_law_rows (spW K [.pu] wp_law_rows)) (O_law_cell : Ok P w K mg base k "_law_cell" P_law_cell (spCellv K)) (mint : mg "int" = none) (R__law_made : OkR P w K mg base k "_law_made" P_law_made (spW K [.pu, .pu] (wp_law_made CCrew CBadCrew))) (O_law_is_crew : Ok P w K mg base k "_law_is_crew" P_law_is_crew (spW K [.pu, .pu] (wp_law_is_crew CCrew))) (mlist : mg "list" = none) (mrange : mg "range" = none) (mlen : mg "len" = none) (O_law_changed : Ok P w K mg base k "_law_changed" P_law_changed (spW K [.pu, .pu] wp_law_changed)) (O_law_field : Ok P w K mg base k "_law_field" P_law_field (spW K [.pu] wp_law_field)) (O_law_refuses : Ok P w K mg base k "_law_refuses" P_law_refuses (spW K [.pu, .pu, .pu] wp_law_refuses)) (E_Crew : OkEq P w K mg base k CCrew (spW K [.pu, .pu] (wp_crew_eq CCrew))) (X_BadCrew : OkX P w K mg base k CBadCrew "BadCrew" P_BadCrew_init ["field"]) (EX_Crew_BadCrew : OkEqX P w K mg base k CCrew CBadCrew) (TCrew : CTCrew K CCrew) (kx : PySem.W.kitOne K (.ref CBadCrew) (.ref CCrew) = some false) (sx1 : PySem.W.subIn K (.ref CBadCrew) (.ref CCrew) = some false) (sx2 : PySem.W.subIn K (.ref CCrew) (.ref CBadCrew) = some false) (mx : PySem.W.mroIn K CBadCrew (.type "object") = some true) (ox : PySem.W.findIn K (.ref CBadCrew) "__eq__" = some (some (.builtin "object.__eq__"))) : FnOk P w K mg base CX0 (k + 1) f fd P_law (spLaw K) := by
  refine F.ok sc_law (fun vs H Q E h => ?_) (fun cdv A outer s H vs Q E hr h => ?_)
  · obtain ⟨_, _, rfl, _⟩ := h
    rfl
  obtain ⟨a, zs, rfl, hS, hzs, hq⟩ := h
  refine ⟨_, (pss_cons (ps_set (i := 1) sc_law.nd rfl (Or.inl rfl) (pe_c O_law_rows hr (by rfl) (pa_cons (pe_c O_law_cell hr (by rfl) (pa_cons (pv 0) (pa_cons pe_int pa_nil))) pa_nil)))
    (pss_cons (ps_set (i := 2) sc_law.nd rfl (Or.inl rfl) (pe_op op_modN (pe_callTy call_int1 (by rfl) mint (by decide +kernel) (pa_cons (pe_c O_law_cell hr (by rfl) (pa_cons (pv 0) (pa_cons pe_int pa_nil))) pa_nil)) pe_int))
    (pss_cons (ps_set (i := 3) sc_law.nd rfl (Or.inl rfl) (pe_cR0 R__law_made hr (by rfl) (pa_cons (pv 1) (pa_cons (pe_op op_modN (pe_callTy call_int1 (by rfl) mint (by decide +kernel) (pa_cons (pv 2) pa_nil)) pe_int) pa_nil))))
    (pss_cons (ps_if (pt_not (pt_val (pe_c O_law_is_crew hr (by rfl) (pa_cons (pv 3) (pa_cons (pv 1) pa_nil)))))
      (pss_one (ps_ret pe_bl))
      pss_nil)
    (pss_cons (ps_set (i := 4) sc_law.nd rfl (Or.inl rfl) (pe_op op_cat (pe_lcK (vs := [5]) (pe_lc (own := [("k", 5)]) (g := (gName 5)) (tt := tYes) rfl sc_law.nd (pi_listK (K := K) (pe_lst (pa_cons pe_int (pa_cons pe_int (pa_cons pe_int (pa_cons pe_int pa_nil)))))) (blkOk_by (N := N_law) (sc := defScope s_law) (by decide +kernel)) (fun _ _ _ _ _ => (pg_name (i := 5) sc_law.nd rfl (Or.inl rfl))) (fun _ _ _ _ _ => pts_nil) (fun _ _ _ _ _ => (pe_c O_law_cell hr (by rfl) (pa_cons (pv 0) (pa_cons (pv 5) pa_nil)))))) (pe_callTy (r := rListOf K) call_listK (by rfl) mlist (by decide +kernel) (pa_cons (pe_slice (r := rSlL K) sl_list (pv 0) (po_some pe_int) (po_some pe_int)) pa_nil))))
    (pss_cons (ps_forV [(5, .no), (6, .no), (7, .no), (8, .no)] (ps_for PassesOwn.never rfl (pi_range1 (by rfl) mrange (pa_cons (pe_callB (r := rLenS K) call_lenK (by rfl) mlen (by decide +kernel) (pa_cons (pv 4) pa_nil)) pa_nil)) (pg_name (i := 5) sc_law.nd rfl (Or.inl rfl))
      (pss_cons (ps_set (i := 6) sc_law.nd rfl (Or.inl rfl) (pe_c O_law_changed hr (by rfl) (pa_cons (pe_ix (r := rIx K) ix_seq (pv 4) (pv 5) (fun _ _ => rfl)) (pa_cons (pv 1) pa_nil))))
      (pss_cons (ps_set (i := 7) sc_law.nd rfl (Or.inl rfl) (pe_c O_law_field hr (by rfl) (pa_cons (pv 6) pa_nil)))
      (pss_one (ps_if (pt_cmpR op_ne (pv 7) pe_str (nomark _))
        (pss_one (ps_if (pt_not (pt_val (pe_c O_law_refuses hr (by rfl) (pa_cons (pv 6) (pa_cons (pe_op op_modN (pe_callTy call_int1 (by rfl) mint (by decide +kernel) (pa_cons (pe_op op_add (pe_op op_fdivN (pv 2) pe_int) (pv 5)) pa_nil)) pe_int) (pa_cons (pv 7) pa_nil))))))
          (pss_one (ps_ret pe_bl))
          pss_nil))
        (pss_cons (ps_set (i := 8) sc_law.nd rfl (Or.inl rfl) (pe_cR0 R__law_made hr (by rfl) (pa_cons (pv 6) (pa_cons (pe_op op_modN (pe_callTy call_int1 (by rfl) mint (by decide +kernel) (pa_cons (pe_op op_add (pe_op op_fdivN (pv 2) pe_int) (pv 5)) pa_nil)) pe_int) pa_nil))))
        (pss_cons (ps_if (PW.pt (pw_or (pt_not (pt_val (pe_c O_law_is_crew hr (by rfl) (pa_cons (pv 8) (pa_cons (pv 6) pa_nil))))) (pw_or1 (pt_not (pt_val (pe_c O_law_is_crew hr (by rfl) (pa_cons (pv 3) (pa_cons (pv 1) pa_nil))))))))
          (pss_one (ps_ret pe_bl))
          pss_nil)
        (pss_one (ps_if (PW.pt (pw_or (pt_cmpR (r := rNeP K) (op_neP hr.units) (pe_cmpR (op_eqI E_Crew hr) (pv 3) (pv 8) (nomark _)) (pe_cmpR (r := rEqP K) (op_eqP hr.units) (pv 1) (pv 6) (nomark _)) (nomark _)) (pw_or1 (pt_cmpR (r := rNeP K) (op_neP hr.units) (pe_cmpR (op_eqI E_Crew hr) (pv 8) (pv 3) (nomark _)) (pe_cmpR (r := rEqP K) (op_eqP hr.units) (pv 1) (pv 6) (nomark _)) (nomark _)))))
          (pss_one (ps_ret pe_bl))
          pss_nil))))))))))
    (pss_cons (ps_set (i := 8) sc_law.nd rfl (Or.inl rfl) (pe_cR0 R__law_made hr (by rfl) (pa_cons (pv 1) (pa_cons (pe_op op_modN (pe_callTy call_int1 (by rfl) mint (by decide +kernel) (pa_cons (pe_op op_add (pv 2) pe_int) pa_nil)) pe_int) pa_nil))))
    (pss_cons (ps_if (PW.pt (pw_or (pt_cmpR (op_eqX EX_Crew_BadCrew hr) (pv 3) (pe_mkV X_BadCrew hr (by rfl) (pa_cons pe_str pa_nil)) (nomark _)) (pw_or1 (pt_cmpR (op_eqXr EX_Crew_BadCrew hr) (pe_mkV X_BadCrew hr (by rfl) (pa_cons pe_str pa_nil)) (pv 3) (nomark _)))))
      (pss_one (ps_ret pe_bl))
      pss_nil)
    (pss_one (ps_ret (pe_and (pe_c O_law_is_crew hr (by rfl) (pa_cons (pv 3) (pa_cons (pv 1) pa_nil))) (pe_and (pe_c O_law_is_crew hr (by rfl) (pa_cons (pv 8) (pa_cons (pv 1) pa_nil))) (pe_and (pe_cmpR (op_eqI E_Crew hr) (pv 3) (pv 8) (nomark _)) (pe_one (pe_cmpR (op_eqI E_Crew hr) (pv 8) (pv 3) (nomark _)))))))))))))))), ?_⟩
  refine law_start (n := 9) (rest := [.no, .no, .no, .no, .no, .no, .no, .no]) rfl (by fail "blank") rfl hS hq ?_
  -- slots: 0 script 1 rows 2 shape 3 crew 4 cells 5 k 6 other 7 field 8 twin
  fail "start"
  fail "gg"
  fail "callS"
  refine ⟨_, rfl, fun r ko => ?_⟩
  rw [rows_ofR]
  have sm := sm_ofR ko
  have gd := good_ofR ko
  have ho := hOk_none gd
  fail "un"
  fail "gg"
  fail "callS"
  refine ⟨ofR r, _, rfl, sm, ?_, fun _ => ?_⟩
  · intro f hf
    rw [gd] at hf
    cases hf
  fail "un"
  fail "gg"
  fail "gg"
  refine ev_mapD (xs := ([1, 2, 4, 5] : List Int)) (h := fun i => T.int i) (f := T.int) (P := fun _ => True) (by fail "gok") ?_
  fail "gg"
  refine ⟨by fail "lt", by fail "mapeq", by fail "om", fun x hx => ?_, ?_⟩
  · have hx2 : 0 ≤ x ∧ x < 63 := by
      simp only [List.mem_cons, List.not_mem_nil, or_false] at hx
      omega
    have hx0 : 0 ≤ x := hx2.1
    have hx6 : x < 1000 := by omega
    fail "start"
    fail "gg"
    exact ⟨by fail "kps", trivial⟩
  intro ys hul _
  fail "gg"
  rw [cutT_map]
  have hcu := cutL_len (xs := zs) (lo := some 6) (hi := some 63)
  have hul : ys.length = 4 := hul
  refine rd_cat (by fail "fz") (by fail "fz") (by rw [List.length_map, List.length_map]; omega) ?_
  rw [← List.map_append]
  have hcl : (ys ++ cutL zs (some 6) (some 63)).length ≤ 67 := by rw [List.length_append]; omega
  generalize ys ++ cutL zs (some 6) (some 63) = cs at hcl
  have n1 : (cs.map T.int).length = cs.length := List.length_map ..
  fail "gg"
  refine es_forV ?_
  fail "gg"
  refine ⟨by fail "lt", fun ρb i ρ' => ρ' = puts [] ρb, ?_, fun i t ρ' ht hM => ?_, fun m ρ' hm hM => ?_⟩
  · apply fin_mk
    · fail "cnd"
    · fail "nw"
    · fail "lt"
  · obtain rfl := hM
    obtain ⟨hi, rfl⟩ := rgT_get0 ht
    try simp only [nt_len, Int.toNat_natCast, List.length_map, List.length_cons, List.length_nil] at hi
    fail "start"
    fail "gg"
    have hic : i < cs.length := by omega
    have hix : atI (cs.map T.int) (i : Int) = some (.int cs[i]) := atI_nat (by rw [List.getElem?_map, List.getElem?_eq_getElem hic]; rfl)
    refine rd_ix rfl hix ?_
    fail "gg"
    fail "callS"
    refine ⟨_, r, rfl, ko, fun x xm => ?_⟩
    fail "un"
    cases hf : fieldI x with
    | none =>
      fail "gg"
      simp only [fieldS, hf]
      have hox := hOk_none hf
      refine ⟨fun c => absurd c (by decide), fun c => ?_⟩
      fail "gg"
      fail "callS"
      refine ⟨x, _, rfl, xm, ?_, fun _ => ?_⟩
      · intro f hf2
        rw [hf] at hf2
        cases hf2
      fail "un"
      fail "gg"
      refine rd_eqI ?_
      fail "callS"
      refine ⟨ofR r, x, rfl, sm, xm, fun b1 hb1 => ?_⟩
      fail "un"
      refine ⟨_, rfl, ?_⟩
      fail "gg"
      have tq : T.eq (rowsI (ofR r)) (rowsI x) = b1 := by rw [Bool.eq_iff_iff, hb1, eq_rowsI]
      rw [tq]
      have tb : T.eq (.bl b1) (.bl b1) = true := by cases b1 <;> rfl
      rw [tb]
      refine ⟨fun c => absurd c (by decide), fun _ => ?_⟩
      fail "gg"
      refine rd_eqI ?_
      fail "callS"
      refine ⟨x, ofR r, rfl, xm, sm, fun b2 hb2 => ?_⟩
      fail "un"
      refine ⟨_, rfl, ?_⟩
      fail "gg"
      obtain rfl : b2 = b1 := by rw [Bool.eq_iff_iff, hb1, hb2]; exact eq_comm
      rw [tq, tb]
      refine ⟨fun c => absurd c (by decide), fun _ => ?_⟩
      fail "gg"
      apply fin_mk
      · fail "cnd"
      · fail "nw"
      · fail "lt"
    | some fn =>
      fail "gg"
      simp only [fieldS, hf]
      have ne := fieldI_ne hf
      refine ⟨fun c => ?_, fun c => by simp [ne] at c⟩
      fail "gg"
      apply fin_mk
      · fail "cnd"
      · fail "nw"
      · fail "lt"
  · obtain rfl := hM
    fail "gg"
    fail "callS"
    refine ⟨ofR r, _, rfl, sm, ?_, fun _ => ?_⟩
    · intro f hf
      rw [gd] at hf
      cases hf
    fail "un"
    fail "gg"
    refine ⟨_, _, by fail "fzl", rfl, by decide, _, rfl, fun c => absurd c (by decide), fun _ => ?_⟩
    fail "gg"
    refine ⟨_, _, by fail "fzl", rfl, by decide, ?_⟩
    fail "gg"
    refine rd_eqI ?_
    fail "callS"
    refine ⟨ofR r, ofR r, rfl, sm, sm, fun b1 hb1 => ?_⟩
    fail "un"
    obtain rfl : b1 = true := hb1.mpr rfl
    refine ⟨_, rfl, ?_⟩
    fail "gg"
    refine rd_eqI ?_
    fail "callS"
    refine ⟨ofR r, ofR r, rfl, sm, sm, fun b2 hb2 => ?_⟩
    fail "un"
    obtain rfl : b2 = true := hb2.mpr rfl
    refine ⟨_, rfl, ?_⟩
    fail "gg"
    exact rfl
end
end K26
namespace K26
open PySem L2 Vk Tr
theorem none_ok {P : Program} {w : World} {K : PySem.W.Frag} {mg : Str → Option Value} {base : Heap} {k : Nat} {f : Addr} {fd : FuncData} {ps : List Str} {sp : Sp} (no : ∀ vs H Q E, ¬ sp vs H Q E) : FnOk P w K mg base CX0 k f fd ps sp :=
  ⟨fun vs H Q E h => absurd h (no vs H Q E), fun A outer s H args us vs Q E _ _ _ _ h => absurd h (no vs H Q E)⟩
set_option maxHeartbeats 0 in
theorem all_mk {l : PySem.W.OpenLaw} {w : World} {K : PySem.W.Frag} {h : Heap} {mg : Str → Option Value} {fa f0 f1 f2 f3 f4 f5 f6 f7 f8 f9 f10 f11 f12 f13 f14 f15 f16 f17 f18 f19 f20 f21 f22 f23 CBadCrew CBadExpression CBadLine CBadRound CBadStorm CBadTable CBadText CCrew CDisagree CEndlessTable CHasNotes CNeedsRule CNoArray CNotEnded CNotOver COutOfBounds CPartOver CStillError CTakenName CTooLong CUnknownName p13 p14: Addr} (X : K.In h) (G : h.Ns mainGlobals mg) (hfa : mg "law" = some (.ref fa))
    {od0 an0 od1 an1 od2 an2 od3 an3 od4 an4 od5 an5 od6 an6 od7 an7 od8 an8 od9 an9 od10 an10 od11 an11 od12 an12 od13 an13 od14 an14 od15 an15 od16 an16 od17 an17 od18 an18 od19 an19 od20 an20 od21 an21 od22 an22 od23 an23 : Option Addr} {sl0 sl1 sl2 sl3 sl4 sl5 sl6 sl7 sl8 sl9 sl10 sl11 sl12 sl13 sl14 sl15 sl16 sl17 sl18 sl19 sl20 sl21 sl22 sl23 : Array (Option Value)} {oc0 kV0 dc0 pm0 cd0 ct0 oc1 kV1 dc1 pm1 cd1 ct1 oc2 kV2 dc2 pm2 cd2 ct2 oc3 kV3 dc3 pm3 cd3 ct3 oc4 kV4 dc4 pm4 cd4 ct4 oc5 kV5 dc5 pm5 cd5 ct5 oc6 kV6 dc6 pm6 cd6 ct6 oc7 kV7 dc7 pm7 cd7 ct7 oc8 kV8 dc8 pm8 cd8 ct8 oc9 kV9 dc9 pm9 cd9 ct9 oc10 kV10 dc10 pm10 cd10 ct10 oc11 kV11 dc11 pm11 cd11 ct11 oc12 kV12 dc12 pm12 cd12 ct12 oc13 kV13 dc13 pm13 cd13 ct13 oc14 kV14 dc14 pm14 cd14 ct14 oc15 kV15 dc15 pm15 cd15 ct15 oc16 kV16 dc16 pm16 cd16 ct16 oc17 kV17 dc17 pm17 cd17 ct17 oc18 kV18 dc18 pm18 cd18 ct18 oc19 kV19 dc19 pm19 cd19 ct19 oc20 kV20 dc20 pm20 cd20 ct20 oc21 kV21 dc21 pm21 cd21 ct21 oc22 kV22 dc22 pm22 cd22 ct22 oc23 kV23 dc23 pm23 cd23 ct23 : Value}
    {tMOST_HEIGHT tMOST_WORKERS : Tok}
    {rs13 rs14 : List Value}
    {nmBadCrew qBadCrew : Str} {NBadCrew : Addr} {bsBadCrew : List Value} {snBadCrew : List Str} {subBadCrew : List Value} {abBadCrew : Bool} {colBadCrew : Option Bool} {ddBadCrew : Option Addr} {m0BadCrew m1BadCrew m2BadCrew m3BadCrew m5BadCrew : Option Value}
    (aCBadCrew : PySem.W.nsIn K mainGlobals "BadCrew" = some (some (.ref CBadCrew)))
    (aCBadExpression : PySem.W.nsIn K mainGlobals "BadExpression" = some (some (.ref CBadExpression)))
    (aCBadLine : PySem.W.nsIn K mainGlobals "BadLine" = some (some (.ref CBadLine)))
    (aCBadRound : PySem.W.nsIn K mainGlobals "BadRound" = some (some (.ref CBadRound)))
    (aCBadStorm : PySem.W.nsIn K mainGlobals "BadStorm" = some (some (.ref CBadStorm)))
    (aCBadTable : PySem.W.nsIn K mainGlobals "BadTable" = some (some (.ref CBadTable)))
    (aCBadText : PySem.W.nsIn K mainGlobals "BadText" = some (some (.ref CBadText)))
    (aCCrew : PySem.W.nsIn K mainGlobals "Crew" = some (some (.ref CCrew)))
    (aCDisagree : PySem.W.nsIn K mainGlobals "Disagree" = some (some (.ref CDisagree)))
    (aCEndlessTable : PySem.W.nsIn K mainGlobals "EndlessTable" = some (some (.ref CEndlessTable)))
    (aCHasNotes : PySem.W.nsIn K mainGlobals "HasNotes" = some (some (.ref CHasNotes)))
    (aCNeedsRule : PySem.W.nsIn K mainGlobals "NeedsRule" = some (some (.ref CNeedsRule)))
    (aCNoArray : PySem.W.nsIn K mainGlobals "NoArray" = some (some (.ref CNoArray)))
    (aCNotEnded : PySem.W.nsIn K mainGlobals "NotEnded" = some (some (.ref CNotEnded)))
    (aCNotOver : PySem.W.nsIn K mainGlobals "NotOver" = some (some (.ref CNotOver)))
    (aCOutOfBounds : PySem.W.nsIn K mainGlobals "OutOfBounds" = some (some (.ref COutOfBounds)))
    (aCPartOver : PySem.W.nsIn K mainGlobals "PartOver" = some (some (.ref CPartOver)))
    (aCStillError : PySem.W.nsIn K mainGlobals "StillError" = some (some (.ref CStillError)))
    (aCTakenName : PySem.W.nsIn K mainGlobals "TakenName" = some (some (.ref CTakenName)))
    (aCTooLong : PySem.W.nsIn K mainGlobals "TooLong" = some (some (.ref CTooLong)))
    (aCUnknownName : PySem.W.nsIn K mainGlobals "UnknownName" = some (some (.ref CUnknownName)))
    (a0 : PySem.W.nsIn K mainGlobals "_law_feed" = some (some (.ref f0)))
    (l0 : K.lookup f0 = some ⟨oc0, od0, .func (PySem.W.fnOf "_law_feed" "_law_feed" (defArgs s_law_feed) (defBody s_law_feed) (defScope s_law_feed) .none kV0 dc0 pm0 an0 cd0 ct0), sl0⟩) (c0 : PySem.W.codeIn K cd0 "_law_feed" = true) (k0 : PySem.W.keepIn K (.ref f0) = true)
    (a1 : PySem.W.nsIn K mainGlobals "_law_take" = some (some (.ref f1)))
    (l1 : K.lookup f1 = some ⟨oc1, od1, .func (PySem.W.fnOf "_law_take" "_law_take" (defArgs s_law_take) (defBody s_law_take) (defScope s_law_take) .none kV1 dc1 pm1 an1 cd1 ct1), sl1⟩) (c1 : PySem.W.codeIn K cd1 "_law_take" = true) (k1 : PySem.W.keepIn K (.ref f1) = true)
    (a2 : PySem.W.nsIn K mainGlobals "_law_crew" = some (some (.ref f2)))
    (l2 : K.lookup f2 = some ⟨oc2, od2, .func (PySem.W.fnOf "_law_crew" "_law_crew" (defArgs s_law_crew) (defBody s_law_crew) (defScope s_law_crew) .none kV2 dc2 pm2 an2 cd2 ct2), sl2⟩) (c2 : PySem.W.codeIn K cd2 "_law_crew" = true) (k2 : PySem.W.keepIn K (.ref f2) = true)
    (a3 : PySem.W.nsIn K mainGlobals "_law_rows" = some (some (.ref f3)))
    (l3 : K.lookup f3 = some ⟨oc3, od3, .func (PySem.W.fnOf "_law_rows" "_law_rows" (defArgs s_law_rows) (defBody s_law_rows) (defScope s_law_rows) .none kV3 dc3 pm3 an3 cd3 ct3), sl3⟩) (c3 : PySem.W.codeIn K cd3 "_law_rows" = true) (k3 : PySem.W.keepIn K (.ref f3) = true)
    (a4 : PySem.W.nsIn K mainGlobals "_law_cell" = some (some (.ref f4)))
    (l4 : K.lookup f4 = some ⟨oc4, od4, .func (PySem.W.fnOf "_law_cell" "_law_cell" (defArgs s_law_cell) (defBody s_law_cell) (defScope s_law_cell) .none kV4 dc4 pm4 an4 cd4 ct4), sl4⟩) (c4 : PySem.W.codeIn K cd4 "_law_cell" = true) (k4 : PySem.W.keepIn K (.ref f4) = true)
    (a5 : PySem.W.nsIn K mainGlobals "_is_height" = some (some (.ref f5)))
    (l5 : K.lookup f5 = some ⟨oc5, od5, .func (PySem.W.fnOf "_is_height" "_is_height" (defArgs s_is_height) (defBody s_is_height) (defScope s_is_height) .none kV5 dc5 pm5 an5 cd5 ct5), sl5⟩) (c5 : PySem.W.codeIn K cd5 "_is_height" = true) (k5 : PySem.W.keepIn K (.ref f5) = true)
    (a6 : PySem.W.findIn K (.ref CBadCrew) "__init__" = some (some (.ref f6))) (ti6 : PySem.W.typeIn K (.ref f6) = some (.type "function"))
    (l6 : K.lookup f6 = some ⟨oc6, od6, .func (PySem.W.fnOf "__init__" "BadCrew.__init__" (defArgs s_BadCrew_init) (defBody s_BadCrew_init) (defScope s_BadCrew_init) .none kV6 dc6 pm6 an6 cd6 ct6), sl6⟩) (c6 : PySem.W.codeIn K cd6 "BadCrew.__init__" = true) (k6 : PySem.W.keepIn K (.ref f6) = true)
    (a7 : PySem.W.nsIn K mainGlobals "_are_seats" = some (some (.ref f7)))
    (l7 : K.lookup f7 = some ⟨oc7, od7, .func (PySem.W.fnOf "_are_seats" "_are_seats" (defArgs s_are_seats) (defBody s_are_seats) (defScope s_are_seats) .none kV7 dc7 pm7 an7 cd7 ct7), sl7⟩) (c7 : PySem.W.codeIn K cd7 "_are_seats" = true) (k7 : PySem.W.keepIn K (.ref f7) = true)
    (a8 : PySem.W.nsIn K mainGlobals "_are_leanings" = some (some (.ref f8)))
    (l8 : K.lookup f8 = some ⟨oc8, od8, .func (PySem.W.fnOf "_are_leanings" "_are_leanings" (defArgs s_are_leanings) (defBody s_are_leanings) (defScope s_are_leanings) .none kV8 dc8 pm8 an8 cd8 ct8), sl8⟩) (c8 : PySem.W.codeIn K cd8 "_are_leanings" = true) (k8 : PySem.W.keepIn K (.ref f8) = true)
    (a9 : PySem.W.findIn K (.ref CCrew) "__init__" = some (some (.ref f9))) (i9 : PySem.W.isFn K (.ref f9) = true) (mk9 : PySem.W.makesIn K CCrew = true) (kc9 : PySem.W.keepIn K (.ref CCrew) = true)
    (l9 : K.lookup f9 = some ⟨oc9, od9, .func (PySem.W.fnOf "__init__" "Crew.__init__" (defArgs s_Crew_init) (defBody s_Crew_init) (defScope s_Crew_init) .none kV9 dc9 pm9 an9 cd9 ct9), sl9⟩) (c9 : PySem.W.codeIn K cd9 "Crew.__init__" = true) (k9 : PySem.W.keepIn K (.ref f9) = true)
    (a10 : PySem.W.nsIn K mainGlobals "_law_made" = some (some (.ref f10)))
    (l10 : K.lookup f10 = some ⟨oc10, od10, .func (PySem.W.fnOf "_law_made" "_law_made" (defArgs s_law_made) (defBody s_law_made) (defScope s_law_made) .none kV10 dc10 pm10 an10 cd10 ct10), sl10⟩) (c10 : PySem.W.codeIn K cd10 "_law_made" = true) (k10 : PySem.W.keepIn K (.ref f10) = true)
    (a11 : PySem.W.nsIn K mainGlobals "_law_whole" = some (some (.ref f11)))
    (l11 : K.lookup f11 = some ⟨oc11, od11, .func (PySem.W.fnOf "_law_whole" "_law_whole" (defArgs s_law_whole) (defBody s_law_whole) (defScope s_law_whole) .none kV11 dc11 pm11 an11 cd11 ct11), sl11⟩) (c11 : PySem.W.codeIn K cd11 "_law_whole" = true) (k11 : PySem.W.keepIn K (.ref f11) = true)
    (a12 : PySem.W.nsIn K mainGlobals "_law_is_row" = some (some (.ref f12)))
    (l12 : K.lookup f12 = some ⟨oc12, od12, .func (PySem.W.fnOf "_law_is_row" "_law_is_row" (defArgs s_law_is_row) (defBody s_law_is_row) (defScope s_law_is_row) .none kV12 dc12 pm12 an12 cd12 ct12), sl12⟩) (c12 : PySem.W.codeIn K cd12 "_law_is_row" = true) (k12 : PySem.W.keepIn K (.ref f12) = true)
    (a13 : PySem.W.findIn K (.ref CCrew) "workers" = some (some (.ref p13))) (g13 : PySem.W.specialIn K (.ref p13) "__get__" = some (some (.builtin "property.__get__"))) (h13 : PySem.W.takesIn K (.ref p13) = some true) (r13 : PySem.W.recIn K p13 "property" = some (.ref f13 :: rs13))
    (l13 : K.lookup f13 = some ⟨oc13, od13, .func (PySem.W.fnOf "workers" "Crew.workers" (defArgs s_Crew_workers) (defBody s_Crew_workers) (defScope s_Crew_workers) .none kV13 dc13 pm13 an13 cd13 ct13), sl13⟩) (c13 : PySem.W.codeIn K cd13 "Crew.workers" = true) (k13 : PySem.W.keepIn K (.ref f13) = true)
    (a14 : PySem.W.findIn K (.ref CCrew) "leaves" = some (some (.ref p14))) (g14 : PySem.W.specialIn K (.ref p14) "__get__" = some (some (.builtin "property.__get__"))) (h14 : PySem.W.takesIn K (.ref p14) = some true) (r14 : PySem.W.recIn K p14 "property" = some (.ref f14 :: rs14))
    (l14 : K.lookup f14 = some ⟨oc14, od14, .func (PySem.W.fnOf "leaves" "Crew.leaves" (defArgs s_Crew_leaves) (defBody s_Crew_leaves) (defScope s_Crew_leaves) .none kV14 dc14 pm14 an14 cd14 ct14), sl14⟩) (c14 : PySem.W.codeIn K cd14 "Crew.leaves" = true) (k14 : PySem.W.keepIn K (.ref f14) = true)
    (a15 : PySem.W.nsIn K mainGlobals "_law_is_crew" = some (some (.ref f15)))
    (l15 : K.lookup f15 = some ⟨oc15, od15, .func (PySem.W.fnOf "_law_is_crew" "_law_is_crew" (defArgs s_law_is_crew) (defBody s_law_is_crew) (defScope s_law_is_crew) .none kV15 dc15 pm15 an15 cd15 ct15), sl15⟩) (c15 : PySem.W.codeIn K cd15 "_law_is_crew" = true) (k15 : PySem.W.keepIn K (.ref f15) = true)
    (a16 : PySem.W.nsIn K mainGlobals "_law_changed_seat" = some (some (.ref f16)))
    (l16 : K.lookup f16 = some ⟨oc16, od16, .func (PySem.W.fnOf "_law_changed_seat" "_law_changed_seat" (defArgs s_law_changed_seat) (defBody s_law_changed_seat) (defScope s_law_changed_seat) .none kV16 dc16 pm16 an16 cd16 ct16), sl16⟩) (c16 : PySem.W.codeIn K cd16 "_law_changed_seat" = true) (k16 : PySem.W.keepIn K (.ref f16) = true)
    (a17 : PySem.W.nsIn K mainGlobals "_law_joined" = some (some (.ref f17)))
    (l17 : K.lookup f17 = some ⟨oc17, od17, .func (PySem.W.fnOf "_law_joined" "_law_joined" (defArgs s_law_joined) (defBody s_law_joined) (defScope s_law_joined) .none kV17 dc17 pm17 an17 cd17 ct17), sl17⟩) (c17 : PySem.W.codeIn K cd17 "_law_joined" = true) (k17 : PySem.W.keepIn K (.ref f17) = true)
    (a18 : PySem.W.nsIn K mainGlobals "_law_changed_row" = some (some (.ref f18)))
    (l18 : K.lookup f18 = some ⟨oc18, od18, .func (PySem.W.fnOf "_law_changed_row" "_law_changed_row" (defArgs s_law_changed_row) (defBody s_law_changed_row) (defScope s_law_changed_row) .none kV18 dc18 pm18 an18 cd18 ct18), sl18⟩) (c18 : PySem.W.codeIn K cd18 "_law_changed_row" = true) (k18 : PySem.W.keepIn K (.ref f18) = true)
    (a19 : PySem.W.nsIn K mainGlobals "_law_changed" = some (some (.ref f19)))
    (l19 : K.lookup f19 = some ⟨oc19, od19, .func (PySem.W.fnOf "_law_changed" "_law_changed" (defArgs s_law_changed) (defBody s_law_changed) (defScope s_law_changed) .none kV19 dc19 pm19 an19 cd19 ct19), sl19⟩) (c19 : PySem.W.codeIn K cd19 "_law_changed" = true) (k19 : PySem.W.keepIn K (.ref f19) = true)
    (a20 : PySem.W.nsIn K mainGlobals "_law_field" = some (some (.ref f20)))
    (l20 : K.lookup f20 = some ⟨oc20, od20, .func (PySem.W.fnOf "_law_field" "_law_field" (defArgs s_law_field) (defBody s_law_field) (defScope s_law_field) .none kV20 dc20 pm20 an20 cd20 ct20), sl20⟩) (c20 : PySem.W.codeIn K cd20 "_law_field" = true) (k20 : PySem.W.keepIn K (.ref f20) = true)
    (a21 : PySem.W.nsIn K mainGlobals "_law_refuses" = some (some (.ref f21)))
    (l21 : K.lookup f21 = some ⟨oc21, od21, .func (PySem.W.fnOf "_law_refuses" "_law_refuses" (defArgs s_law_refuses) (defBody s_law_refuses) (defScope s_law_refuses) .none kV21 dc21 pm21 an21 cd21 ct21), sl21⟩) (c21 : PySem.W.codeIn K cd21 "_law_refuses" = true) (k21 : PySem.W.keepIn K (.ref f21) = true)
    (a22 : PySem.W.findIn K (.ref CCrew) "__eq__" = some (some (.ref f22))) (i22 : PySem.W.isFn K (.ref f22) = true)
    (l22 : K.lookup f22 = some ⟨oc22, od22, .func (PySem.W.fnOf "__eq__" "Crew.__eq__" (defArgs s_Crew_eq) (defBody s_Crew_eq) (defScope s_Crew_eq) .none kV22 dc22 pm22 an22 cd22 ct22), sl22⟩) (c22 : PySem.W.codeIn K cd22 "Crew.__eq__" = true) (k22 : PySem.W.keepIn K (.ref f22) = true)
    (a23 : PySem.W.nsIn K mainGlobals "law" = some (some (.ref f23)))
    (l23 : K.lookup f23 = some ⟨oc23, od23, .func (PySem.W.fnOf "law" "law" (defArgs s_law) (defBody s_law) (defScope s_law) .none kV23 dc23 pm23 an23 cd23 ct23), sl23⟩) (c23 : PySem.W.codeIn K cd23 "law" = true) (k23 : PySem.W.keepIn K (.ref f23) = true)
    (xLBadCrew : K.lookup CBadCrew = some (excClassObj nmBadCrew qBadCrew CBadCrew NBadCrew bsBadCrew [.ref CStillError, .type "ValueError", .type "Exception", .type "BaseException", .type "object"] true snBadCrew subBadCrew abBadCrew colBadCrew ddBadCrew m0BadCrew m1BadCrew m2BadCrew m3BadCrew m5BadCrew "ValueError.__new__"))
    (sxBadCrew : PySem.W.findIn K (.ref CBadCrew) "__setattr__" = some (some (.builtin "object.__setattr__"))) (gxBadCrew : PySem.W.findIn K (.ref CBadCrew) "__getattribute__" = some (some (.builtin "BaseException.__getattribute__"))) (hxBadCrew : PySem.W.findIn K (.ref CBadCrew) "__getattr__" = some none) (exBadCrew : PySem.W.subIn K (.ref CBadCrew) (.type "BaseException") = some true) (txBadCrew : PySem.W.typeIn K (.ref CBadCrew) = some (.type "type")) (kxBadCrew : PySem.W.keepIn K (.ref CBadCrew) = true) (dxBadCrew : PySem.W.hasDictIn K CBadCrew = true) (ixBadCrew : PySem.W.isClsIn K CBadCrew = true)
    (cxBadCrew : PySem.W.findIn K (.ref CBadCrew) "__class__" = some (some (.builtin "object.__class__"))) (uxBadCrew : PySem.W.specialIn K (.builtin "object.__class__") "__get__" = some (some (.builtin "getset_descriptor.__get__"))) (vxBadCrew : PySem.W.takesIn K (.builtin "object.__class__") = some true) (mxBadCrew : PySem.W.mroIn K CBadCrew (.type "object") = some true)
    (nxBadCrew_field : PySem.W.findIn K (.ref CBadCrew) "field" = some none)
    (Hf_ca : PySem.W.findIn K (.ref CCrew) "__class__" = some (some (.builtin "object.__class__")))
    (Hf_cg : PySem.W.specialIn K (.builtin "object.__class__") "__get__" = some (some (.builtin "getset_descriptor.__get__")))
    (Hf_ct : PySem.W.takesIn K (.builtin "object.__class__") = some true)
    (Hf_cm : PySem.W.mroIn K CCrew (.type "object") = some true)
    (e1xm : PySem.W.subIn K (.ref CStillError) (.type "BaseException") = some true) (e2xm : PySem.W.hasDictIn K CStillError = true) (e3xm : PySem.W.typeIn K (.ref CStillError) = some (.type "type")) (e4xm : PySem.W.subIn K (.ref CBadCrew) (.ref CStillError) = some true)
    (e1k2 : PySem.W.subIn K (.ref CBadCrew) (.type "ValueError") = some true)
    (e0k3 : PySem.W.subIn K (.ref CBadCrew) (.ref CBadCrew) = some true)
    (e01k3 : PySem.W.isClsIn K CBadExpression = true) (e02k3 : PySem.W.typeIn K (.ref CBadExpression) = some (.type "type")) (e03k3 : PySem.W.subIn K (.ref CBadCrew) (.ref CBadExpression) = some false)
    (e11k3 : PySem.W.isClsIn K CBadLine = true) (e12k3 : PySem.W.typeIn K (.ref CBadLine) = some (.type "type")) (e13k3 : PySem.W.subIn K (.ref CBadCrew) (.ref CBadLine) = some false)
    (e21k3 : PySem.W.isClsIn K CBadRound = true) (e22k3 : PySem.W.typeIn K (.ref CBadRound) = some (.type "type")) (e23k3 : PySem.W.subIn K (.ref CBadCrew) (.ref CBadRound) = some false)
    (e31k3 : PySem.W.isClsIn K CBadStorm = true) (e32k3 : PySem.W.typeIn K (.ref CBadStorm) = some (.type "type")) (e33k3 : PySem.W.subIn K (.ref CBadCrew) (.ref CBadStorm) = some false)
    (e41k3 : PySem.W.isClsIn K CBadTable = true) (e42k3 : PySem.W.typeIn K (.ref CBadTable) = some (.type "type")) (e43k3 : PySem.W.subIn K (.ref CBadCrew) (.ref CBadTable) = some false)
    (e51k3 : PySem.W.isClsIn K CBadText = true) (e52k3 : PySem.W.typeIn K (.ref CBadText) = some (.type "type")) (e53k3 : PySem.W.subIn K (.ref CBadCrew) (.ref CBadText) = some false)
    (e61k3 : PySem.W.isClsIn K CDisagree = true) (e62k3 : PySem.W.typeIn K (.ref CDisagree) = some (.type "type")) (e63k3 : PySem.W.subIn K (.ref CBadCrew) (.ref CDisagree) = some false)
    (e71k3 : PySem.W.isClsIn K CEndlessTable = true) (e72k3 : PySem.W.typeIn K (.ref CEndlessTable) = some (.type "type")) (e73k3 : PySem.W.subIn K (.ref CBadCrew) (.ref CEndlessTable) = some false)
    (e81k3 : PySem.W.isClsIn K CHasNotes = true) (e82k3 : PySem.W.typeIn K (.ref CHasNotes) = some (.type "type")) (e83k3 : PySem.W.subIn K (.ref CBadCrew) (.ref CHasNotes) = some false)
    (e0k4 : PySem.W.subIn K (.ref CBadCrew) (.ref CBadCrew) = some true)
    (e01k4 : PySem.W.isClsIn K CNeedsRule = true) (e02k4 : PySem.W.typeIn K (.ref CNeedsRule) = some (.type "type")) (e03k4 : PySem.W.subIn K (.ref CBadCrew) (.ref CNeedsRule) = some false)
    (e11k4 : PySem.W.isClsIn K CNoArray = true) (e12k4 : PySem.W.typeIn K (.ref CNoArray) = some (.type "type")) (e13k4 : PySem.W.subIn K (.ref CBadCrew) (.ref CNoArray) = some false)
    (e21k4 : PySem.W.isClsIn K CNotEnded = true) (e22k4 : PySem.W.typeIn K (.ref CNotEnded) = some (.type "type")) (e23k4 : PySem.W.subIn K (.ref CBadCrew) (.ref CNotEnded) = some false)
    (e31k4 : PySem.W.isClsIn K CNotOver = true) (e32k4 : PySem.W.typeIn K (.ref CNotOver) = some (.type "type")) (e33k4 : PySem.W.subIn K (.ref CBadCrew) (.ref CNotOver) = some false)
    (e41k4 : PySem.W.isClsIn K COutOfBounds = true) (e42k4 : PySem.W.typeIn K (.ref COutOfBounds) = some (.type "type")) (e43k4 : PySem.W.subIn K (.ref CBadCrew) (.ref COutOfBounds) = some false)
    (e51k4 : PySem.W.isClsIn K CPartOver = true) (e52k4 : PySem.W.typeIn K (.ref CPartOver) = some (.type "type")) (e53k4 : PySem.W.subIn K (.ref CBadCrew) (.ref CPartOver) = some false)
    (e61k4 : PySem.W.isClsIn K CTakenName = true) (e62k4 : PySem.W.typeIn K (.ref CTakenName) = some (.type "type")) (e63k4 : PySem.W.subIn K (.ref CBadCrew) (.ref CTakenName) = some false)
    (e71k4 : PySem.W.isClsIn K CTooLong = true) (e72k4 : PySem.W.typeIn K (.ref CTooLong) = some (.type "type")) (e73k4 : PySem.W.subIn K (.ref CBadCrew) (.ref CTooLong) = some false)
    (e81k4 : PySem.W.isClsIn K CUnknownName = true) (e82k4 : PySem.W.typeIn K (.ref CUnknownName) = some (.type "type")) (e83k4 : PySem.W.subIn K (.ref CBadCrew) (.ref CUnknownName) = some false)
    (e0kx : PySem.W.subIn K (.ref CBadCrew) (.ref CBadCrew) = some true)
    (e01kx : PySem.W.isClsIn K CCrew = true) (e02kx : PySem.W.typeIn K (.ref CCrew) = some (.type "type")) (e03kx : PySem.W.subIn K (.ref CBadCrew) (.ref CCrew) = some false)
    (Hf_sx1 : PySem.W.subIn K (.ref CBadCrew) (.ref CCrew) = some false)
    (Hf_sx2 : PySem.W.subIn K (.ref CCrew) (.ref CBadCrew) = some false)
    (Hf_mx : PySem.W.mroIn K CBadCrew (.type "object") = some true)
    (Hf_ox : PySem.W.findIn K (.ref CBadCrew) "__eq__" = some (some (.builtin "object.__eq__")))
    (pgCrew : PySem.W.plainGet K CCrew Str.empty = true) (hdCrew : PySem.W.hasDictIn K CCrew = true) (poCrew : PySem.W.plainOver K CCrew = true) (saCrew : PySem.W.findIn K (.ref CCrew) "__setattr__" = some (some (.builtin "object.__setattr__")))
    (nCrew_height : PySem.W.findIn K (.ref CCrew) "height" = some none)
    (nCrew_seats : PySem.W.findIn K (.ref CCrew) "seats" = some none)
    (nCrew_leanings : PySem.W.findIn K (.ref CCrew) "leanings" = some none)
    (qMOST_HEIGHT : PySem.W.nsIn K mainGlobals "MOST_HEIGHT" = some (some (.int 4 tMOST_HEIGHT)))
    (qMOST_WORKERS : PySem.W.nsIn K mainGlobals "MOST_WORKERS" = some (some (.int 16 tMOST_WORKERS)))
    (zint : PySem.W.nsIn K mainGlobals "int" = some none)
    (zmin : PySem.W.nsIn K mainGlobals "min" = some none)
    (zrange : PySem.W.nsIn K mainGlobals "range" = some none)
    (zlen : PySem.W.nsIn K mainGlobals "len" = some none)
    (zall : PySem.W.nsIn K mainGlobals "all" = some none)
    (ztuple : PySem.W.nsIn K mainGlobals "tuple" = some none)
    (zlist : PySem.W.nsIn K mainGlobals "list" = some none)
    (zisinstance : PySem.W.nsIn K mainGlobals "isinstance" = some none)
    (zbool : PySem.W.nsIn K mainGlobals "bool" = some none)
    (zValueError : PySem.W.nsIn K mainGlobals "ValueError" = some none)
    (zstr : PySem.W.nsIn K mainGlobals "str" = some none) :
    ∃ fd : FuncData, (∀ (s : Shared) (v : Value), BindsTo s fd ⟨[v], []⟩ [("script", v)]) ∧ ∀ base : Heap, K.In base → base.Ns mainGlobals mg → FnOk l.prog w K mg base CX0 7 fa fd ["script"] (spLaw K) := by
  have e := hfa.symm.trans (PySem.W.mg_of X G a23)
  cases e
  have F_law_feed := fun_mk (st := s_law_feed) l0 c0 k0
  have b_law_feed := F_law_feed.binds (ps := P_law_feed) fun _ _ _ _ _ _ us hl => match us, hl with | [_], _ => rfl
  have m_law_feed := PySem.W.mg_of X G a0
  have F_law_take := fun_mk (st := s_law_take) l1 c1 k1
  have b_law_take := F_law_take.binds (ps := P_law_take) fun _ _ _ _ _ _ us hl => match us, hl with | [_, _], _ => rfl
  have m_law_take := PySem.W.mg_of X G a1
  have F_law_crew := fun_mk (st := s_law_crew) l2 c2 k2
  have b_law_crew := F_law_crew.binds (ps := P_law_crew) fun _ _ _ _ _ _ us hl => match us, hl with | [_, _, _], _ => rfl
  have m_law_crew := PySem.W.mg_of X G a2
  have F_law_rows := fun_mk (st := s_law_rows) l3 c3 k3
  have b_law_rows := F_law_rows.binds (ps := P_law_rows) fun _ _ _ _ _ _ us hl => match us, hl with | [_], _ => rfl
  have m_law_rows := PySem.W.mg_of X G a3
  have F_law_cell := fun_mk (st := s_law_cell) l4 c4 k4
  have b_law_cell := F_law_cell.binds (ps := P_law_cell) fun _ _ _ _ _ _ us hl => match us, hl with | [_, _], _ => rfl
  have m_law_cell := PySem.W.mg_of X G a4
  have F_is_height := fun_mk (st := s_is_height) l5 c5 k5
  have b_is_height := F_is_height.binds (ps := P_is_height) fun _ _ _ _ _ _ us hl => match us, hl with | [_], _ => rfl
  have m_is_height := PySem.W.mg_of X G a5
  have F_BadCrew_init := fun_mk (st := s_BadCrew_init) l6 c6 k6
  have b_BadCrew_init := F_BadCrew_init.binds (ps := P_BadCrew_init) fun _ _ _ _ _ _ us hl => match us, hl with | [_, _], _ => rfl
  have F_are_seats := fun_mk (st := s_are_seats) l7 c7 k7
  have b_are_seats := F_are_seats.binds (ps := P_are_seats) fun _ _ _ _ _ _ us hl => match us, hl with | [_, _], _ => rfl
  have m_are_seats := PySem.W.mg_of X G a7
  have F_are_leanings := fun_mk (st := s_are_leanings) l8 c8 k8
  have b_are_leanings := F_are_leanings.binds (ps := P_are_leanings) fun _ _ _ _ _ _ us hl => match us, hl with | [_, _], _ => rfl
  have m_are_leanings := PySem.W.mg_of X G a8
  have F_Crew_init := fun_mk (st := s_Crew_init) l9 c9 k9
  have b_Crew_init := F_Crew_init.binds (ps := P_Crew_init) fun _ _ _ _ _ _ us hl => match us, hl with | [_, _, _, _], _ => rfl
  have F_law_made := fun_mk (st := s_law_made) l10 c10 k10
  have b_law_made := F_law_made.binds (ps := P_law_made) fun _ _ _ _ _ _ us hl => match us, hl with | [_, _], _ => rfl
  have m_law_made := PySem.W.mg_of X G a10
  have F_law_whole := fun_mk (st := s_law_whole) l11 c11 k11
  have b_law_whole := F_law_whole.binds (ps := P_law_whole) fun _ _ _ _ _ _ us hl => match us, hl with | [_], _ => rfl
  have m_law_whole := PySem.W.mg_of X G a11
  have F_law_is_row := fun_mk (st := s_law_is_row) l12 c12 k12
  have b_law_is_row := F_law_is_row.binds (ps := P_law_is_row) fun _ _ _ _ _ _ us hl => match us, hl with | [_, _], _ => rfl
  have m_law_is_row := PySem.W.mg_of X G a12
  have F_Crew_workers := fun_mk (st := s_Crew_workers) l13 c13 k13
  have b_Crew_workers := F_Crew_workers.binds (ps := P_Crew_workers) fun _ _ _ _ _ _ us hl => match us, hl with | [_], _ => rfl
  have F_Crew_leaves := fun_mk (st := s_Crew_leaves) l14 c14 k14
  have b_Crew_leaves := F_Crew_leaves.binds (ps := P_Crew_leaves) fun _ _ _ _ _ _ us hl => match us, hl with | [_], _ => rfl
  have F_law_is_crew := fun_mk (st := s_law_is_crew) l15 c15 k15
  have b_law_is_crew := F_law_is_crew.binds (ps := P_law_is_crew) fun _ _ _ _ _ _ us hl => match us, hl with | [_, _], _ => rfl
  have m_law_is_crew := PySem.W.mg_of X G a15
  have F_law_changed_seat := fun_mk (st := s_law_changed_seat) l16 c16 k16
  have b_law_changed_seat := F_law_changed_seat.binds (ps := P_law_changed_seat) fun _ _ _ _ _ _ us hl => match us, hl with | [_, _], _ => rfl
  have m_law_changed_seat := PySem.W.mg_of X G a16
  have F_law_joined := fun_mk (st := s_law_joined) l17 c17 k17
  have b_law_joined := F_law_joined.binds (ps := P_law_joined) fun _ _ _ _ _ _ us hl => match us, hl with | [_, _, _, _, _], _ => rfl
  have m_law_joined := PySem.W.mg_of X G a17
  have F_law_changed_row := fun_mk (st := s_law_changed_row) l18 c18 k18
  have b_law_changed_row := F_law_changed_row.binds (ps := P_law_changed_row) fun _ _ _ _ _ _ us hl => match us, hl with | [_, _, _], _ => rfl
  have m_law_changed_row := PySem.W.mg_of X G a18
  have F_law_changed := fun_mk (st := s_law_changed) l19 c19 k19
  have b_law_changed := F_law_changed.binds (ps := P_law_changed) fun _ _ _ _ _ _ us hl => match us, hl with | [_, _], _ => rfl
  have m_law_changed := PySem.W.mg_of X G a19
  have F_law_field := fun_mk (st := s_law_field) l20 c20 k20
  have b_law_field := F_law_field.binds (ps := P_law_field) fun _ _ _ _ _ _ us hl => match us, hl with | [_], _ => rfl
  have m_law_field := PySem.W.mg_of X G a20
  have F_law_refuses := fun_mk (st := s_law_refuses) l21 c21 k21
  have b_law_refuses := F_law_refuses.binds (ps := P_law_refuses) fun _ _ _ _ _ _ us hl => match us, hl with | [_, _, _], _ => rfl
  have m_law_refuses := PySem.W.mg_of X G a21
  have F_Crew_eq := fun_mk (st := s_Crew_eq) l22 c22 k22
  have b_Crew_eq := F_Crew_eq.binds (ps := P_Crew_eq) fun _ _ _ _ _ _ us hl => match us, hl with | [_, _], _ => rfl
  have F_law := fun_mk (st := s_law) l23 c23 k23
  have b_law := F_law.binds (ps := P_law) fun _ _ _ _ _ _ us hl => match us, hl with | [_], _ => rfl
  have m_law := PySem.W.mg_of X G a23
  have mint := PySem.W.mg_none_of X G zint
  have mmin := PySem.W.mg_none_of X G zmin
  have mrange := PySem.W.mg_none_of X G zrange
  have mlen := PySem.W.mg_none_of X G zlen
  have mall := PySem.W.mg_none_of X G zall
  have mtuple := PySem.W.mg_none_of X G ztuple
  have mlist := PySem.W.mg_none_of X G zlist
  have misinstance := PySem.W.mg_none_of X G zisinstance
  have mbool := PySem.W.mg_none_of X G zbool
  have mValueError := PySem.W.mg_none_of X G zValueError
  have mstr := PySem.W.mg_none_of X G zstr
  have mMOST_HEIGHT := PySem.W.mg_of X G qMOST_HEIGHT
  have mMOST_WORKERS := PySem.W.mg_of X G qMOST_WORKERS
  have mcBadCrew := PySem.W.mg_of X G aCBadCrew
  have mcBadExpression := PySem.W.mg_of X G aCBadExpression
  have mcBadLine := PySem.W.mg_of X G aCBadLine
  have mcBadRound := PySem.W.mg_of X G aCBadRound
  have mcBadStorm := PySem.W.mg_of X G aCBadStorm
  have mcBadTable := PySem.W.mg_of X G aCBadTable
  have mcBadText := PySem.W.mg_of X G aCBadText
  have mcCrew := PySem.W.mg_of X G aCCrew
  have mcDisagree := PySem.W.mg_of X G aCDisagree
  have mcEndlessTable := PySem.W.mg_of X G aCEndlessTable
  have mcHasNotes := PySem.W.mg_of X G aCHasNotes
  have mcNeedsRule := PySem.W.mg_of X G aCNeedsRule
  have mcNoArray := PySem.W.mg_of X G aCNoArray
  have mcNotEnded := PySem.W.mg_of X G aCNotEnded
  have mcNotOver := PySem.W.mg_of X G aCNotOver
  have mcOutOfBounds := PySem.W.mg_of X G aCOutOfBounds
  have mcPartOver := PySem.W.mg_of X G aCPartOver
  have mcStillError := PySem.W.mg_of X G aCStillError
  have mcTakenName := PySem.W.mg_of X G aCTakenName
  have mcTooLong := PySem.W.mg_of X G aCTooLong
  have mcUnknownName := PySem.W.mg_of X G aCUnknownName
  have Hf_kq : PySem.W.kitOne K (.ref CCrew) (.ref CCrew) = some true := kit_same
  have Hf_k1 : PySem.W.kitOne K (.ref CBadCrew) (.ref CBadCrew) = some true := kit_same
  have Hf_k2 : PySem.W.kitOne K (.ref CBadCrew) (.type "ValueError") = some true := kit_ty (by decide) e1k2
  have Hf_k3 : PySem.W.kitAny K (.ref CBadCrew) [.ref CBadExpression, .ref CBadLine, .ref CBadRound, .ref CBadStorm, .ref CBadTable, .ref CBadText, .ref CDisagree, .ref CEndlessTable, .ref CHasNotes] = some false := (kit_anyF (kit_ref e01k3 e02k3 e03k3 e0k3) (kit_anyF (kit_ref e11k3 e12k3 e13k3 e0k3) (kit_anyF (kit_ref e21k3 e22k3 e23k3 e0k3) (kit_anyF (kit_ref e31k3 e32k3 e33k3 e0k3) (kit_anyF (kit_ref e41k3 e42k3 e43k3 e0k3) (kit_anyF (kit_ref e51k3 e52k3 e53k3 e0k3) (kit_anyF (kit_ref e61k3 e62k3 e63k3 e0k3) (kit_anyF (kit_ref e71k3 e72k3 e73k3 e0k3) (kit_anyF (kit_ref e81k3 e82k3 e83k3 e0k3) kit_any0)))))))))
  have Hf_k4 : PySem.W.kitAny K (.ref CBadCrew) [.ref CNeedsRule, .ref CNoArray, .ref CNotEnded, .ref CNotOver, .ref COutOfBounds, .ref CPartOver, .ref CTakenName, .ref CTooLong, .ref CUnknownName] = some false := (kit_anyF (kit_ref e01k4 e02k4 e03k4 e0k4) (kit_anyF (kit_ref e11k4 e12k4 e13k4 e0k4) (kit_anyF (kit_ref e21k4 e22k4 e23k4 e0k4) (kit_anyF (kit_ref e31k4 e32k4 e33k4 e0k4) (kit_anyF (kit_ref e41k4 e42k4 e43k4 e0k4) (kit_anyF (kit_ref e51k4 e52k4 e53k4 e0k4) (kit_anyF (kit_ref e61k4 e62k4 e63k4 e0k4) (kit_anyF (kit_ref e71k4 e72k4 e73k4 e0k4) (kit_anyF (kit_ref e81k4 e82k4 e83k4 e0k4) kit_any0)))))))))
  have Hf_kx : PySem.W.kitOne K (.ref CBadCrew) (.ref CCrew) = some false := (kit_ref e01kx e02kx e03kx e0kx)
  have Hf_xm := PySem.W.exm_ref e1xm e2xm e3xm e4xm
  have OE_BadCrew : OexC K CBadCrew := ⟨⟨_, _, _, _, _, _, _, _, _, _, _, _, _, _, _, xLBadCrew, by rfl⟩, sxBadCrew, exBadCrew, txBadCrew, kxBadCrew⟩
  have OF_BadCrew : OexF K CBadCrew ["field"] := ⟨OE_BadCrew, fun f hf => by
    simp only [List.mem_cons, List.not_mem_nil, or_false] at hf
    rcases hf with rfl
    · exact nxBadCrew_field⟩
  have Z_BadCrew : XC K CBadCrew := ⟨ixBadCrew, ⟨gxBadCrew, hxBadCrew, exBadCrew, dxBadCrew⟩, cxBadCrew, uxBadCrew, vxBadCrew, mxBadCrew⟩
  have TCrew : CTCrew K CCrew := ⟨⟨pgCrew, hdCrew, poCrew, saCrew⟩, nCrew_height, nCrew_seats, nCrew_leanings⟩
  refine ⟨PySem.W.fnOf "law" "law" (defArgs s_law) (defBody s_law) (defScope s_law) .none kV23 dc23 pm23 an23 cd23 ct23, fun s v => .of_eq rfl, fun base _ _ => ?_⟩
  have O_law_feed : Ok l.prog w K mg base 1 "_law_feed" P_law_feed spFeed := ⟨_, _, ok_law_feed (k := 0) F_law_feed mint, b_law_feed, k0, m_law_feed⟩
  have O_law_take : Ok l.prog w K mg base 1 "_law_take" P_law_take spTake := ⟨_, _, ok_law_take (k := 0) F_law_take mint, b_law_take, k1, m_law_take⟩
  have O_law_crew : Ok l.prog w K mg base 2 "_law_crew" P_law_crew (spW K [.fe, .pu, .pu] wp_law_crew) := ⟨_, _, ok_law_crew (k := 1) F_law_crew (O_law_take.mono (by decide)) mmin mrange, b_law_crew, k2, m_law_crew⟩
  have O_law_rows : Ok l.prog w K mg base 3 "_law_rows" P_law_rows (spW K [.pu] wp_law_rows) := ⟨_, _, ok_law_rows (k := 2) F_law_rows (O_law_feed.mono (by decide)) (O_law_take.mono (by decide)) (O_law_crew.mono (by decide)), b_law_rows, k3, m_law_rows⟩
  have O_law_cell : Ok l.prog w K mg base 1 "_law_cell" P_law_cell (spCellv K) := ⟨_, _, ok_law_cell (k := 0) F_law_cell mlen mint, b_law_cell, k4, m_law_cell⟩
  have O_is_height : Ok l.prog w K mg base 1 "_is_height" P_is_height (spW K [.pu] wp_is_height) := ⟨_, _, ok_is_height (k := 0) F_is_height mMOST_HEIGHT, b_is_height, k5, m_is_height⟩
  have X_BadCrew : OkX l.prog w K mg base 2 CBadCrew "BadCrew" P_BadCrew_init ["field"] := ⟨OE_BadCrew, ⟨1, f6, _, by decide, a6, ti6, ok_BadCrew_init (k := 0) F_BadCrew_init OF_BadCrew, b_BadCrew_init⟩, mcBadCrew⟩
  have O_are_seats : Ok l.prog w K mg base 1 "_are_seats" P_are_seats (spW K [.pu, .pu] wp_are_seats) := ⟨_, _, ok_are_seats (k := 0) F_are_seats mall mlen mMOST_WORKERS, b_are_seats, k7, m_are_seats⟩
  have O_are_leanings : Ok l.prog w K mg base 1 "_are_leanings" P_are_leanings (spW K [.pu, .pu] wp_are_leanings) := ⟨_, _, ok_are_leanings (k := 0) F_are_leanings mall mlen, b_are_leanings, k8, m_are_leanings⟩
  have NRCrew : OkNewR l.prog w K mg base 4 CCrew "Crew" P_Crew_init (spW K [.mt, .pu, .pu, .pu] (wp_crew CCrew CBadCrew)) := ⟨3, f9, _, by decide, ⟨mk9, a9, i9, kc9⟩, ok_Crew_init (k := 2) F_Crew_init (O_is_height.mono (by decide)) (X_BadCrew.mono (by decide)) (O_are_seats.mono (by decide)) mall (O_are_leanings.mono (by decide)) mlen mtuple TCrew, b_Crew_init, mcCrew⟩
  have NKRCrew : OkNewKR l.prog w K mg base 4 CCrew "Crew" P_Crew_init ["leanings", "height", "seats"] (spW K [.mt, .pu, .pu, .pu] (wp_crew CCrew CBadCrew)) := ⟨3, f9, _, by decide, ⟨mk9, a9, i9, kc9⟩, ok_Crew_init (k := 2) F_Crew_init (O_is_height.mono (by decide)) (X_BadCrew.mono (by decide)) (O_are_seats.mono (by decide)) mall (O_are_leanings.mono (by decide)) mlen mtuple TCrew, (fun s x ws _ hl => by
    match ws, hl with
    | [a, b, c], _ => exact .of_eq rfl), rfl, mcCrew⟩
  have R__law_made : OkR l.prog w K mg base 5 "_law_made" P_law_made (spW K [.pu, .pu] (wp_law_made CCrew CBadCrew)) := ⟨_, _, ok_law_made (k := 4) F_law_made mlist (NRCrew.mono (by decide)) mtuple (NKRCrew.mono (by decide)) TCrew, b_law_made, k10, m_law_made⟩
  have O_law_whole : Ok l.prog w K mg base 1 "_law_whole" P_law_whole (spW K [.pu] wp_law_whole) := ⟨_, _, ok_law_whole (k := 0) F_law_whole misinstance mbool mint, b_law_whole, k11, m_law_whole⟩
  have O_law_is_row : Ok l.prog w K mg base 2 "_law_is_row" P_law_is_row (spW K [.pu, .pu] wp_law_is_row) := ⟨_, _, ok_law_is_row (k := 1) F_law_is_row mlist misinstance mtuple (O_law_whole.mono (by decide)), b_law_is_row, k12, m_law_is_row⟩
  have OP_workers : OkProp l.prog w K mg base 2 CCrew "workers" (spW K [.pu] (wp_workers CCrew)) := ⟨1, p13, f13, _, by decide, ⟨a13, g13, h13, ⟨rs13, r13⟩⟩, ok_Crew_workers (k := 0) F_Crew_workers mlen TCrew, b_Crew_workers⟩
  have OP_leaves : OkProp l.prog w K mg base 2 CCrew "leaves" (spW K [.pu] (wp_leaves CCrew)) := ⟨1, p14, f14, _, by decide, ⟨a14, g14, h14, ⟨rs14, r14⟩⟩, ok_Crew_leaves (k := 0) F_Crew_leaves TCrew, b_Crew_leaves⟩
  have O_law_is_crew : Ok l.prog w K mg base 3 "_law_is_crew" P_law_is_crew (spW K [.pu, .pu] (wp_law_is_crew CCrew)) := ⟨_, _, ok_law_is_crew (k := 2) F_law_is_crew TCrew (O_law_whole.mono (by decide)) misinstance mcCrew (O_law_is_row.mono (by decide)) mlen mtuple mrange (OP_workers.mono (by decide)) (OP_leaves.mono (by decide)) Hf_kq Hf_ca Hf_cg Hf_ct Hf_cm, b_law_is_crew, k15, m_law_is_crew⟩
  have O_law_changed_seat : Ok l.prog w K mg base 2 "_law_changed_seat" P_law_changed_seat (spW K [.fe, .pu] wp_law_changed_seat) := ⟨_, _, ok_law_changed_seat (k := 1) F_law_changed_seat (O_law_take.mono (by decide)), b_law_changed_seat, k16, m_law_changed_seat⟩
  have O_law_joined : Ok l.prog w K mg base 2 "_law_joined" P_law_joined (spW K [.fe, .mt, .mt, .pu, .pu] wp_law_joined) := ⟨_, _, ok_law_joined (k := 1) F_law_joined mrange mlen (O_law_take.mono (by decide)), b_law_joined, k17, m_law_joined⟩
  have O_law_changed_row : Ok l.prog w K mg base 2 "_law_changed_row" P_law_changed_row (spW K [.fe, .pu, .pu] wp_law_changed_row) := ⟨_, _, ok_law_changed_row (k := 1) F_law_changed_row (O_law_take.mono (by decide)) mlist mlen, b_law_changed_row, k18, m_law_changed_row⟩
  have O_law_changed : Ok l.prog w K mg base 3 "_law_changed" P_law_changed (spW K [.pu, .pu] wp_law_changed) := ⟨_, _, ok_law_changed (k := 2) F_law_changed (O_law_feed.mono (by decide)) mlen mlist mrange (O_law_take.mono (by decide)) (O_law_changed_seat.mono (by decide)) (O_law_joined.mono (by decide)) (O_law_changed_row.mono (by decide)), b_law_changed, k19, m_law_changed⟩
  have O_law_field : Ok l.prog w K mg base 1 "_law_field" P_law_field (spW K [.pu] wp_law_field) := ⟨_, _, ok_law_field (k := 0) F_law_field mlen, b_law_field, k20, m_law_field⟩
  have O_law_refuses : Ok l.prog w K mg base 6 "_law_refuses" P_law_refuses (spW K [.pu, .pu, .pu] wp_law_refuses) := ⟨_, _, ok_law_refuses (k := 5) F_law_refuses mcStillError (R__law_made.mono (by decide)) misinstance mValueError mcBadCrew mcHasNotes mcEndlessTable mcDisagree mcBadText mcBadTable mcBadStorm mcBadRound mcBadLine mcBadExpression mcUnknownName mcTooLong mcTakenName mcPartOver mcOutOfBounds mcNotOver mcNotEnded mcNoArray mcNeedsRule Z_BadCrew OF_BadCrew mstr Hf_xm Hf_k1 Hf_k2 Hf_k3 Hf_k4, b_law_refuses, k21, m_law_refuses⟩
  have E_Crew : OkEq l.prog w K mg base 1 CCrew (spW K [.pu, .pu] (wp_crew_eq CCrew)) := ⟨f22, _, ok_Crew_eq (k := 0) F_Crew_eq misinstance mcCrew TCrew Hf_kq Hf_ca Hf_cg Hf_ct Hf_cm, a22, i22, b_Crew_eq⟩
  have EX_Crew_BadCrew : OkEqX l.prog w K mg base 1 CCrew CBadCrew := ⟨⟨f22, _, ok_Crew_eqX (k := 0) F_Crew_eq misinstance mcCrew Z_BadCrew TCrew Hf_kx, a22, i22, b_Crew_eq⟩, Hf_sx1, Hf_sx2, Hf_mx, Hf_ox⟩
  exact ok_law (k := 6) F_law (O_law_rows.mono (by decide)) (O_law_cell.mono (by decide)) mint (R__law_made.mono (by decide)) (O_law_is_crew.mono (by decide)) mlist mrange mlen (O_law_changed.mono (by decide)) (O_law_field.mono (by decide)) (O_law_refuses.mono (by decide)) (E_Crew.mono (by decide)) (X_BadCrew.mono (by decide)) (EX_Crew_BadCrew.mono (by decide)) TCrew Hf_kx Hf_sx1 Hf_sx2 Hf_mx Hf_ox
end K26
open PySem PySem.W PyProof.Rows
set_option maxRecDepth 100000 in
set_option maxHeartbeats 0 in
theorem PySem.Challenge.cw_stillinstep_k26_crews_checked_holds : PySem.Challenge.rw_stillinstep_k26_crews_checked.Holds := by
  w_on; o_law; k_head; (case hw => w_witness2)
  k_fill
  refine L2.walk_of (l := PySem.Challenge.rw_stillinstep_k26_crews_checked) (n := 63) (k := 7) (x := "script") (CX := fun _ => L2.CX0) (sp := fun w => K26.spLaw _) rfl (by decide) rfl ⟨rfl, by decide, by decide⟩ (fun w h Y => PySem.W.kIn_of Y) ?F (fun _ _ a ns hl _ hS => ⟨a, ns, rfl, hS, hl, fun _ => rfl⟩) (fun _ _ _ _ _ h => h)
  case F =>
    intro w mg fa h KX G hmg
    refine' K26.all_mk KX G hmg ?aCBadCrew ?aCBadExpression ?aCBadLine ?aCBadRound ?aCBadStorm ?aCBadTable ?aCBadText ?aCCrew ?aCDisagree ?aCEndlessTable ?aCHasNotes ?aCNeedsRule ?aCNoArray ?aCNotEnded ?aCNotOver ?aCOutOfBounds ?aCPartOver ?aCStillError ?aCTakenName ?aCTooLong ?aCUnknownName ?a0 ?l0 ?c0 ?k0 ?a1 ?l1 ?c1 ?k1 ?a2 ?l2 ?c2 ?k2 ?a3 ?l3 ?c3 ?k3 ?a4 ?l4 ?c4 ?k4 ?a5 ?l5 ?c5 ?k5 ?a6 ?ti6 ?l6 ?c6 ?k6 ?a7 ?l7 ?c7 ?k7 ?a8 ?l8 ?c8 ?k8 ?a9 ?i9 ?mk9 ?kc9 ?l9 ?c9 ?k9 ?a10 ?l10 ?c10 ?k10 ?a11 ?l11 ?c11 ?k11 ?a12 ?l12 ?c12 ?k12 ?a13 ?g13 ?h13 ?r13 ?l13 ?c13 ?k13 ?a14 ?g14 ?h14 ?r14 ?l14 ?c14 ?k14 ?a15 ?l15 ?c15 ?k15 ?a16 ?l16 ?c16 ?k16 ?a17 ?l17 ?c17 ?k17 ?a18 ?l18 ?c18 ?k18 ?a19 ?l19 ?c19 ?k19 ?a20 ?l20 ?c20 ?k20 ?a21 ?l21 ?c21 ?k21 ?a22 ?i22 ?l22 ?c22 ?k22 ?a23 ?l23 ?c23 ?k23 ?xLBadCrew ?sxBadCrew ?gxBadCrew ?hxBadCrew ?exBadCrew ?txBadCrew ?kxBadCrew ?dxBadCrew ?ixBadCrew ?cxBadCrew ?uxBadCrew ?vxBadCrew ?mxBadCrew ?nxBadCrew_field ?Hf_ca ?Hf_cg ?Hf_ct ?Hf_cm ?e1xm ?e2xm ?e3xm ?e4xm ?e1k2 ?e0k3 ?e01k3 ?e02k3 ?e03k3 ?e11k3 ?e12k3 ?e13k3 ?e21k3 ?e22k3 ?e23k3 ?e31k3 ?e32k3 ?e33k3 ?e41k3 ?e42k3 ?e43k3 ?e51k3 ?e52k3 ?e53k3 ?e61k3 ?e62k3 ?e63k3 ?e71k3 ?e72k3 ?e73k3 ?e81k3 ?e82k3 ?e83k3 ?e0k4 ?e01k4 ?e02k4 ?e03k4 ?e11k4 ?e12k4 ?e13k4 ?e21k4 ?e22k4 ?e23k4 ?e31k4 ?e32k4 ?e33k4 ?e41k4 ?e42k4 ?e43k4 ?e51k4 ?e52k4 ?e53k4 ?e61k4 ?e62k4 ?e63k4 ?e71k4 ?e72k4 ?e73k4 ?e81k4 ?e82k4 ?e83k4 ?e0kx ?e01kx ?e02kx ?e03kx ?Hf_sx1 ?Hf_sx2 ?Hf_mx ?Hf_ox ?pgCrew ?hdCrew ?poCrew ?saCrew ?nCrew_height ?nCrew_seats ?nCrew_leanings ?qMOST_HEIGHT ?qMOST_WORKERS ?zint ?zmin ?zrange ?zlen ?zall ?ztuple ?zlist ?zisinstance ?zbool ?zValueError ?zstr
    (case aCBadCrew => k_is)
    (case aCBadExpression => k_is)
    (case aCBadLine => k_is)
    (case aCBadRound => k_is)
    (case aCBadStorm => k_is)
    (case aCBadTable => k_is)
    (case aCBadText => k_is)
    (case aCCrew => k_is)
    (case aCDisagree => k_is)
    (case aCEndlessTable => k_is)
    (case aCHasNotes => k_is)
    (case aCNeedsRule => k_is)
    (case aCNoArray => k_is)
    (case aCNotEnded => k_is)
    (case aCNotOver => k_is)
    (case aCOutOfBounds => k_is)
    (case aCPartOver => k_is)
    (case aCStillError => k_is)
    (case aCTakenName => k_is)
    (case aCTooLong => k_is)
    (case aCUnknownName => k_is)
    (case a0 => k_is)
    (case l0 => k_is)
    (case c0 => k_is)
    (case k0 => k_is)
    (case a1 => k_is)
    (case l1 => k_is)
    (case c1 => k_is)
    (case k1 => k_is)
    (case a2 => k_is)
    (case l2 => k_is)
    (case c2 => k_is)
    (case k2 => k_is)
    (case a3 => k_is)
    (case l3 => k_is)
    (case c3 => k_is)
    (case k3 => k_is)
    (case a4 => k_is)
    (case l4 => k_is)
    (case c4 => k_is)
    (case k4 => k_is)
    (case a5 => k_is)
    (case l5 => k_is)
    (case c5 => k_is)
    (case k5 => k_is)
    (case a6 => k_is)
    (case ti6 => k_is)
    (case l6 => k_is)
    (case c6 => k_is)
    (case k6 => k_is)
    (case a7 => k_is)
    (case l7 => k_is)
    (case c7 => k_is)
    (case k7 => k_is)
    (case a8 => k_is)
    (case l8 => k_is)
    (case c8 => k_is)
    (case k8 => k_is)
    (case a9 => k_is)
    (case i9 => k_is)
    (case mk9 => k_is)
    (case kc9 => k_is)
    (case l9 => k_is)
    (case c9 => k_is)
    (case k9 => k_is)
    (case a10 => k_is)
    (case l10 => k_is)
    (case c10 => k_is)
    (case k10 => k_is)
    (case a11 => k_is)
    (case l11 => k_is)
    (case c11 => k_is)
    (case k11 => k_is)
    (case a12 => k_is)
    (case l12 => k_is)
    (case c12 => k_is)
    (case k12 => k_is)
    (case a13 => k_is)
    (case g13 => k_is)
    (case h13 => k_is)
    (case r13 => k_is)
    (case l13 => k_is)
    (case c13 => k_is)
    (case k13 => k_is)
    (case a14 => k_is)
    (case g14 => k_is)
    (case h14 => k_is)
    (case r14 => k_is)
    (case l14 => k_is)
    (case c14 => k_is)
    (case k14 => k_is)
    (case a15 => k_is)
    (case l15 => k_is)
    (case c15 => k_is)
    (case k15 => k_is)
    (case a16 => k_is)
    (case l16 => k_is)
    (case c16 => k_is)
    (case k16 => k_is)
    (case a17 => k_is)
    (case l17 => k_is)
    (case c17 => k_is)
    (case k17 => k_is)
    (case a18 => k_is)
    (case l18 => k_is)
    (case c18 => k_is)
    (case k18 => k_is)
    (case a19 => k_is)
    (case l19 => k_is)
    (case c19 => k_is)
    (case k19 => k_is)
    (case a20 => k_is)
    (case l20 => k_is)
    (case c20 => k_is)
    (case k20 => k_is)
    (case a21 => k_is)
    (case l21 => k_is)
    (case c21 => k_is)
    (case k21 => k_is)
    (case a22 => k_is)
    (case i22 => k_is)
    (case l22 => k_is)
    (case c22 => k_is)
    (case k22 => k_is)
    (case a23 => k_is)
    (case l23 => k_is)
    (case c23 => k_is)
    (case k23 => k_is)
    (case xLBadCrew => k_is)
    (case sxBadCrew => k_is)
    (case gxBadCrew => k_is)
    (case hxBadCrew => k_is)
    (case exBadCrew => k_is)
    (case txBadCrew => k_is)
    (case kxBadCrew => k_is)
    (case dxBadCrew => k_is)
    (case ixBadCrew => k_is)
    (case cxBadCrew => k_is)
    (case uxBadCrew => k_is)
    (case vxBadCrew => k_is)
    (case mxBadCrew => k_is)
    (case nxBadCrew_field => k_is)
    (case Hf_ca => k_is)
    (case Hf_cg => k_is)
    (case Hf_ct => k_is)
    (case Hf_cm => k_is)
    (case e1xm => k_is)
    (case e2xm => k_is)
    (case e3xm => k_is)
    (case e4xm => k_is)
    (case e1k2 => k_is)
    (case e0k3 => k_is)
    (case e01k3 => k_is)
    (case e02k3 => k_is)
    (case e03k3 => k_is)
    (case e11k3 => k_is)
    (case e12k3 => k_is)
    (case e13k3 => k_is)
    (case e21k3 => k_is)
    (case e22k3 => k_is)
    (case e23k3 => k_is)
    (case e31k3 => k_is)
    (case e32k3 => k_is)
    (case e33k3 => k_is)
    (case e41k3 => k_is)
    (case e42k3 => k_is)
    (case e43k3 => k_is)
    (case e51k3 => k_is)
    (case e52k3 => k_is)
    (case e53k3 => k_is)
    (case e61k3 => k_is)
    (case e62k3 => k_is)
    (case e63k3 => k_is)
    (case e71k3 => k_is)
    (case e72k3 => k_is)
    (case e73k3 => k_is)
    (case e81k3 => k_is)
    (case e82k3 => k_is)
    (case e83k3 => k_is)
    (case e0k4 => k_is)
    (case e01k4 => k_is)
    (case e02k4 => k_is)
    (case e03k4 => k_is)
    (case e11k4 => k_is)
    (case e12k4 => k_is)
    (case e13k4 => k_is)
    (case e21k4 => k_is)
    (case e22k4 => k_is)
    (case e23k4 => k_is)
    (case e31k4 => k_is)
    (case e32k4 => k_is)
    (case e33k4 => k_is)
    (case e41k4 => k_is)
    (case e42k4 => k_is)
    (case e43k4 => k_is)
    (case e51k4 => k_is)
    (case e52k4 => k_is)
    (case e53k4 => k_is)
    (case e61k4 => k_is)
    (case e62k4 => k_is)
    (case e63k4 => k_is)
    (case e71k4 => k_is)
    (case e72k4 => k_is)
    (case e73k4 => k_is)
    (case e81k4 => k_is)
    (case e82k4 => k_is)
    (case e83k4 => k_is)
    (case e0kx => k_is)
    (case e01kx => k_is)
    (case e02kx => k_is)
    (case e03kx => k_is)
    (case Hf_sx1 => k_is)
    (case Hf_sx2 => k_is)
    (case Hf_mx => k_is)
    (case Hf_ox => k_is)
    (case pgCrew => k_is)
    (case hdCrew => k_is)
    (case poCrew => k_is)
    (case saCrew => k_is)
    (case nCrew_height => k_is)
    (case nCrew_seats => k_is)
    (case nCrew_leanings => k_is)
    (case qMOST_HEIGHT => k_is)
    (case qMOST_WORKERS => k_is)
    (case zint => k_is)
    (case zmin => k_is)
    (case zrange => k_is)
    (case zlen => k_is)
    (case zall => k_is)
    (case ztuple => k_is)
    (case zlist => k_is)
    (case zisinstance => k_is)
    (case zbool => k_is)
    (case zValueError => k_is)
    (case zstr => k_is)
