import PyProof.Rows.All
import Wide.All
import OpenK.AllK
import Wide.FinOn
import HandS.ForMost
import HandS.IsInst
import HandS.Codes
import HandS.Wide
import HandS.DictComp
import HandS.Set
import HandS.SetBool
import HandS.SetTxt0
import PySem.Challenge.RW_stillinstep_k02_words_of_expressions
set_option Elab.async false
set_option linter.all false
set_option maxRecDepth 100000
namespace Vk
open PySem L2
/-! ### a def that stands and keeps its promise, by its name -/
structure Ok (P : Program) (w : World) (K : PySem.W.Frag) (mg : Str → Option Value) (base : Heap) (k : Nat) (x : Str) (ps : List Str) (sp : Sp) : Prop where
  ex : ∃ (f : Addr) (fd : FuncData), FnOk P w K mg base CX0 k f fd ps sp ∧ Binds K fd ps [] ∧ PySem.W.keepIn K (.ref f) = true ∧ mg x = some (.ref f)
theorem Ok.mono {P w K mg base j k x ps sp} (O : Ok P w K mg base j x ps sp) (h : j ≤ k) : Ok P w K mg base k x ps sp := by
  obtain ⟨f, fd, F, r⟩ := O.ex
  exact ⟨f, fd, F.mono h, r⟩
theorem pe_c {X : Cx} {k : Nat} {ps : List Str} {sp : Sp} {x : Str} {p pos : Pos} {e : Expr} {es : List Expr} {t : TA} (O : Ok X.prog X.w X.K X.mg X.base k x ps sp) (hr : Room k X.A) (hg : Gl X x)
    (ha : PA X (e :: es) t) (hdb : (x == ("__debug__" : Str)) = false := by decide) (he : starEach (e :: es) X.env = (false, eval e X.env) :: starEach es X.env := by rfl) (hpl : (backTo pos (starEach es X.env)).any (·.1) = false := by rfl) :
    PE X (.Call (.Name x p) (e :: es) [] pos) (tCall sp [] E0 t) := by
  obtain ⟨f, fd, F, b, kp, m⟩ := O.ex
  exact pe_call F hr hg m kp b .nil pass0 ha hdb he hpl
/-- f(k = v, ..): keywords alone -/
theorem pe_kw0 {X : Cx} {k : Nat} {f : Addr} {fd : FuncData} {ps ks : List Str} {sp : Sp} {x : Str} {p pos : Pos} {kws : List Keyword} {tk : TA} {g : List Value → List Value → List Value} {gV : List V → List V → List V}
    (F : FnOk X.prog X.w X.K X.mg X.base CX0 k f fd ps sp) (hr : Room k X.A) (hg : Gl X x) (hm : X.mg x = some (.ref f)) (hk : PySem.W.keepIn X.K (.ref f) = true) (hb : KBinds X.K fd ps ks g gV) (hkw : PK X kws tk)
    (hall : (backToKw pos (keywordEach kws X.env)).all (·.1.isSome) = true := by rfl) (hks : (backToKw pos (keywordEach kws X.env)).filterMap (·.1) = ks := by rfl) (hdb : (x == ("__debug__" : Str)) = false := by decide)
    (hpl : ((backTo pos (starEach [] X.env)).any (·.1) || (backToKw pos (keywordEach kws X.env)).any (·.1.isNone)) = false := by rfl) :
    PE X (.Call (.Name x p) [] kws pos) (tCallK sp gV E0 tNil tk) := by
  refine ⟨fun pins s σ H Q I h => ?_⟩
  refine wpAny_Call_Name_kw (ld_glob I hg hm ?_ hdb)
  refine PySem.W.callWith_KW0 (h₀ := X.base) I.ok.mod.kin hk hall ?_ hpl
  refine thn (hkw.run pos pins s σ H _ I h) fun ws s2 ⟨zs, H2, I2, rz, q2⟩ => ⟨I2.kIn, ?_⟩
  rw [hks]
  exact run_fnk (us := []) (vs := []) F hr hb pass0 I2 .nil rz q2
/-- two keywords in the other order -/
def swapG {α : Type} : List α → List α → List α
  | [], [a, b] => [b, a]
  | _, _ => []
theorem kbinds_swap {K : PySem.W.Frag} {x qual a b : Str} {st : Stmt} {f : Addr} {fd : FuncData} (F : Fun K x qual st f fd)
    (h : ∀ (kV doc pm : Value) (an : Option Addr) (cdv ct : Value) (u v : Value), bindArgs (PySem.W.fnOf x qual (defArgs st) (defBody st) (defScope st) .none kV doc pm an cdv ct) ⟨[], [(b, u), (a, v)]⟩ = pure [(a, v), (b, u)]) : KBinds K fd [a, b] [b, a] swapG swapG := by
  obtain ⟨oc, od, kV, doc, pm, an, cdv, ct, osl, rfl, lk, hcd⟩ := F.ex
  refine ⟨fun s us ws _ hl => ?_, fun {vs us zs ws} r1 r2 => ?_⟩
  · match us, ws, hl with
    | [], [u, v], _ => exact .of_eq (h kV doc pm an cdv ct u v)
  · cases r1 with
    | nil =>
      cases r2 with
      | nil => exact .nil
      | cons x r3 =>
        cases r3 with
        | nil => exact .nil
        | cons y r4 =>
          cases r4 with
          | nil => exact .cons y (.cons x .nil)
          | cons z r5 => exact .nil
    | cons x r3 => exact .nil
/-! ### heaps -/
theorem same_new {H : Hp} {p : Addr} (h : H p = none) (o : HO) : Same H (upd H p o) := fun b u q => by rw [upd_ne (ne_of_none q h)]; exact q
theorem Same.tup {K : PySem.W.Frag} {H H' : Hp} {a : Addr} {xs : List V} (e : Same H H') (h : SqT K H a xs) : SqT K H' a xs := by
  rcases h with (h | ⟨o, h⟩) | h
  · exact .inl (.inl (e _ _ h))
  · exact .inl (.inr ⟨o, e _ _ h⟩)
  · exact .inr h
/-- a feed: a list of three ints -/
def Fd (H : Hp) (a : Addr) : Prop := ∃ x y z : Int, H a = some (.lst [.int x, .int y, .int z])
/-- all but the list at a is as it was -/
def Stp (a : Addr) (H H' : Hp) : Prop := (∀ b o, b ≠ a → H b = some o → H' b = some o) ∧ Fd H' a
theorem Stp.refl {a : Addr} {H : Hp} (h : Fd H a) : Stp a H H := ⟨fun _ _ _ q => q, h⟩
theorem Stp.trans {a : Addr} {H H1 H2 : Hp} (h : Stp a H H1) (g : Stp a H1 H2) : Stp a H H2 := ⟨fun b o n q => g.1 b o n (h.1 b o n q), g.2⟩
theorem Fd.same {a : Addr} {H H' : Hp} (h : Fd H a) (s : Same H H') : Fd H' a := by
  obtain ⟨x, y, z, e⟩ := h
  exact ⟨x, y, z, s _ _ e⟩
theorem Stp.same {a : Addr} {H H1 H2 : Hp} (h : Stp a H H1) (s : Same H1 H2) : Stp a H H2 := ⟨fun b o n q => s _ _ (h.1 b o n q), h.2.same s⟩
theorem Stp.of {a : Addr} {H H' : Hp} (h : Fd H a) (s : Same H H') : Stp a H H' := (Stp.refl h).same s
theorem Stp.tup {K : PySem.W.Frag} {a b : Addr} {H H' : Hp} {xs : List V} (h : Fd H a) (s : Stp a H H') (q : SqT K H b xs) : SqT K H' b xs := by
  obtain ⟨x, y, z, e⟩ := h
  rcases q with (q | ⟨o, q⟩) | q
  · exact .inl (.inl (s.1 _ _ (ne_of q e (by intro z; cases z)) q))
  · exact .inl (.inr ⟨o, s.1 _ _ (ne_of q e (by intro z; cases z)) q⟩)
  · exact .inr q
/-- tuples stay -/
def Tu (K : PySem.W.Frag) (H H' : Hp) : Prop := ∀ b xs, SqT K H b xs → SqT K H' b xs
theorem Same.tu {K : PySem.W.Frag} {H H' : Hp} (e : Same H H') : Tu K H H' := fun _ _ h => Vk.Same.tup e h
theorem Stp.tu {K : PySem.W.Frag} {a : Addr} {H H' : Hp} (s : Stp a H H') (h : Fd H a) : Tu K H H' := fun _ _ q => s.tup h q
theorem Tu.trans {K : PySem.W.Frag} {H H1 H2 : Hp} (a : Tu K H H1) (b : Tu K H1 H2) : Tu K H H2 := fun _ _ q => b _ _ (a _ _ q)
theorem Tu.refl {K : PySem.W.Frag} {H : Hp} : Tu K H H := fun _ _ q => q
/-! ### places -/
theorem atI_in {α : Type} {xs : List α} {i : Int} (h0 : 0 ≤ i) (h : i < xs.length) : ∃ v, v ∈ xs ∧ atI xs i = some v := by
  have hk : i.toNat < xs.length := by omega
  have ek : ((i.toNat : Nat) : Int) = i := by omega
  have q : atI xs ((i.toNat : Nat) : Int) = some (xs[i.toNat]) := atI_nat (List.getElem?_eq_getElem hk)
  rw [ek] at q
  exact ⟨xs[i.toNat], List.getElem_mem hk, q⟩
/-! ### the draws -/
def spTake : Sp := fun vs H Q _ => ∃ (a : Addr) (n : Int), vs = [.ref a, .int n] ∧ Fd H a ∧ 0 < n ∧ n < 1073741824 ∧ ∀ r H', 0 ≤ r → r < n → Stp a H H' → Q (.int r) H'
def spFeed : Sp := fun vs H Q _ => ∃ (n : Int), vs = [.int n] ∧ ∀ p H', Same H H' → H p = none → Fd H' p → Q (.ref p) H'
def spCellv (K : PySem.W.Frag) : Sp := fun vs H Q _ => ∃ (a : Addr) (ns : List Int) (k : Int), vs = [.ref a, .int k] ∧ SqL K H a (ns.map V.int) ∧ 0 ≤ k ∧ k < 1000 ∧ ∀ n : Int, Q (.int n) H
theorem fmod_lo {a b : Int} (h : 0 < b) : 0 ≤ a.fmod b := Int.fmod_nonneg_of_pos a h
theorem fmod_hi {a b : Int} (h : 0 < b) : a.fmod b < b := Int.fmod_lt_of_pos a h
theorem ite2' {c A B : Prop} [Decidable c] (h1 : c → A) (h2 : ¬ c → B) : if decide c = true then A else B := ite2 (fun h => h1 (of_decide_eq_true h)) (fun h => h2 (fun z => h (decide_eq_true z)))
theorem execs_app (xs ys : List Stmt) (env : Env) : execs (xs ++ ys) env = (execs xs env >>= fun f => match f with | .next => execs ys env | f => pure f) := by
  induction xs with
  | nil =>
    show execs ys env = (pure Flow.next >>= _)
    rw [pure_bind]
  | cons st rest ih =>
    show (exec st env >>= fun f => match f with | .next => execs (rest ++ ys) env | f => pure f) = ((exec st env >>= fun f => match f with | .next => execs rest env | f => pure f) >>= _)
    rw [bind_assoc]
    refine congrArg _ (funext fun f => ?_)
    cases f with
    | next => exact ih
    | ret v => exact (pure_bind _ _).symm
    | brk => exact (pure_bind _ _).symm
    | cont => exact (pure_bind _ _).symm
/-- a block cut behind its first n statements: what follows is shown once, from Mid -/
theorem pss_cutAt {X : Cx} {l : List Stmt} {t u : TS} (n : Nat) (h1 : PSs X (l.take n) t) (h2 : PSs X (l.drop n) u) : PSs X l (C8.tCut t u) := by
  refine ⟨fun pins s σ H D I h => ?_⟩
  obtain ⟨Mid, hm, hu⟩ := h
  rw [← List.take_append_drop n l, execs_app]
  refine wpAny_bind (thn (h1.run pins s σ H { D with nx := Mid } I hm) fun f s1 q => ?_)
  cases f with
  | next =>
    obtain ⟨σ', H', I', q⟩ := q
    exact h2.run pins s1 σ' H' D I' (hu σ' H' q)
  | ret v => exact wpAny_pure q
  | brk => exact wpAny_pure q
  | cont => exact wpAny_pure q
/-! ### tests whose answer is known -/
theorem itY {A B : Prop} {x : V} (h : A) : if decide (x = x) = true then A else B := by rw [decide_eq_true rfl]; exact iteT h
theorem itN {A B : Prop} {x y : V} (n : x ≠ y) (h : B) : if decide (x = y) = true then A else B := by rw [decide_eq_false n]; exact iteF h
theorem itYn {A B : Prop} {x : V} (h : B) : if (!decide (x = x)) = true then A else B := by rw [decide_eq_true rfl]; exact iteF h
theorem itNn {A B : Prop} {x y : V} (n : x ≠ y) (h : A) : if (!decide (x = y)) = true then A else B := by rw [decide_eq_false n]; exact iteT h
theorem strNe {x y : Str} (h : x ≠ y) : V.str x ≠ V.str y := fun z => h (V.str.inj z)
end Vk
namespace Vk
open PySem L2
/-- expressions -/
inductive Ex where
  | num (n : Int) | nam (w : Str) | op (s : Str) (l r : Ex) | rd (w : Str) (l : Ex)
  | c1 (w : Str) (a : Ex) | c2 (w : Str) (a b : Ex) | c3 (w : Str) (a b c : Ex)
abbrev okW (w : Str) : Prop := PyData.canLay0 (.str w) = true
namespace Ex
def dep : Ex → Nat
  | num _ => 1 | nam _ => 1
  | op _ l r => max l.dep r.dep + 1
  | rd _ l => l.dep + 1
  | c1 _ a => a.dep + 1
  | c2 _ a b => max a.dep b.dep + 1
  | c3 _ a b c => max a.dep (max b.dep c.dep) + 1
def ok : Ex → Prop
  | num _ => True | nam w => okW w
  | op s l r => okW s ∧ l.ok ∧ r.ok
  | rd w l => okW w ∧ l.ok
  | c1 w a => okW w ∧ a.ok
  | c2 w a b => okW w ∧ a.ok ∧ b.ok
  | c3 w a b c => okW w ∧ a.ok ∧ b.ok ∧ c.ok
def data : Ex → PyData
  | num n => .tuple [.str "number", .int n]
  | nam w => .tuple [.str "name", .str w]
  | op s l r => .tuple [.str "op", .str s, l.data, r.data]
  | rd w l => .tuple [.str "read", .str w, l.data]
  | c1 w a => .tuple [.str "call", .str w, .tuple [a.data]]
  | c2 w a b => .tuple [.str "call", .str w, .tuple [a.data, b.data]]
  | c3 w a b c => .tuple [.str "call", .str w, .tuple [a.data, b.data, c.data]]
/-- it stands there -/
def At (K : PySem.W.Frag) (H : Hp) : Ex → V → Prop
  | num n, v => ∃ a, v = .ref a ∧ SqT K H a [.str "number", .int n]
  | nam w, v => ∃ a, v = .ref a ∧ SqT K H a [.str "name", .str w]
  | op s l r, v => ∃ a x y, v = .ref a ∧ SqT K H a [.str "op", .str s, x, y] ∧ l.At K H x ∧ r.At K H y
  | rd w l, v => ∃ a x, v = .ref a ∧ SqT K H a [.str "read", .str w, x] ∧ l.At K H x
  | c1 w l, v => ∃ a t x, v = .ref a ∧ SqT K H a [.str "call", .str w, .ref t] ∧ SqT K H t [x] ∧ l.At K H x
  | c2 w l r, v => ∃ a t x y, v = .ref a ∧ SqT K H a [.str "call", .str w, .ref t] ∧ SqT K H t [x, y] ∧ l.At K H x ∧ r.At K H y
  | c3 w l r q, v => ∃ a t x y z, v = .ref a ∧ SqT K H a [.str "call", .str w, .ref t] ∧ SqT K H t [x, y, z] ∧ l.At K H x ∧ r.At K H y ∧ q.At K H z
theorem At.tu {K : PySem.W.Frag} {H H' : Hp} (t : Tu K H H') : ∀ {e : Ex} {v : V}, e.At K H v → e.At K H' v
  | num _, _, ⟨a, e, h⟩ => ⟨a, e, t _ _ h⟩
  | nam _, _, ⟨a, e, h⟩ => ⟨a, e, t _ _ h⟩
  | op _ _ _, _, ⟨a, x, y, e, h, h1, h2⟩ => ⟨a, x, y, e, t _ _ h, At.tu t h1, At.tu t h2⟩
  | rd _ _, _, ⟨a, x, e, h, h1⟩ => ⟨a, x, e, t _ _ h, At.tu t h1⟩
  | c1 _ _, _, ⟨a, p, x, e, h, h', h1⟩ => ⟨a, p, x, e, t _ _ h, t _ _ h', At.tu t h1⟩
  | c2 _ _ _, _, ⟨a, p, x, y, e, h, h', h1, h2⟩ => ⟨a, p, x, y, e, t _ _ h, t _ _ h', At.tu t h1, At.tu t h2⟩
  | c3 _ _ _ _, _, ⟨a, p, x, y, z, e, h, h', h1, h2, h3⟩ => ⟨a, p, x, y, z, e, t _ _ h, t _ _ h', At.tu t h1, At.tu t h2, At.tu t h3⟩
theorem At.dp {K : PySem.W.Frag} {H : Hp} : ∀ {e : Ex} {v : V}, e.At K H v → Dp K H v e.data
  | num _, _, ⟨a, e, h⟩ => by subst e; exact .tup h (.cons (.str _) (.cons (.int _) .nil))
  | nam _, _, ⟨a, e, h⟩ => by subst e; exact .tup h (.cons (.str _) (.cons (.str _) .nil))
  | op _ _ _, _, ⟨a, x, y, e, h, h1, h2⟩ => by subst e; exact .tup h (.cons (.str _) (.cons (.str _) (.cons (At.dp h1) (.cons (At.dp h2) .nil))))
  | rd _ _, _, ⟨a, x, e, h, h1⟩ => by subst e; exact .tup h (.cons (.str _) (.cons (.str _) (.cons (At.dp h1) .nil)))
  | c1 _ _, _, ⟨a, p, x, e, h, h', h1⟩ => by subst e; exact .tup h (.cons (.str _) (.cons (.str _) (.cons (.tup h' (.cons (At.dp h1) .nil)) .nil)))
  | c2 _ _ _, _, ⟨a, p, x, y, e, h, h', h1, h2⟩ => by subst e; exact .tup h (.cons (.str _) (.cons (.str _) (.cons (.tup h' (.cons (At.dp h1) (.cons (At.dp h2) .nil))) .nil)))
  | c3 _ _ _ _, _, ⟨a, p, x, y, z, e, h, h', h1, h2, h3⟩ => by subst e; exact .tup h (.cons (.str _) (.cons (.str _) (.cons (.tup h' (.cons (At.dp h1) (.cons (At.dp h2) (.cons (At.dp h3) .nil)))) .nil)))
theorem can : ∀ {e : Ex}, e.ok → e.data.canLay0 = true
  | num _, _ => by simp only [data, PyData.canLay0, PyData.canLayAll0]; decide +kernel
  | nam w, h => by
    have h1 : okW w := h
    have h0 : okW "name" := by decide +kernel
    show (PyData.canLay0 (.str "name") && (PyData.canLay0 (.str w) && true)) = true
    rw [h0, h1]; rfl
  | op s l r, h => by
    have h0 : okW "op" := by decide +kernel
    show (PyData.canLay0 (.str "op") && (PyData.canLay0 (.str s) && (l.data.canLay0 && (r.data.canLay0 && true)))) = true
    rw [h0, h.1, can h.2.1, can h.2.2]; rfl
  | rd w l, h => by
    have h0 : okW "read" := by decide +kernel
    show (PyData.canLay0 (.str "read") && (PyData.canLay0 (.str w) && (l.data.canLay0 && true))) = true
    rw [h0, h.1, can h.2]; rfl
  | c1 w a, h => by
    have h0 : okW "call" := by decide +kernel
    show (PyData.canLay0 (.str "call") && (PyData.canLay0 (.str w) && ((a.data.canLay0 && true) && true))) = true
    rw [h0, h.1, can h.2]; rfl
  | c2 w a b, h => by
    have h0 : okW "call" := by decide +kernel
    show (PyData.canLay0 (.str "call") && (PyData.canLay0 (.str w) && ((a.data.canLay0 && (b.data.canLay0 && true)) && true))) = true
    rw [h0, h.1, can h.2.1, can h.2.2]; rfl
  | c3 w a b c, h => by
    have h0 : okW "call" := by decide +kernel
    show (PyData.canLay0 (.str "call") && (PyData.canLay0 (.str w) && ((a.data.canLay0 && (b.data.canLay0 && (c.data.canLay0 && true))) && true))) = true
    rw [h0, h.1, can h.2.1, can h.2.2.1, can h.2.2.2]; rfl
theorem ddep : ∀ e : Ex, e.data.depth ≤ 2 * e.dep
  | num _ => by show max 0 (max 0 0) + 1 ≤ 2 * 1; decide
  | nam _ => by show max 0 (max 0 0) + 1 ≤ 2 * 1; decide
  | op _ l r => by
    have := ddep l; have := ddep r
    show max 0 (max 0 (max l.data.depth (max r.data.depth 0))) + 1 ≤ 2 * (max l.dep r.dep + 1); omega
  | rd _ l => by
    have := ddep l
    show max 0 (max 0 (max l.data.depth 0)) + 1 ≤ 2 * (l.dep + 1); omega
  | c1 _ l => by
    have := ddep l
    show max 0 (max 0 (max (max l.data.depth 0 + 1) 0)) + 1 ≤ 2 * (l.dep + 1); omega
  | c2 _ l r => by
    have := ddep l; have := ddep r
    show max 0 (max 0 (max (max l.data.depth (max r.data.depth 0) + 1) 0)) + 1 ≤ 2 * (max l.dep r.dep + 1); omega
  | c3 _ l r q => by
    have := ddep l; have := ddep r; have := ddep q
    show max 0 (max 0 (max (max l.data.depth (max r.data.depth (max q.data.depth 0)) + 1) 0)) + 1 ≤ 2 * (max l.dep (max r.dep q.dep) + 1); omega
theorem shaped {e : Ex} (h : e.ok) (d : e.dep ≤ 32) : SeqAt.shaped e.data = true := by
  have := ddep e
  unfold SeqAt.shaped
  rw [can h, decide_eq_true (show e.data.depth ≤ 64 by omega)]
  rfl
end Ex
end Vk
namespace Vk
open PySem L2
/-- one of a written list, drawn -/
theorem rd_menu {K : PySem.W.Frag} {σ : St} {H : Hp} {Q : VK} {a : Addr} {n : Int} {i : Nat} {tl : TE} (xs : List V) (hσ : σ[i]? = some (some (.ref a))) (hF : Fd H a) (hn : (xs.length : Int) = n) (n0 : 0 < n) (n1 : n < 1000)
    (hl : tl σ H = fun Q => xs.length ≤ sizeLine ∧ ∀ l, H l = none → Q (.ref l) (upd H l (.lst xs))) (q : ∀ v H', v ∈ xs → Stp a H H' → Q v H') :
    tOp (rIxL K) tl (tCall spTake [] E0 (tCons (tVar i) (tCons (tC (.int n)) tNil))) σ H Q := by
  show tl σ H _
  rw [hl]
  refine ⟨Nat.le_of_lt (small1000 (by omega)), fun l el => ?_⟩
  refine ⟨_, hσ, a, n, rfl, hF.same (same_new el _), n0, by omega, fun r H' r0 r1 s => ?_⟩
  obtain ⟨v, vm, ev⟩ := atI_in (xs := xs) r0 (by omega)
  have na : l ≠ a := by
    obtain ⟨x, y, z, e⟩ := hF
    exact (ne_of_none e el).symm
  refine ⟨_, _, _, _, rfl, rfl, SqL.of (s.1 _ _ na upd_same), ev, q v H' vm ?_⟩
  exact (Stp.of hF (same_new el _)).trans s
theorem rd_menuS {K : PySem.W.Frag} {σ : St} {H : Hp} {Q : VK} {a : Addr} {n : Int} {i : Nat} {tl : TE} (ws : List Str) (hσ : σ[i]? = some (some (.ref a))) (hF : Fd H a) (hn : ((ws.map V.str).length : Int) = n) (n0 : 0 < n) (n1 : n < 1000)
    (hl : tl σ H = fun Q => (ws.map V.str).length ≤ sizeLine ∧ ∀ l, H l = none → Q (.ref l) (upd H l (.lst (ws.map V.str)))) (hk : ∀ w ∈ ws, okW w) (q : ∀ w H', w ∈ ws → okW w → Stp a H H' → Q (.str w) H') :
    tOp (rIxL K) tl (tCall spTake [] E0 (tCons (tVar i) (tCons (tC (.int n)) tNil))) σ H Q := by
  refine rd_menu (ws.map V.str) hσ hF hn n0 n1 hl fun v H' vm s => ?_
  obtain ⟨w, wm, rfl⟩ := List.mem_map.mp vm
  exact q w H' wm (hk w wm) s
theorem rd_menuI {K : PySem.W.Frag} {σ : St} {H : Hp} {Q : VK} {a : Addr} {n : Int} {i : Nat} {tl : TE} (ws : List Int) (hσ : σ[i]? = some (some (.ref a))) (hF : Fd H a) (hn : ((ws.map V.int).length : Int) = n) (n0 : 0 < n) (n1 : n < 1000)
    (hl : tl σ H = fun Q => (ws.map V.int).length ≤ sizeLine ∧ ∀ l, H l = none → Q (.ref l) (upd H l (.lst (ws.map V.int)))) (q : ∀ w H', w ∈ ws → Stp a H H' → Q (.int w) H') :
    tOp (rIxL K) tl (tCall spTake [] E0 (tCons (tVar i) (tCons (tC (.int n)) tNil))) σ H Q := by
  refine rd_menu (ws.map V.int) hσ hF hn n0 n1 hl fun v H' vm s => ?_
  obtain ⟨w, wm, rfl⟩ := List.mem_map.mp vm
  exact q w H' wm s
/-- behind the making of a written list: a draw from it -/
theorem rd_in {K : PySem.W.Frag} {σ : St} {H : Hp} {Q : VK} {a l : Addr} {n : Int} {i : Nat} (xs : List V) (hσ : σ[i]? = some (some (.ref a))) (hF : Fd H a) (el : H l = none) (hn : (xs.length : Int) = n) (n0 : 0 < n) (n1 : n < 1000)
    (q : ∀ v H', v ∈ xs → Stp a H H' → Q v H') :
    tCall spTake [] E0 (tCons (tVar i) (tCons (tC (.int n)) tNil)) σ (upd H l (.lst xs)) (fun y H2 => rIxL K (.ref l) y H2 Q) := by
  refine ⟨_, hσ, a, n, rfl, hF.same (same_new el _), n0, by omega, fun r H' r0 r1 s => ?_⟩
  obtain ⟨v, vm, ev⟩ := atI_in (xs := xs) r0 (by omega)
  have na : l ≠ a := by
    obtain ⟨x, y, z, e⟩ := hF
    exact (ne_of_none e el).symm
  refine ⟨_, _, _, _, rfl, rfl, SqL.of (s.1 _ _ na upd_same), ev, q v H' vm ?_⟩
  exact (Stp.of hF (same_new el _)).trans s
theorem rd_inS {K : PySem.W.Frag} {σ : St} {H : Hp} {Q : VK} {a l : Addr} {n : Int} {i : Nat} (ws : List Str) (hσ : σ[i]? = some (some (.ref a))) (hF : Fd H a) (el : H l = none) (hn : ((ws.map V.str).length : Int) = n) (n0 : 0 < n) (n1 : n < 1000)
    (hk : ∀ w ∈ ws, okW w) (q : ∀ w H', w ∈ ws → okW w → Stp a H H' → Q (.str w) H') :
    tCall spTake [] E0 (tCons (tVar i) (tCons (tC (.int n)) tNil)) σ (upd H l (.lst (ws.map V.str))) (fun y H2 => rIxL K (.ref l) y H2 Q) := by
  refine rd_in (ws.map V.str) hσ hF el hn n0 n1 fun v H' vm s => ?_
  obtain ⟨w, wm, rfl⟩ := List.mem_map.mp vm
  exact q w H' wm (hk w wm) s
theorem rd_inI {K : PySem.W.Frag} {σ : St} {H : Hp} {Q : VK} {a l : Addr} {n : Int} {i : Nat} (ws : List Int) (hσ : σ[i]? = some (some (.ref a))) (hF : Fd H a) (el : H l = none) (hn : ((ws.map V.int).length : Int) = n) (n0 : 0 < n) (n1 : n < 1000)
    (q : ∀ w H', w ∈ ws → Stp a H H' → Q (.int w) H') :
    tCall spTake [] E0 (tCons (tVar i) (tCons (tC (.int n)) tNil)) σ (upd H l (.lst (ws.map V.int))) (fun y H2 => rIxL K (.ref l) y H2 Q) := by
  refine rd_in (ws.map V.int) hσ hF el hn n0 n1 fun v H' vm s => ?_
  obtain ⟨w, wm, rfl⟩ := List.mem_map.mp vm
  exact q w H' wm s
/-- a draw -/
theorem rd_take {σ : St} {H : Hp} {Q : VK} {a : Addr} {n : Int} {i : Nat} (hσ : σ[i]? = some (some (.ref a))) (hF : Fd H a) (n0 : 0 < n) (n1 : n < 1073741824) (q : ∀ r H', 0 ≤ r → r < n → Stp a H H' → Q (.int r) H') :
    tCall spTake [] E0 (tCons (tVar i) (tCons (tC (.int n)) tNil)) σ H Q := ⟨_, hσ, a, n, rfl, hF, n0, n1, q⟩
/-- what is wanted of an expression that is made with the feed at a -/
def XQ (K : PySem.W.Frag) (a : Addr) (N : Nat) (H : Hp) (Q : VK) : Prop := ∀ (v : V) (H' : Hp) (e : Ex), Stp a H H' → e.At K H' v → e.dep ≤ N → e.ok → Q v H'
theorem XQ.after {K : PySem.W.Frag} {a : Addr} {N : Nat} {H H1 : Hp} {Q : VK} (q : XQ K a N H Q) (s : Stp a H H1) : XQ K a N H1 Q := fun v H' e s' h1 h2 h3 => q v H' e (s.trans s') h1 h2 h3
theorem XQ.num {K : PySem.W.Frag} {a : Addr} {N : Nat} {H : Hp} {Q : VK} (q : XQ K a N H Q) (hF : Fd H a) (h : 1 ≤ N) (n : Int) {t : Addr} (ht : H t = none) : Q (.ref t) (upd H t (.tup [.str "number", .int n])) :=
  q _ _ (.num n) (Stp.of hF (same_new ht _)) ⟨t, rfl, SqT.of upd_same⟩ h trivial
theorem XQ.nam {K : PySem.W.Frag} {a : Addr} {N : Nat} {H : Hp} {Q : VK} (q : XQ K a N H Q) (hF : Fd H a) (h : 1 ≤ N) {w : Str} (hw : okW w) {t : Addr} (ht : H t = none) : Q (.ref t) (upd H t (.tup [.str "name", .str w])) :=
  q _ _ (.nam w) (Stp.of hF (same_new ht _)) ⟨t, rfl, SqT.of upd_same⟩ h hw
theorem XQ.op {K : PySem.W.Frag} {a : Addr} {N : Nat} {H : Hp} {Q : VK} (q : XQ K a N H Q) (hF : Fd H a) {w : Str} {x y : V} {l r : Ex} (hl : l.At K H x) (hr : r.At K H y) (h : max l.dep r.dep + 1 ≤ N) (hw : okW w) (kl : l.ok) (kr : r.ok) {t : Addr} (ht : H t = none) : Q (.ref t) (upd H t (.tup [.str "op", .str w, x, y])) :=
  q _ _ (.op w l r) (Stp.of hF (same_new ht _)) ⟨t, x, y, rfl, SqT.of upd_same, hl.tu (Same.tu (same_new ht _)), hr.tu (Same.tu (same_new ht _))⟩ h ⟨hw, kl, kr⟩
theorem XQ.rd {K : PySem.W.Frag} {a : Addr} {N : Nat} {H : Hp} {Q : VK} (q : XQ K a N H Q) (hF : Fd H a) {w : Str} {x : V} {l : Ex} (hl : l.At K H x) (h : l.dep + 1 ≤ N) (hw : okW w) (kl : l.ok) {t : Addr} (ht : H t = none) : Q (.ref t) (upd H t (.tup [.str "read", .str w, x])) :=
  q _ _ (.rd w l) (Stp.of hF (same_new ht _)) ⟨t, x, rfl, SqT.of upd_same, hl.tu (Same.tu (same_new ht _))⟩ h ⟨hw, kl⟩
end Vk
namespace Vk
open PySem L2
def okC (w : Str) : Prop := ∀ c ∈ w.cps.toList, c < 1114112
theorem okW_of {w : Str} (h : okC w) : okW w := by
  show PyData.strOk w = true
  unfold PyData.strOk
  rw [Array.all_eq_true_iff_forall_mem]
  intro c hc
  exact decide_eq_true (h c (Array.mem_toList_iff.mpr hc))
theorem okC_app {x y : Str} (h : okC x) (g : okC y) : okC (x ++ y) := by
  intro c hc
  rw [Str.cps_append, Array.toList_append] at hc
  rcases List.mem_append.mp hc with z | z
  · exact h c z
  · exact g c z
theorem okC_cut {x : Str} (h : okC x) (lo hi : Option Int) : okC (cutS x lo hi) := by
  intro c hc
  unfold cutS at hc
  exact h c (List.mem_of_mem_drop (List.mem_of_mem_take hc))
theorem okC_one {c : Nat} (h : c < 1114112) : okC ⟨#[c]⟩ := by
  intro d hd
  have : d = c := by simpa using hd
  omega
theorem len_one {c : Nat} : Str.length ⟨#[c]⟩ = 1 := rfl
theorem len_cut (x : Str) (lo hi : Option Int) : (cutS x lo hi).length = min (HT.sIx x.length x.length hi - HT.sIx x.length 0 lo) (x.length - HT.sIx x.length 0 lo) := by
  unfold cutS Str.length
  simp
theorem len_head (x : Str) (k : Nat) : (cutS x none (some (k : Int))).length = min k x.length := by
  rw [len_cut, HT.sIx_none, HT.sIx_nat]
  omega
theorem len_tail (x : Str) (k : Nat) : (cutS x (some (k : Int)) none).length = x.length - k := by
  rw [len_cut, HT.sIx_none, HT.sIx_nat]
  omega
theorem inV_str {z : Str} {ws : List Str} (h : inV (.str z) (ws.map V.str) = true) : z ∈ ws := by
  unfold inV at h
  obtain ⟨y, ym, ey⟩ := List.any_eq_true.mp h
  obtain ⟨w, wm, rfl⟩ := List.mem_map.mp ym
  have : w = z := eq_of_beq (show (w == z) = true from ey)
  rw [← this]
  exact wm
theorem mem_inV {z : Str} {ws : List Str} (h : z ∈ ws) : inV (.str z) (ws.map V.str) = true := by
  unfold inV
  exact List.any_eq_true.mpr ⟨.str z, List.mem_map.mpr ⟨z, h, rfl⟩, beq_self_eq_true z⟩
theorem flat_all {ws : List Str} : (ws.map V.str).all flatV = true := by
  rw [List.all_map]
  exact List.all_eq_true.mpr fun _ _ => rfl
/-- a word -/
structure WordOk (w : Str) : Prop where
  lo : 1 ≤ w.length
  hi : w.length ≤ 13
  ok : okC w
theorem WordOk.w {w : Str} (h : WordOk w) : okW w := okW_of h.ok
def wordB (w : Str) : Bool := decide (1 ≤ w.length) && decide (w.length ≤ 13) && w.cps.toList.all fun c => decide (c < 1114112)
theorem wordB_ok {w : Str} (h : wordB w = true) : WordOk w := by
  unfold wordB at h
  simp only [Bool.and_eq_true, decide_eq_true_eq, List.all_eq_true] at h
  exact ⟨h.1.1, h.1.2, h.2⟩
theorem words_ok {ws : List Str} (h : ws.all wordB = true) : ∀ w ∈ ws, WordOk w := fun w hw => wordB_ok (List.all_eq_true.mp h w hw)
theorem small_line {n : Nat} (h : n ≤ 1000) : n ≤ sizeLine := Nat.le_of_lt (small1000 h)
theorem okC_of_all {w : Str} (h : (w.cps.toList.all fun c => decide (c < 1114112)) = true) : okC w := fun c hc => of_decide_eq_true (List.all_eq_true.mp h c hc)
end Vk
namespace Vk
open PySem L2
def signsW : List Str := ["+", "-", "*", "div", "mod", "+", "-", "*", "div", "mod", "<", "<=", ">", ">=", "=", "!="]
def callsW : List Str := ["min", "max", "pick", "nth"]
namespace Ex
/-- over these names and arrays -/
def good (ns as : List Str) : Ex → Prop
  | num n => 0 ≤ n ∧ n ≤ 1000000000000
  | nam w => w ∈ ns
  | op s l r => s ∈ signsW ∧ l.good ns as ∧ r.good ns as
  | rd w l => w ∈ as ∧ l.good ns as
  | c1 w a => w = "nth" ∧ a.good ns as
  | c2 w a b => (w = "min" ∨ w = "max") ∧ a.good ns as ∧ b.good ns as
  | c3 w a b c => w = "pick" ∧ a.good ns as ∧ b.good ns as ∧ c.good ns as
def kids : Ex → List Ex
  | num _ => [] | nam _ => []
  | op _ l r => [l, r]
  | rd _ l => [l]
  | c1 _ a => [a]
  | c2 _ a b => [a, b]
  | c3 _ a b c => [a, b, c]
def AtAll (K : PySem.W.Frag) (H : Hp) : List Ex → List V → Prop
  | [], [] => True
  | e :: es, v :: vs => e.At K H v ∧ AtAll K H es vs
  | _, _ => False
theorem AtAll.tu {K : PySem.W.Frag} {H H' : Hp} (t : Tu K H H') : ∀ {es : List Ex} {vs : List V}, AtAll K H es vs → AtAll K H' es vs
  | [], [], _ => trivial
  | _ :: _, _ :: _, ⟨h, g⟩ => ⟨h.tu t, AtAll.tu t g⟩
  | [], _ :: _, h => h
  | _ :: _, [], h => h
theorem AtAll.app {K : PySem.W.Frag} {H : Hp} : ∀ {es fs : List Ex} {vs us : List V}, AtAll K H es vs → AtAll K H fs us → AtAll K H (es ++ fs) (vs ++ us)
  | [], _, [], _, _, g => g
  | _ :: _, _, _ :: _, _, ⟨h, r⟩, g => ⟨h, AtAll.app r g⟩
  | [], _, _ :: _, _, h, _ => h.elim
  | _ :: _, _, [], _, h, _ => h.elim
theorem AtAll.len {K : PySem.W.Frag} {H : Hp} : ∀ {es : List Ex} {vs : List V}, AtAll K H es vs → es.length = vs.length
  | [], [], _ => rfl
  | _ :: _, _ :: _, ⟨_, r⟩ => congrArg (· + 1) (AtAll.len r)
  | [], _ :: _, h => h.elim
  | _ :: _, [], h => h.elim
theorem AtAll.get {K : PySem.W.Frag} {H : Hp} : ∀ {es : List Ex} {vs : List V} {i : Nat} {v : V}, AtAll K H es vs → vs[i]? = some v → ∃ e, es[i]? = some e ∧ e.At K H v
  | [], [], i, _, _, e => by simp at e
  | f :: _, _ :: _, 0, _, ⟨h, _⟩, e => by cases e; exact ⟨f, rfl, h⟩
  | _ :: _, _ :: _, i + 1, _, ⟨_, r⟩, e => AtAll.get (i := i) r e
  | [], _ :: _, _, _, h, _ => h.elim
  | _ :: _, [], _, _, h, _ => h.elim
theorem AtAll.one {K : PySem.W.Frag} {H : Hp} : ∀ {e : Ex} {vs : List V}, AtAll K H [e] vs → ∃ v, vs = [v] ∧ e.At K H v
  | _, [v], ⟨h, _⟩ => ⟨v, rfl, h⟩
  | _, [], h => h.elim
  | _, _ :: _ :: _, ⟨_, h⟩ => h.elim
theorem AtAll.two {K : PySem.W.Frag} {H : Hp} : ∀ {e f : Ex} {vs : List V}, AtAll K H [e, f] vs → ∃ v u, vs = [v, u] ∧ e.At K H v ∧ f.At K H u
  | _, _, [v, u], ⟨h, g, _⟩ => ⟨v, u, rfl, h, g⟩
  | _, _, [], h => h.elim
  | _, _, [_], ⟨_, h⟩ => h.elim
  | _, _, _ :: _ :: _ :: _, ⟨_, _, h⟩ => h.elim
theorem AtAll.three {K : PySem.W.Frag} {H : Hp} : ∀ {e f g : Ex} {vs : List V}, AtAll K H [e, f, g] vs → ∃ v u t, vs = [v, u, t] ∧ e.At K H v ∧ f.At K H u ∧ g.At K H t
  | _, _, _, [v, u, t], ⟨h, g, r, _⟩ => ⟨v, u, t, rfl, h, g, r⟩
  | _, _, _, [], h => h.elim
  | _, _, _, [_], ⟨_, h⟩ => h.elim
  | _, _, _, [_, _], ⟨_, _, h⟩ => h.elim
  | _, _, _, _ :: _ :: _ :: _ :: _, ⟨_, _, _, h⟩ => h.elim
theorem dep1 : ∀ e : Ex, 1 ≤ e.dep
  | num _ => Nat.le_refl 1
  | nam _ => Nat.le_refl 1
  | op _ _ _ => Nat.succ_le_succ (Nat.zero_le _)
  | rd _ _ => Nat.succ_le_succ (Nat.zero_le _)
  | c1 _ _ => Nat.succ_le_succ (Nat.zero_le _)
  | c2 _ _ _ => Nat.succ_le_succ (Nat.zero_le _)
  | c3 _ _ _ _ => Nat.succ_le_succ (Nat.zero_le _)
theorem kids_dep : ∀ {e k : Ex}, k ∈ e.kids → k.dep + 1 ≤ e.dep
  | num _, _, h => by cases h
  | nam _, _, h => by cases h
  | op _ l r, k, h => by
    simp only [kids, List.mem_cons, List.not_mem_nil, or_false] at h
    show k.dep + 1 ≤ max l.dep r.dep + 1
    rcases h with rfl | rfl <;> omega
  | rd _ l, k, h => by
    simp only [kids, List.mem_cons, List.not_mem_nil, or_false] at h
    subst h; exact Nat.le_refl _
  | c1 _ l, k, h => by
    simp only [kids, List.mem_cons, List.not_mem_nil, or_false] at h
    subst h; exact Nat.le_refl _
  | c2 _ l r, k, h => by
    simp only [kids, List.mem_cons, List.not_mem_nil, or_false] at h
    show k.dep + 1 ≤ max l.dep r.dep + 1
    rcases h with rfl | rfl <;> omega
  | c3 _ l r q, k, h => by
    simp only [kids, List.mem_cons, List.not_mem_nil, or_false] at h
    show k.dep + 1 ≤ max l.dep (max r.dep q.dep) + 1
    rcases h with rfl | rfl | rfl <;> omega
theorem kids_good {ns as : List Str} : ∀ {e k : Ex}, k ∈ e.kids → e.good ns as → k.good ns as
  | num _, _, h, _ => by cases h
  | nam _, _, h, _ => by cases h
  | op _ l r, k, h, g => by
    simp only [kids, List.mem_cons, List.not_mem_nil, or_false] at h
    rcases h with rfl | rfl
    · exact g.2.1
    · exact g.2.2
  | rd _ l, k, h, g => by
    simp only [kids, List.mem_cons, List.not_mem_nil, or_false] at h
    subst h; exact g.2
  | c1 _ l, k, h, g => by
    simp only [kids, List.mem_cons, List.not_mem_nil, or_false] at h
    subst h; exact g.2
  | c2 _ l r, k, h, g => by
    simp only [kids, List.mem_cons, List.not_mem_nil, or_false] at h
    rcases h with rfl | rfl
    · exact g.2.1
    · exact g.2.2
  | c3 _ l r q, k, h, g => by
    simp only [kids, List.mem_cons, List.not_mem_nil, or_false] at h
    rcases h with rfl | rfl | rfl
    · exact g.2.1
    · exact g.2.2.1
    · exact g.2.2.2
/-- an expression and its parts -/
def subs : Ex → List Ex
  | num n => [num n] | nam w => [nam w]
  | op s l r => op s l r :: (l.subs ++ r.subs)
  | rd w l => rd w l :: l.subs
  | c1 w a => c1 w a :: a.subs
  | c2 w a b => c2 w a b :: (a.subs ++ b.subs)
  | c3 w a b c => c3 w a b c :: (a.subs ++ (b.subs ++ c.subs))
theorem subs_all {p : Ex → Prop} (hk : ∀ e k, k ∈ e.kids → p e → p k) : ∀ {e : Ex}, p e → ∀ f ∈ e.subs, p f
  | num n, h, f, hf => by rw [List.mem_singleton.mp hf]; exact h
  | nam n, h, f, hf => by rw [List.mem_singleton.mp hf]; exact h
  | op s l r, h, f, hf => by
    rcases List.mem_cons.mp hf with z | z
    · rw [z]; exact h
    rcases List.mem_append.mp z with z | z
    · exact subs_all hk (hk _ l (by simp [kids]) h) f z
    · exact subs_all hk (hk _ r (by simp [kids]) h) f z
  | rd s l, h, f, hf => by
    rcases List.mem_cons.mp hf with z | z
    · rw [z]; exact h
    · exact subs_all hk (hk _ l (by simp [kids]) h) f z
  | c1 s l, h, f, hf => by
    rcases List.mem_cons.mp hf with z | z
    · rw [z]; exact h
    · exact subs_all hk (hk _ l (by simp [kids]) h) f z
  | c2 s l r, h, f, hf => by
    rcases List.mem_cons.mp hf with z | z
    · rw [z]; exact h
    rcases List.mem_append.mp z with z | z
    · exact subs_all hk (hk _ l (by simp [kids]) h) f z
    · exact subs_all hk (hk _ r (by simp [kids]) h) f z
  | c3 s l r q, h, f, hf => by
    rcases List.mem_cons.mp hf with z | z
    · rw [z]; exact h
    rcases List.mem_append.mp z with z | z
    · exact subs_all hk (hk _ l (by simp [kids]) h) f z
    rcases List.mem_append.mp z with z | z
    · exact subs_all hk (hk _ r (by simp [kids]) h) f z
    · exact subs_all hk (hk _ q (by simp [kids]) h) f z
theorem subs_len : ∀ e : Ex, e.subs.length ≤ 4 ^ e.dep
  | num _ => by show 1 ≤ 4 ^ 1; decide
  | nam _ => by show 1 ≤ 4 ^ 1; decide
  | op s l r => by
    have h1 := subs_len l; have h2 := subs_len r
    show (l.subs ++ r.subs).length + 1 ≤ 4 ^ (max l.dep r.dep + 1)
    rw [List.length_append, Nat.pow_succ]
    have m1 : 4 ^ l.dep ≤ 4 ^ max l.dep r.dep := Nat.pow_le_pow_right (by decide) (Nat.le_max_left _ _)
    have m2 : 4 ^ r.dep ≤ 4 ^ max l.dep r.dep := Nat.pow_le_pow_right (by decide) (Nat.le_max_right _ _)
    have m3 : 1 ≤ 4 ^ max l.dep r.dep := Nat.one_le_pow _ _ (by decide)
    omega
  | rd s l => by
    have h1 := subs_len l
    show l.subs.length + 1 ≤ 4 ^ (l.dep + 1)
    rw [Nat.pow_succ]
    have m3 : 1 ≤ 4 ^ l.dep := Nat.one_le_pow _ _ (by decide)
    omega
  | c1 s l => by
    have h1 := subs_len l
    show l.subs.length + 1 ≤ 4 ^ (l.dep + 1)
    rw [Nat.pow_succ]
    have m3 : 1 ≤ 4 ^ l.dep := Nat.one_le_pow _ _ (by decide)
    omega
  | c2 s l r => by
    have h1 := subs_len l; have h2 := subs_len r
    show (l.subs ++ r.subs).length + 1 ≤ 4 ^ (max l.dep r.dep + 1)
    rw [List.length_append, Nat.pow_succ]
    have m1 : 4 ^ l.dep ≤ 4 ^ max l.dep r.dep := Nat.pow_le_pow_right (by decide) (Nat.le_max_left _ _)
    have m2 : 4 ^ r.dep ≤ 4 ^ max l.dep r.dep := Nat.pow_le_pow_right (by decide) (Nat.le_max_right _ _)
    have m3 : 1 ≤ 4 ^ max l.dep r.dep := Nat.one_le_pow _ _ (by decide)
    omega
  | c3 s l r q => by
    have h1 := subs_len l; have h2 := subs_len r; have h3 := subs_len q
    show (l.subs ++ (r.subs ++ q.subs)).length + 1 ≤ 4 ^ (max l.dep (max r.dep q.dep) + 1)
    rw [List.length_append, List.length_append, Nat.pow_succ]
    have m1 : 4 ^ l.dep ≤ 4 ^ max l.dep (max r.dep q.dep) := Nat.pow_le_pow_right (by decide) (by omega)
    have m2 : 4 ^ r.dep ≤ 4 ^ max l.dep (max r.dep q.dep) := Nat.pow_le_pow_right (by decide) (by omega)
    have m4 : 4 ^ q.dep ≤ 4 ^ max l.dep (max r.dep q.dep) := Nat.pow_le_pow_right (by decide) (by omega)
    have m3 : 1 ≤ 4 ^ max l.dep (max r.dep q.dep) := Nat.one_le_pow _ _ (by decide)
    omega
end Ex
/-- a list of one int -/
def Rm (H : Hp) (b : Addr) : Prop := ∃ n : Int, H b = some (.lst [.int n])
theorem Fd.ne_rm {H : Hp} {a b : Addr} (h : Fd H a) (g : Rm H b) : a ≠ b := by
  obtain ⟨x, y, z, e⟩ := h
  obtain ⟨n, e'⟩ := g
  exact ne_of e e' (by intro z; cases z)
theorem Rm.same {H H' : Hp} {b : Addr} (h : Rm H b) (s : Same H H') : Rm H' b := by
  obtain ⟨n, e⟩ := h
  exact ⟨n, s _ _ e⟩
/-- all but the lists at a and b is as it was -/
def St2 (a b : Addr) (H H' : Hp) : Prop := (∀ x o, x ≠ a → x ≠ b → H x = some o → H' x = some o) ∧ Fd H' a ∧ Rm H' b
theorem St2.refl {a b : Addr} {H : Hp} (h : Fd H a) (g : Rm H b) : St2 a b H H := ⟨fun _ _ _ _ q => q, h, g⟩
theorem St2.trans {a b : Addr} {H H1 H2 : Hp} (h : St2 a b H H1) (g : St2 a b H1 H2) : St2 a b H H2 := ⟨fun x o n m q => g.1 x o n m (h.1 x o n m q), g.2⟩
theorem St2.same {a b : Addr} {H H1 H2 : Hp} (h : St2 a b H H1) (s : Same H1 H2) : St2 a b H H2 := ⟨fun x o n m q => s _ _ (h.1 x o n m q), h.2.1.same s, h.2.2.same s⟩
theorem St2.stp {a b : Addr} {H H1 H2 : Hp} (h : St2 a b H H1) (s : Stp a H1 H2) : St2 a b H H2 := by
  refine ⟨fun x o n m q => s.1 x o n (h.1 x o n m q), s.2, ?_⟩
  have ne := h.2.1.ne_rm h.2.2
  obtain ⟨n, e⟩ := h.2.2
  exact ⟨n, s.1 _ _ ne.symm e⟩
theorem St2.tu {K : PySem.W.Frag} {a b : Addr} {H H' : Hp} (s : St2 a b H H') (h : Fd H a) (g : Rm H b) : Tu K H H' := fun c xs q => by
  obtain ⟨x, y, z, e⟩ := h
  obtain ⟨n, e'⟩ := g
  rcases q with (q | ⟨o, q⟩) | q
  · exact .inl (.inl (s.1 _ _ (ne_of q e (by intro z; cases z)) (ne_of q e' (by intro z; cases z)) q))
  · exact .inl (.inr ⟨o, s.1 _ _ (ne_of q e (by intro z; cases z)) (ne_of q e' (by intro z; cases z)) q⟩)
  · exact .inr q
/-- a list of texts, none of them lacking -/
structure Ws (H : Hp) (c : Addr) (ws : List Str) : Prop where
  at' : H c = some (.lst (ws.map V.str))
  pos : 0 < ws.length
  sz : ws.length ≤ 100
theorem Ws.ne_fd {H : Hp} {a c : Addr} {ws : List Str} (h : Ws H c ws) (g : Fd H a) : c ≠ a := by
  obtain ⟨x, y, z, e⟩ := g
  refine ne_of h.at' e ?_
  intro q
  have h0 := h.pos
  cases ws with
  | nil => exact absurd h0 (Nat.lt_irrefl 0)
  | cons w r => cases q
theorem Ws.ne_rm {H : Hp} {b c : Addr} {ws : List Str} (h : Ws H c ws) (g : Rm H b) : c ≠ b := by
  obtain ⟨n, e⟩ := g
  refine ne_of h.at' e ?_
  intro q
  have h0 := h.pos
  cases ws with
  | nil => exact absurd h0 (Nat.lt_irrefl 0)
  | cons w r => cases q
theorem Ws.stp {H H' : Hp} {a c : Addr} {ws : List Str} (h : Ws H c ws) (g : Fd H a) (s : Stp a H H') : Ws H' c ws := ⟨s.1 _ _ (h.ne_fd g) h.at', h.pos, h.sz⟩
theorem Ws.st2 {H H' : Hp} {a b c : Addr} {ws : List Str} (h : Ws H c ws) (g : Fd H a) (r : Rm H b) (s : St2 a b H H') : Ws H' c ws := ⟨s.1 _ _ (h.ne_fd g) (h.ne_rm r) h.at', h.pos, h.sz⟩
theorem Ws.same {H H' : Hp} {c : Addr} {ws : List Str} (h : Ws H c ws) (s : Same H H') : Ws H' c ws := ⟨s _ _ h.at', h.pos, h.sz⟩
end Vk
namespace Vk
open PySem L2
def clipI (n : Int) : Int := if (if n < 1000000000000 then n else 1000000000000) > -1000000000000 then (if n < 1000000000000 then n else 1000000000000) else -1000000000000
theorem clip_in {n : Int} : -1000000000000 ≤ clipI n ∧ clipI n ≤ 1000000000000 := by
  unfold clipI
  constructor <;> (split <;> split at * <;> omega)
def Lim (n : Int) : Prop := -1000000000000 ≤ n ∧ n ≤ 1000000000000
theorem clip_lim {n : Int} : Lim (clipI n) := clip_in
def b2n (b : Bool) : Int := if b then 1 else 0
/-- the value of a sign -/
def sgnV (s : Str) (l r : Int) : Int :=
  if s = "+" then clipI (l + r) else if s = "-" then clipI (l - r) else if s = "*" then clipI (l * r)
  else if s = "div" then (if r = 0 then 0 else l.fdiv r) else if s = "mod" then (if r = 0 then 0 else l - r * l.fdiv r)
  else if s = "<" then b2n (decide (l < r)) else if s = "<=" then b2n (decide (l ≤ r)) else if s = ">" then b2n (decide (r < l)) else if s = ">=" then b2n (decide (r ≤ l))
  else if s = "=" then b2n (decide (l = r)) else b2n (!decide (l = r))
theorem b2n_lim {b : Bool} : Lim (b2n b) := by
  unfold b2n Lim
  split <;> decide
theorem fdiv_pos {l r : Int} (h : -1000000000000 ≤ l ∧ l ≤ 1000000000000) (hr : 0 < r) : -1000000000000 ≤ l.fdiv r ∧ l.fdiv r ≤ 1000000000000 := by
  have h1 := Int.mul_fdiv_add_fmod l r
  have h2 := Int.fmod_nonneg_of_pos l hr
  have h3 := Int.fmod_lt_of_pos l hr
  generalize l.fdiv r = q at *
  constructor
  · refine Int.not_lt.mp fun c => ?_
    have m : (-(q + 1)) * 1 ≤ (-(q + 1)) * r := Int.mul_le_mul_of_nonneg_left (by omega) (by omega)
    have e : (-(q + 1)) * r = -(r * q) - r := by rw [Int.neg_mul, Int.add_mul, Int.mul_comm q r]; omega
    omega
  · refine Int.not_lt.mp fun c => ?_
    have m : q * 1 ≤ q * r := Int.mul_le_mul_of_nonneg_left (by omega) (by omega)
    rw [Int.mul_comm q r] at m
    omega
theorem fdiv_lim {l r : Int} (h : Lim l) (hr : ¬ r = 0) : Lim (l.fdiv r) := by
  unfold Lim at *
  by_cases p : 0 < r
  · exact fdiv_pos h p
  · have e : (-l).fdiv (-r) = l.fdiv r := Int.neg_fdiv_neg _ _
    rw [← e]
    exact fdiv_pos (by omega) (by omega)
theorem fmod_lim {l r : Int} (h : Lim r) (hr : ¬ r = 0) : Lim (l - r * l.fdiv r) := by
  unfold Lim at *
  rw [← Int.fmod_def]
  by_cases p : 0 < r
  · have h2 := Int.fmod_nonneg_of_pos l p
    have h3 := Int.fmod_lt_of_pos l p
    omega
  · have e : (-l).fmod (-r) = -(l.fmod r) := Int.neg_fmod_neg _ _
    have h2 := Int.fmod_nonneg_of_pos (-l) (b := -r) (by omega)
    have h3 := Int.fmod_lt_of_pos (-l) (b := -r) (by omega)
    omega
theorem sgn_lim {s : Str} {l r : Int} (hl : Lim l) (hr : Lim r) : Lim (sgnV s l r) := by
  unfold sgnV
  repeat' split
  all_goals first | exact clip_lim | exact b2n_lim | exact (by unfold Lim; decide) | exact fdiv_lim hl (by assumption) | exact fmod_lim hr (by assumption)
def cellAt (xs : List Int) (i : Int) : Int := if 0 ≤ i ∧ i < xs.length then xs.getD i.toNat 0 else 0
/-- the places of the zeros -/
def zerosN (k : Nat) : List Int → List Int
  | [] => []
  | x :: r => if x = 0 then (k : Int) :: zerosN (k + 1) r else zerosN (k + 1) r
def nthZ (xs : List Int) (n : Int) : Int := if 0 ≤ n ∧ n < (zerosN 0 xs).length then (zerosN 0 xs).getD n.toNat 0 else -1
def valE (nm : Str → Int) (ar : Str → List Int) : Ex → Int
  | .num n => n
  | .nam w => nm w
  | .op s l r => sgnV s (valE nm ar l) (valE nm ar r)
  | .rd w l => cellAt (ar w) (valE nm ar l)
  | .c1 _ a => nthZ (ar "place") (valE nm ar a)
  | .c2 w a b => if w = "min" then (if valE nm ar b < valE nm ar a then valE nm ar b else valE nm ar a) else (if valE nm ar b > valE nm ar a then valE nm ar b else valE nm ar a)
  | .c3 _ a b c => if valE nm ar a = 0 then valE nm ar c else valE nm ar b
theorem zeros_bd : ∀ (k : Nat) (xs : List Int), ∀ z ∈ zerosN k xs, 0 ≤ z ∧ z < (k + xs.length : Nat)
  | k, [], z, h => by cases h
  | k, x :: r, z, h => by
    unfold zerosN at h
    have ih := zeros_bd (k + 1) r z
    split at h
    · rcases List.mem_cons.mp h with e | e
      · subst e
        simp only [List.length_cons]
        omega
      · have := ih e
        simp only [List.length_cons]
        omega
    · have := ih h
      simp only [List.length_cons]
      omega
theorem zeros_len : ∀ (k : Nat) (xs : List Int), (zerosN k xs).length ≤ xs.length
  | k, [] => Nat.le_refl 0
  | k, x :: r => by
    unfold zerosN
    have ih := zeros_len (k + 1) r
    split
    · simp only [List.length_cons]; omega
    · simp only [List.length_cons]; omega
theorem zeros_cons (k : Nat) (x : Int) (r : List Int) : zerosN k (x :: r) = if x = 0 then (k : Int) :: zerosN (k + 1) r else zerosN (k + 1) r := rfl
theorem zeros_app : ∀ (k : Nat) (xs ys : List Int), zerosN k (xs ++ ys) = zerosN k xs ++ zerosN (k + xs.length) ys
  | k, [], ys => by simp [zerosN]
  | k, x :: r, ys => by
    have ih := zeros_app (k + 1) r ys
    have e : k + 1 + r.length = k + (x :: r).length := by simp only [List.length_cons]; omega
    rw [e] at ih
    rw [List.cons_append, zeros_cons, zeros_cons]
    split
    · rw [ih, List.cons_append]
    · exact ih
/-- one turn -/
theorem zeros_step {xs : List Int} {i : Nat} {x : Int} (h : xs[i]? = some x) : zerosN 0 (xs.take (i + 1)) = zerosN 0 (xs.take i) ++ (if x = 0 then [(i : Int)] else []) := by
  have hl : i < xs.length := (List.getElem?_eq_some_iff.mp h).1
  rw [List.take_add_one, h, zeros_app, List.length_take, Nat.min_eq_left (Nat.le_of_lt hl)]
  show _ ++ zerosN (0 + i) [x] = _
  rw [zeros_cons, Nat.zero_add]
  split <;> rfl
theorem getD_mem {xs : List Int} {i : Nat} (h : i < xs.length) : xs.getD i 0 ∈ xs := by
  rw [List.getD_eq_getElem?_getD, List.getElem?_eq_getElem h]
  exact List.getElem_mem h
theorem atI_int {xs : List Int} {i : Int} (h0 : 0 ≤ i) (h : i < xs.length) : atI (xs.map V.int) i = some (.int (xs.getD i.toNat 0)) := by
  have hk : i.toNat < xs.length := by omega
  have ek : ((i.toNat : Nat) : Int) = i := by omega
  have q : atI (xs.map V.int) ((i.toNat : Nat) : Int) = some (.int (xs.getD i.toNat 0)) := by
    refine atI_nat ?_
    rw [List.getElem?_map, List.getD_eq_getElem?_getD, List.getElem?_eq_getElem hk]
    rfl
  rwa [ek] at q
theorem zero_lim : Lim 0 := ⟨by decide, by decide⟩
/-- the memories that stand within the limit -/
theorem val_lim {nm : Str → Int} {ar : Str → List Int} {ns as : List Str} (hn : ∀ w ∈ ns, Lim (nm w)) (ha : ∀ w ∈ as, ∀ x ∈ ar w, Lim x) (hp : (ar "place").length ≤ 1000) : ∀ e : Ex, e.good ns as → Lim (valE nm ar e)
  | .num n, g => ⟨by have := g.1; show -1000000000000 ≤ n; omega, g.2⟩
  | .nam w, g => hn w g
  | .op s l r, g => sgn_lim (val_lim hn ha hp l g.2.1) (val_lim hn ha hp r g.2.2)
  | .rd w l, g => by
    show Lim (cellAt _ _)
    unfold cellAt
    split
    · rename_i h
      exact ha w g.1 _ (getD_mem (by omega))
    · exact ⟨by decide, by decide⟩
  | .c1 w a, g => by
    show Lim (nthZ _ _)
    unfold nthZ
    split
    · rename_i h
      have m : (zerosN 0 (ar "place")).getD (valE nm ar a).toNat 0 ∈ zerosN 0 (ar "place") := getD_mem (by omega)
      have b := zeros_bd 0 (ar "place") _ m
      unfold Lim
      omega
    · exact ⟨by decide, by decide⟩
  | .c2 w a b, g => by
    have h1 := val_lim hn ha hp a g.2.1
    have h2 := val_lim hn ha hp b g.2.2
    show Lim (if w = "min" then (if _ < _ then _ else _) else (if _ > _ then _ else _))
    repeat' split
    all_goals assumption
  | .c3 w a b c, g => by
    have h1 := val_lim hn ha hp b g.2.2.1
    have h2 := val_lim hn ha hp c g.2.2.2
    show Lim (if _ = (0 : Int) then _ else _)
    split
    · exact h2
    · exact h1
section
open PyProof.Rows
/-- // by a number within the limit -/
def CDv (_ j : Int) : Prop := j ≠ 0 ∧ Lim j
theorem op_fdivL {X : Cx} : OpR X (binaryOp .FloorDiv) (rI CDv fun i j => .int (i.fdiv j)) := opI fun i j _ _ _ _ _ hc q =>
  floordiv_int hc.1 q (.inl (PyProof.noPylong_of_log2 (Nat.lt_of_lt_of_le (PySem.Flt.log2_lt_of (show 0 < 40 by decide) (show j.natAbs < 2 ^ 40 by have h := hc.2; unfold Lim at h; omega)) (by decide))))
end
/-- no nth in it -/
def Ex.flat : Ex → Prop
  | .num _ => True | .nam _ => True
  | .op _ l r => l.flat ∧ r.flat
  | .rd _ l => l.flat
  | .c1 _ _ => False
  | .c2 _ a b => a.flat ∧ b.flat
  | .c3 _ a b c => a.flat ∧ b.flat ∧ c.flat
theorem Ex.kids_flat : ∀ {e k : Ex}, k ∈ e.kids → e.flat → k.flat
  | .num _, _, h, _ => by cases h
  | .nam _, _, h, _ => by cases h
  | .op _ l r, k, h, g => by
    simp only [Ex.kids, List.mem_cons, List.not_mem_nil, or_false] at h
    rcases h with rfl | rfl
    · exact g.1
    · exact g.2
  | .rd _ l, k, h, g => by
    simp only [Ex.kids, List.mem_cons, List.not_mem_nil, or_false] at h
    subst h; exact g
  | .c1 _ l, k, h, g => g.elim
  | .c2 _ l r, k, h, g => by
    simp only [Ex.kids, List.mem_cons, List.not_mem_nil, or_false] at h
    rcases h with rfl | rfl
    · exact g.1
    · exact g.2
  | .c3 _ l r q, k, h, g => by
    simp only [Ex.kids, List.mem_cons, List.not_mem_nil, or_false] at h
    rcases h with rfl | rfl | rfl
    · exact g.1
    · exact g.2.1
    · exact g.2.2
/-- a list or a tuple of these numbers -/
def SqI (K : PySem.W.Frag) (H : Hp) (p : Addr) (xs : List Int) : Prop := SqL K H p (xs.map V.int) ∨ SqT K H p (xs.map V.int)
theorem SqI.same {K : PySem.W.Frag} {H H' : Hp} {p : Addr} {xs : List Int} (h : SqI K H p xs) (s : Same H H') : SqI K H' p xs := by
  rcases h with h | h
  · exact .inl (s.seq h)
  · exact .inr (Vk.Same.tup s h)
/-- two dicts that hold these numbers and rows -/
structure Mem (K : PySem.W.Frag) (H : Hp) (dn da : Addr) (nm : Str → Int) (ar : Str → List Int) (ns as : List Str) : Prop where
  dn : ∃ kn, H dn = some (.dK kn) ∧ ∀ w ∈ ns, valV kn (.inr w) = some (.int (nm w))
  da : ∃ ka, H da = some (.dK ka) ∧ ∀ w ∈ as, ∃ p, valV ka (.inr w) = some (.ref p) ∧ SqI K H p (ar w) ∧ (ar w).length ≤ 100
  ln : ∀ w ∈ ns, Lim (nm w)
  la : ∀ w ∈ as, ∀ x ∈ ar w, Lim x
  lp : (ar "place").length ≤ 1000
theorem Mem.same {K : PySem.W.Frag} {H H' : Hp} {dn da : Addr} {nm : Str → Int} {ar : Str → List Int} {ns as : List Str} (m : Mem K H dn da nm ar ns as) (s : Same H H') : Mem K H' dn da nm ar ns as := by
  obtain ⟨⟨kn, h1, h2⟩, ⟨ka, h3, h4⟩, h5, h6, h7⟩ := m
  refine ⟨⟨kn, s _ _ h1, h2⟩, ⟨ka, s _ _ h3, fun w hw => ?_⟩, h5, h6, h7⟩
  obtain ⟨p, e1, e2, e3⟩ := h4 w hw
  exact ⟨p, e1, e2.same s, e3⟩
theorem dget_str {H : Hp} {a : Addr} {kvs : List (Key × V)} {x : Str} {v : V} (e : H a = some (.dK kvs)) (h : valV kvs (.inr x) = some v) : DGet H a (.str x) (some v) := by
  have := DGet.k (k := Sum.inr x) e
  rw [h] at this
  exact this
theorem same_put {H H1 : Hp} {D : Addr} {o : HO} (s : Same H H1) (h : H D = none) : Same H (upd H1 D o) := fun b u e => by
  rw [upd_ne (ne_of_none e h)]
  exact s b u e
end Vk
namespace Vk
open PySem L2 PyProof.Rows
theorem op_mulB {X : Cx} : OpR X (binaryOp .Mult) (rI IntMulOk fun i j => .int (i * j)) := opI fun _ _ _ _ _ _ _ hc q => mul_int q hc
def BitsOk (n : Int) : Prop := Builtin.Int.intBits n ≤ 1048576
theorem bits_small {n : Int} (h0 : 0 ≤ n) (h1 : n < 2147483647) : BitsOk n := by
  have b : Builtin.Int.intBits n ≤ n.natAbs.log2 + 1 := by
    unfold Builtin.Int.intBits
    split <;> omega
  have l := PySem.Flt.log2_lt_of (show 0 < 31 by decide) (show n.natAbs < 2 ^ 31 by omega)
  unfold BitsOk
  omega
theorem bits_mul {n : Int} (h : BitsOk n) : IntMulOk n n := by
  unfold BitsOk at h
  have e : bitsLine = 134217728 := by decide
  unfold IntMulOk
  intro z
  rw [Bool.and_eq_true] at z
  have z2 := z.2
  unfold Builtin.Int.intTooBig at z2
  have z3 := of_decide_eq_true z2
  rw [e] at z3
  omega
end Vk
namespace Vk
open PySem L2
section
variable {α : Type}
def getA (l : List (Str × α)) (w : Str) : Option α := (l.find? fun p => decide (p.1 = w)).map (·.2)
def putA (l : List (Str × α)) (w : Str) (x : α) : List (Str × α) := if (l.any fun p => decide (p.1 = w)) = true then l.map (fun p => if p.1 = w then (p.1, x) else p) else l ++ [(w, x)]
def dOf (f : α → V) (l : List (Str × α)) : List (Key × V) := l.map fun p => (.inr p.1, f p.2)
theorem inr_dec (a b : Str) : decide ((Sum.inr a : Key) = Sum.inr b) = decide (a = b) := by
  by_cases h : a = b
  · subst h; rw [decide_eq_true rfl, decide_eq_true rfl]
  · rw [decide_eq_false h, decide_eq_false fun z => h (Sum.inr.inj z)]
theorem valV_d (f : α → V) (w : Str) : ∀ l : List (Str × α), valV (dOf f l) (.inr w) = (getA l w).map f
  | [] => rfl
  | p :: r => by
    have ih := valV_d f w r
    unfold valV getA dOf at *
    rw [List.map_cons, List.find?_cons, List.find?_cons]
    show Option.map _ (match decide ((Sum.inr p.1 : Key) = Sum.inr w) with | true => _ | false => _) = _
    rw [inr_dec]
    cases decide (p.1 = w)
    · exact ih
    · rfl
theorem any_d (f : α → V) (w : Str) : ∀ l : List (Str × α), ((dOf f l).any fun kv => decide (kv.1 = Sum.inr w)) = l.any fun p => decide (p.1 = w)
  | [] => rfl
  | p :: r => by
    have ih := any_d f w r
    unfold dOf at *
    rw [List.map_cons, List.any_cons, List.any_cons, ih]
    show (decide ((Sum.inr p.1 : Key) = Sum.inr w) || _) = _
    rw [inr_dec]
theorem putK_d (f : α → V) (w : Str) (x : α) (l : List (Str × α)) : putK (dOf f l) (.inr w) (f x) = dOf f (putA l w x) := by
  unfold putK putA
  rw [any_d]
  by_cases h : (l.any fun p => decide (p.1 = w)) = true
  · rw [if_pos h, if_pos h]
    unfold dOf
    rw [List.map_map, List.map_map]
    refine List.map_congr_left fun p _ => ?_
    show (if (Sum.inr p.1 : Key) = Sum.inr w then ((Sum.inr p.1 : Key), f x) else (Sum.inr p.1, f p.2)) = _
    by_cases e : p.1 = w
    · rw [if_pos (by rw [e])]
      show _ = ((Sum.inr (if p.1 = w then (p.1, x) else p).1 : Key), f (if p.1 = w then (p.1, x) else p).2)
      rw [if_pos e]
    · rw [if_neg (fun z => e (Sum.inr.inj z))]
      show _ = ((Sum.inr (if p.1 = w then (p.1, x) else p).1 : Key), f (if p.1 = w then (p.1, x) else p).2)
      rw [if_neg e]
  · rw [if_neg h, if_neg h]
    unfold dOf
    rw [List.map_append]
    rfl
theorem getA_cons (p : Str × α) (r : List (Str × α)) (v : Str) : getA (p :: r) v = if p.1 = v then some p.2 else getA r v := by
  unfold getA
  rw [List.find?_cons]
  by_cases e : p.1 = v
  · rw [decide_eq_true e, if_pos e]; rfl
  · rw [decide_eq_false e, if_neg e]
theorem getA_app_none {l : List (Str × α)} {v w : Str} {x : α} (h : getA l v = none) : getA (l ++ [(w, x)]) v = if w = v then some x else none := by
  induction l with
  | nil => rw [List.nil_append, getA_cons]; rfl
  | cons p r ih =>
    rw [getA_cons] at h
    rw [List.cons_append, getA_cons]
    by_cases e : p.1 = v
    · rw [if_pos e] at h; cases h
    · rw [if_neg e] at h ⊢; exact ih h
theorem getA_app_some {l r : List (Str × α)} {v : Str} {y : α} (h : getA l v = some y) : getA (l ++ r) v = some y := by
  induction l with
  | nil => cases h
  | cons p t ih =>
    rw [getA_cons] at h
    rw [List.cons_append, getA_cons]
    by_cases e : p.1 = v
    · rw [if_pos e] at h ⊢; exact h
    · rw [if_neg e] at h ⊢; exact ih h
theorem any_get {l : List (Str × α)} {w : Str} : (l.any fun p => decide (p.1 = w)) = (getA l w).isSome := by
  induction l with
  | nil => rfl
  | cons p r ih =>
    rw [List.any_cons, getA_cons, ih]
    by_cases e : p.1 = w
    · rw [decide_eq_true e, if_pos e]; rfl
    · rw [decide_eq_false e, if_neg e]; rfl
theorem getA_map {l : List (Str × α)} {w v : Str} {x : α} : getA (l.map (fun p => if p.1 = w then (p.1, x) else p)) v = if v = w then (getA l v).map (fun _ => x) else getA l v := by
  induction l with
  | nil => split <;> rfl
  | cons p r ih =>
    rw [List.map_cons, getA_cons, getA_cons, ih]
    by_cases e : p.1 = w
    · rw [if_pos e]
      by_cases ev : v = w
      · subst ev
        rw [if_pos e, if_pos rfl, if_pos e]
        rfl
      · rw [if_neg ev, if_neg ev]
        show (if p.1 = v then some x else _) = _
        rw [if_neg (fun z => ev (z.symm.trans e)), if_neg (fun z => ev (z.symm.trans e))]
    · rw [if_neg e]
      by_cases ev : v = w
      · subst ev
        rw [if_neg e, if_pos rfl, if_neg e, if_pos rfl]
      · rw [if_neg ev, if_neg ev]
theorem getA_put (l : List (Str × α)) (w v : Str) (x : α) : getA (putA l w x) v = if v = w then some x else getA l v := by
  unfold putA
  by_cases h : (l.any fun p => decide (p.1 = w)) = true
  · rw [if_pos h, getA_map]
    by_cases e : v = w
    · subst e
      rw [if_pos rfl, if_pos rfl]
      rw [any_get] at h
      obtain ⟨y, hy⟩ := Option.isSome_iff_exists.mp h
      rw [hy]; rfl
    · rw [if_neg e, if_neg e]
  · rw [if_neg h]
    rw [any_get] at h
    by_cases e : v = w
    · subst e
      have hn : getA l v = none := by
        cases g : getA l v with
        | none => rfl
        | some y => rw [g] at h; exact absurd rfl h
      rw [if_pos rfl, getA_app_none hn, if_pos rfl]
    · rw [if_neg e]
      cases g : getA l v with
      | none => rw [getA_app_none g, if_neg (fun z => e z.symm)]
      | some y => rw [getA_app_some g]
theorem mem_put {l : List (Str × α)} {w : Str} {x : α} {p : Str × α} (h : p ∈ putA l w x) : p ∈ l ∨ p = (w, x) := by
  unfold putA at h
  split at h
  · obtain ⟨q, hq, e⟩ := List.mem_map.mp h
    split at e
    · rename_i c
      rw [← e, c]; exact .inr rfl
    · rw [← e]; exact .inl hq
  · rcases List.mem_append.mp h with z | z
    · exact .inl z
    · exact .inr (List.mem_singleton.mp z)
theorem mem_get {l : List (Str × α)} {w : Str} {x : α} (h : getA l w = some x) : (w, x) ∈ l := by
  induction l with
  | nil => cases h
  | cons p r ih =>
    rw [getA_cons] at h
    by_cases e : p.1 = w
    · rw [if_pos e] at h
      cases h
      rw [← e]
      exact List.mem_cons_self ..
    · rw [if_neg e] at h
      exact List.mem_cons_of_mem _ (ih h)
theorem keys_put {l : List (Str × α)} {w : Str} {x : α} : (putA l w x).map (·.1) = if (getA l w).isSome = true then l.map (·.1) else l.map (·.1) ++ [w] := by
  unfold putA
  rw [any_get]
  split
  · rw [List.map_map]
    refine List.map_congr_left fun p _ => ?_
    show (if p.1 = w then (p.1, x) else p).1 = p.1
    split <;> rfl
  · rw [List.map_append]; rfl
theorem get_of_mem {l : List (Str × α)} {w : Str} (h : w ∈ l.map (·.1)) : (getA l w).isSome = true := by
  rw [← any_get, List.any_eq_true]
  obtain ⟨p, hp, e⟩ := List.mem_map.mp h
  exact ⟨p, hp, decide_eq_true e⟩
theorem mem_of_get {l : List (Str × α)} {w : Str} (h : (getA l w).isSome = true) : w ∈ l.map (·.1) := by
  obtain ⟨y, hy⟩ := Option.isSome_iff_exists.mp h
  exact List.mem_map.mpr ⟨_, mem_get hy, rfl⟩
theorem nodup_put {l : List (Str × α)} {w : Str} {x : α} (h : (l.map (·.1)).Nodup) : ((putA l w x).map (·.1)).Nodup := by
  rw [keys_put]
  split
  · exact h
  · rename_i c
    rw [List.nodup_append]
    refine ⟨h, List.nodup_cons.mpr ⟨by simp, List.nodup_nil⟩, fun a ha b hb => ?_⟩
    rw [List.mem_singleton.mp hb]
    intro z
    subst z
    exact c (get_of_mem ha)
theorem get_at {l : List (Str × α)} (h : (l.map (·.1)).Nodup) {p : Str × α} (hp : p ∈ l) : getA l p.1 = some p.2 := by
  induction l with
  | nil => cases hp
  | cons q r ih =>
    rw [List.map_cons, List.nodup_cons] at h
    rw [getA_cons]
    rcases List.mem_cons.mp hp with z | z
    · rw [z, if_pos rfl]
    · have : q.1 ≠ p.1 := fun e => h.1 (by rw [e]; exact List.mem_map.mpr ⟨p, z, rfl⟩)
      rw [if_neg this]
      exact ih h.2 z
theorem len_put {l : List (Str × α)} {w : Str} {x : α} : (putA l w x).length ≤ l.length + 1 := by
  unfold putA
  split
  · rw [List.length_map]; omega
  · rw [List.length_append]; exact Nat.le_refl _
end
/-- a row of a shelf: where it stands, its numbers -/
abbrev Row := Addr × List Int
abbrev rf (r : Row) : V := .ref r.1
def nmF (nl : List (Str × Int)) (w : Str) : Int := (getA nl w).getD 0
def arF (al : List (Str × Row)) (w : Str) : List Int := ((getA al w).map (·.2)).getD []
/-- the numbers of a shelf, without the places -/
def bare (al : List (Str × Row)) : List (Str × List Int) := al.map fun p => (p.1, p.2.2)
theorem getA_bare (w : Str) : ∀ al : List (Str × Row), getA (bare al) w = (getA al w).map (·.2)
  | [] => rfl
  | p :: r => by
    have ih := getA_bare w r
    unfold bare at *
    rw [List.map_cons, getA_cons, getA_cons, ih]
    split <;> rfl
theorem arF_bare {al al2 : List (Str × Row)} (h : bare al2 = bare al) : arF al2 = arF al := by
  funext w
  unfold arF
  rw [← getA_bare, ← getA_bare, h]
theorem bare_put {al : List (Str × Row)} {w : Str} {r : Row} : bare (putA al w r) = putA (bare al) w r.2 := by
  unfold putA
  have e : ((bare al).any fun p => decide (p.1 = w)) = (al.any fun p => decide (p.1 = w)) := by
    unfold bare
    rw [List.any_map]
    rfl
  rw [e]
  split
  · unfold bare
    rw [List.map_map, List.map_map]
    refine List.map_congr_left fun p _ => ?_
    show ((if p.1 = w then (p.1, r) else p).1, (if p.1 = w then (p.1, r) else p).2.2) = (if p.1 = w then (p.1, r.2) else (p.1, p.2.2))
    split <;> rfl
  · unfold bare
    rw [List.map_append]
    rfl
structure NamesOk (nl : List (Str × Int)) : Prop where
  lim : ∀ p ∈ nl, Lim p.2
  nd : (nl.map (·.1)).Nodup
  sz : nl.length ≤ 100
structure RowsOk (al : List (Str × Row)) : Prop where
  lim : ∀ p ∈ al, (∀ x ∈ p.2.2, Lim x) ∧ p.2.2.length ≤ 100
  nd : (al.map (·.1)).Nodup
  sz : al.length ≤ 100
def RowsAt (K : PySem.W.Frag) (H : Hp) (al : List (Str × Row)) : Prop := ∀ p ∈ al, SqI K H p.2.1 p.2.2
theorem RowsAt.same {K : PySem.W.Frag} {H H' : Hp} {al : List (Str × Row)} (h : RowsAt K H al) (s : Same H H') : RowsAt K H' al := fun p hp => (h p hp).same s
theorem mem_mk {K : PySem.W.Frag} {H : Hp} {dn da : Addr} {nl : List (Str × Int)} {al : List (Str × Row)} {ns as : List Str} (h1 : H dn = some (.dK (dOf V.int nl))) (h2 : H da = some (.dK (dOf rf al))) (n1 : ∀ p ∈ nl, Lim p.2) (r1 : ∀ p ∈ al, (∀ x ∈ p.2.2, Lim x) ∧ p.2.2.length ≤ 100) (ra : RowsAt K H al)
    (hn : ∀ w ∈ ns, (getA nl w).isSome = true) (ha : ∀ w ∈ as, (getA al w).isSome = true) : Mem K H dn da (nmF nl) (arF al) ns as := by
  refine ⟨⟨_, h1, fun w hw => ?_⟩, ⟨_, h2, fun w hw => ?_⟩, fun w hw => ?_, fun w hw x hx => ?_, ?_⟩
  · obtain ⟨y, hy⟩ := Option.isSome_iff_exists.mp (hn w hw)
    rw [valV_d, hy]
    unfold nmF
    rw [hy]; rfl
  · obtain ⟨y, hy⟩ := Option.isSome_iff_exists.mp (ha w hw)
    have m := mem_get hy
    refine ⟨y.1, by rw [valV_d, hy]; rfl, ?_, ?_⟩
    · unfold arF; rw [hy]; exact ra _ m
    · unfold arF; rw [hy]; exact (r1 _ m).2
  · obtain ⟨y, hy⟩ := Option.isSome_iff_exists.mp (hn w hw)
    unfold nmF; rw [hy]
    exact n1 _ (mem_get hy)
  · obtain ⟨y, hy⟩ := Option.isSome_iff_exists.mp (ha w hw)
    unfold arF at hx; rw [hy] at hx
    exact (r1 _ (mem_get hy)).1 x hx
  · unfold arF
    cases hy : getA al "place" with
    | none => exact Nat.zero_le _
    | some y =>
      have := (r1 _ (mem_get hy)).2
      show y.2.length ≤ 1000
      have e : y.2.length ≤ 100 := this
      omega
end Vk
namespace Vk
open PySem L2
theorem hu0 {k : Nat} {A : Around} (hr : Room k A) : A.units < cLine := hr.units0
theorem put_new {α : Type} {l : List (Str × α)} {w : Str} {x : α} (h : getA l w = none) : putA l w x = l ++ [(w, x)] := by
  unfold putA
  rw [any_get, h]
  rfl
theorem put_again {α : Type} {l : List (Str × α)} {w : Str} {x : α} (h : getA l w = none) : putA (l ++ [(w, x)]) w x = l ++ [(w, x)] := by
  unfold putA
  have e : ((l ++ [(w, x)]).any fun p => decide (p.1 = w)) = true := by
    rw [List.any_append]
    simp
  rw [if_pos e, List.map_append]
  have e2 : l.map (fun p => if p.1 = w then (p.1, x) else p) = l := by
    have : l.map (fun p => if p.1 = w then (p.1, x) else p) = l.map id := by
      refine List.map_congr_left fun p hp => ?_
      have : p.1 ≠ w := fun z => by
        have := get_of_mem (l := l) (w := w) (List.mem_map.mpr ⟨p, hp, z⟩)
        rw [h] at this
        cases this
      rw [if_neg this]; rfl
    rw [this, List.map_id]
  rw [e2]
  simp
theorem dget_frz {H : Hp} {a : Addr} {o : Obj} {kvs : List (Key × V)} {x : Str} {v : V} (e : H a = some (.frz o (.dK kvs))) (h : valV kvs (.inr x) = some v) : DGet H a (.str x) (some v) := by
  refine .inl ⟨kvs, Sum.inr x, .inr ⟨o, e⟩, rfl, ?_⟩
  rw [h]
theorem take_none {α : Type} {l : List (Str × α)} (h : (l.map (·.1)).Nodup) {i : Nat} {p : Str × α} (hp : l[i]? = some p) : getA (l.take i) p.1 = none := by
  cases g : getA (l.take i) p.1 with
  | none => rfl
  | some y =>
    exfalso
    have m := mem_get g
    obtain ⟨j, hj, ej⟩ := List.getElem_of_mem m
    rw [List.length_take] at hj
    rw [List.getElem_take] at ej
    have hi : i < l.length := (List.getElem?_eq_some_iff.mp hp).1
    have ei : l[i] = p := (List.getElem?_eq_some_iff.mp hp).2
    have e : (l.map (·.1))[j]'(by rw [List.length_map]; omega) = (l.map (·.1))[i]'(by rw [List.length_map]; exact hi) := by
      rw [List.getElem_map, List.getElem_map, ej, ei]
    have := (List.getElem_inj h).mp e
    omega
end Vk
namespace Vk
open PySem L2
theorem SqI.keep {K : PySem.W.Frag} {H H' : Hp} {p : Addr} {xs : List Int} (h : SqI K H p xs) (k : ∀ o, H p = some o → H' p = some o) : SqI K H' p xs := by
  rcases h with ((h | ⟨o, h⟩) | h) | ((h | ⟨o, h⟩) | h)
  · exact .inl (.inl (.inl (k _ h)))
  · exact .inl (.inl (.inr ⟨o, k _ h⟩))
  · exact .inl (.inr h)
  · exact .inr (.inl (.inl (k _ h)))
  · exact .inr (.inl (.inr ⟨o, k _ h⟩))
  · exact .inr (.inr h)
theorem SqL_keep {K : PySem.W.Frag} {H H' : Hp} {p : Addr} {xs : List V} (h : SqL K H p xs) (k : ∀ o, H p = some o → H' p = some o) : SqL K H' p xs := by
  rcases h with (h | ⟨o, h⟩) | h
  · exact .inl (.inl (k _ h))
  · exact .inl (.inr ⟨o, k _ h⟩)
  · exact .inr h
/-- the rows stand, apart from these -/
def RowsN (K : PySem.W.Frag) (H : Hp) (al : List (Str × Row)) (a dr da : Addr) : Prop := ∀ p ∈ al, SqI K H p.2.1 p.2.2 ∧ p.2.1 ≠ a ∧ p.2.1 ≠ dr ∧ p.2.1 ≠ da
theorem RowsN.keep {K : PySem.W.Frag} {H H' : Hp} {al : List (Str × Row)} {a dr da : Addr} (h : RowsN K H al a dr da) (k : ∀ b o, b ≠ a → b ≠ dr → b ≠ da → H b = some o → H' b = some o) : RowsN K H' al a dr da := fun p hp => by
  obtain ⟨h1, h2, h3, h4⟩ := h p hp
  exact ⟨h1.keep (fun o e => k _ o h2 h3 h4 e), h2, h3, h4⟩
end Vk
namespace Vk
open PySem L2
def intsD (xs : List Int) : PyData := .list (xs.map PyData.int)
theorem dp_ints {K : PySem.W.Frag} {H : Hp} : ∀ xs : List Int, DpAll K H (xs.map V.int) (xs.map PyData.int)
  | [] => .nil
  | x :: r => .cons (.int x) (dp_ints r)
theorem eqv_ints : ∀ xs : List Int, PyData.eqvAll (xs.map PyData.int) (xs.map PyData.int) = true
  | [] => rfl
  | x :: r => by
    show (PyData.eqv (.int x) (.int x) && PyData.eqvAll (r.map PyData.int) (r.map PyData.int)) = true
    rw [eqv_ints r]
    simp [PyData.eqv]
theorem can_ints : ∀ xs : List Int, PyData.canLayAll0 (xs.map PyData.int) = true
  | [] => rfl
  | x :: r => by
    show (PyData.canLay0 (.int x) && PyData.canLayAll0 (r.map PyData.int)) = true
    rw [can_ints r]
    rfl
theorem dep_ints : ∀ xs : List Int, PyData.depthAll (xs.map PyData.int) = 0
  | [] => rfl
  | x :: r => by
    show max (PyData.depth (.int x)) (PyData.depthAll (r.map PyData.int)) = 0
    rw [dep_ints r]
    rfl
theorem shaped_ints (xs : List Int) : SeqAt.shaped (intsD xs) = true := by
  unfold SeqAt.shaped
  have h1 : (intsD xs).canLay0 = true := can_ints xs
  have h2 : (intsD xs).depth = 1 := by
    show PyData.depthAll (xs.map PyData.int) + 1 = 1
    rw [dep_ints]
  rw [h1, h2]
  rfl
theorem eqv_intsD (xs : List Int) : PyData.eqv (intsD xs) (intsD xs) = true := eqv_ints xs
end Vk
set_option maxHeartbeats 2000000
/-! sets of texts that are made by a comprehension, and sorted -/
namespace Vk
open PySem PySem.Spec PyProof.Rows L2
def txt (e : Int × Value) : Str := match e.2 with
  | .str k _ => k
  | _ => ⟨#[]⟩
def TxtAt (w : World) (e : Int × Value) : Prop := ∃ k u, e = (hashStr w k, Value.str k u)
structure TIn (w : World) (es : Array (Int × Value)) (t : SetTable) (S : Str → Bool) (n : Nat) : Prop where
  all : ∀ e ∈ es.toList, TxtAt w e
  nd : (es.toList.map txt).Nodup
  mem : ∀ k, S k = true ↔ k ∈ es.toList.map txt
  small : es.size < scanBound
  fits : t.fits es.size = true
  size : es.size = n
  ris : Ris t.place.toList
  led : w.params.followText "set-order" = true ∨ t.led = true
def TSet (w : World) (h : Heap) (a : Addr) (S : Str → Bool) (n : Nat) : Prop := ∃ o es ep t, h.get? a = some o ∧ o.ExactSet ∧ o.data = .set es ep t ∧ TIn w es t S n
section
variable {P : Program} {w : World} {A : Around} {E : Value → Shared → Prop} {s : Shared} {a : Addr} {S : Str → Bool} {n : Nat} {es : Array (Int × Value)} {t : SetTable}
theorem isS (k : Str) (u : Tok) : (PySem.strKind P w).is k (.str k u) = true := by
  show Value.isStrOf k (.str k u) = true
  simp [Value.isStrOf]
theorem TSet.keep {h h' : Heap} (R : TSet w h a S n) (k : ∀ o, h.get? a = some o → h'.get? a = some o) : TSet w h' a S n := by
  obtain ⟨o, es, ep, t, ho, r⟩ := R
  exact ⟨o, es, ep, t, k o ho, r⟩
theorem TIn.elems (I : TIn w es t S n) : ElemsOf (PySem.strKind P w) es.toList := fun e he => by
  obtain ⟨k, u, rfl⟩ := I.all e he
  exact ⟨⟨k, isS k u, rfl⟩, rfl⟩
theorem txt_is {e : Int × Value} (g : TxtAt w e) (k : Str) : (PySem.strKind P w).is k e.2 = true ↔ txt e = k := by
  obtain ⟨k0, u, rfl⟩ := g
  constructor
  · intro h
    obtain ⟨t, e⟩ := Value.isStrOf_shape (show Value.isStrOf k (.str k0 u) = true from h)
    show k0 = k
    injection e
  · intro h
    have h2 : k0 = k := h
    rw [h2]
    exact isS k u
theorem TIn.has (I : TIn w es t S n) (k : Str) : S k = true ↔ ∃ e ∈ es.toList, (PySem.strKind P w).is k e.2 = true := by
  rw [I.mem k, List.mem_map]
  exact ⟨fun ⟨e, he, q⟩ => ⟨e, he, (txt_is (I.all e he) k).2 q⟩, fun ⟨e, he, q⟩ => ⟨e, he, (txt_is (I.all e he) k).1 q⟩⟩
theorem TSet.setOf {h : Heap} (R : TSet w h a S n) : h.SetOf (PySem.strKind P w) a S n := by
  obtain ⟨o, es, ep, t, ho, hx, hd, I⟩ := R
  exact ⟨o, es, ep, t, ho, hx, hd, I.elems, I.has, I.small, I.fits, I.size⟩
theorem TIn.moved {es' : Array (Int × Value)} {t' : SetTable} (I : TIn w es t S n) (p : List.Perm es'.toList es.toList) (f : t'.fits es'.size = true) (r : Ris t'.place.toList) (l : t'.led = t.led) : TIn w es' t' S n := by
  have z : es'.size = es.size := by rw [← Array.length_toList, p.length_eq, Array.length_toList]
  exact ⟨fun e he => I.all e (p.mem_iff.mp he), (p.map txt).nodup_iff.mpr I.nd, fun k => (I.mem k).trans (p.map txt).mem_iff.symm, by rw [z]; exact I.small, f, z.trans I.size, r, I.led.imp id fun y => by rw [l]; exact y⟩
theorem TIn.more {es' : Array (Int × Value)} {t' : SetTable} {k : Str} {u : Tok} (I : TIn w es t S n) (hk : S k = false) (room : n + 1 < scanBound) (p : List.Perm es'.toList ((hashStr w k, Value.str k u) :: es.toList)) (f : t'.fits es'.size = true) (r : Ris t'.place.toList) (l : t'.led = t.led) :
    TIn w es' t' (fun j => S j || decide (j = k)) (n + 1) := by
  have z : es'.size = n + 1 := by rw [← Array.length_toList, p.length_eq, List.length_cons, Array.length_toList, I.size]
  have pk : (es'.toList.map txt).Perm (k :: es.toList.map txt) := p.map txt
  have nk : k ∉ es.toList.map txt := fun y => by rw [← I.mem k, hk] at y; cases y
  refine ⟨fun e he => ?_, pk.nodup_iff.mpr (List.nodup_cons.mpr ⟨nk, I.nd⟩), fun i => ?_, by rw [z]; exact room, f, z, r, I.led.imp id fun y => by rw [l]; exact y⟩
  · rcases List.mem_cons.mp (p.mem_iff.mp he) with y | y
    · exact ⟨k, u, y⟩
    · exact I.all e y
  · rw [Bool.or_eq_true, decide_eq_true_eq, I.mem i, pk.mem_iff, List.mem_cons]
    exact Or.comm
/-- what stands behind the laying of a new text -/
theorem tset_put {g : Bool → Sem Unit} (hg : ∀ (b : Bool) (s₁ : Shared) (Q' : Unit → Shared → Prop), Q' () s₁ → wpAny (model P w) A (g b) Q' E s₁)
    {o : Obj} {ep : Nat} {t0 : SetTable} {es0 : Array (Int × Value)} (ho : s.heap.get? a = some o) (hx : o.ExactSet) (hd : o.data = .set es0 ep t0) (I : TIn w es t S n) {old : Bool} {R : Option Bool → Shared → Prop}
    (hR : ∀ h', Heap.SameBut a s.heap h' → TSet w h' a S n → R (some true) { s with heap := h' }) :
    wpAny (model P w) A (do
        storeSet a es t
        if (!old && t.tooFull) = true then do
            g (relayAll t es (SetTable.grown es.size)).2.2
            storeSet a (relayAll t es (SetTable.grown es.size)).1 (relayAll t es (SetTable.grown es.size)).2.1
            pure (some true)
          else pure (some true)) R E s := by
  have o1 := store_at (es' := es) (t' := t) ho hd
  have b1 := Heap.SameBut.update s.heap a (Obj.putSet es t)
  refine wpAny_bind (wpAny_storeSet_of ho hd ?_ (fits_of_scanBound I.small))
  split
  · have J := I.moved (relayAll_perm t es (SetTable.grown es.size)) (relayAll_fits t es (SetTable.grown es.size)) (relayAll_ris t es (SetTable.grown es.size)) (relayAll_led t es (SetTable.grown es.size))
    refine wpAny_bind (hg _ _ _ ?_)
    refine wpAny_bind (wpAny_storeSet_of o1 rfl ?_ (fits_of_scanBound J.small))
    exact wpAny_pure (hR _ (b1.trans (Heap.SameBut.update _ a _)) ⟨_, _, _, _, store_at o1 rfl, hx, rfl, J⟩)
  · exact wpAny_pure (hR _ b1 ⟨_, _, _, _, o1, hx, rfl, I⟩)
theorem tset_hashed {k : Str} {u : Tok} {Q : Bool → Shared → Prop} (R : TSet w s.heap a S n) (room : n + 1 < scanBound)
    (hQ : ∀ h', Heap.SameBut a s.heap h' → TSet w h' a (fun j => S j || decide (j = k)) (if S k = true then n else n + 1) → Q (!S k) { s with heap := h' }) :
    wpAny (model P w) A (setAddHashed a (.str k u) ((PySem.strKind P w).hash k)) Q E s := by
  obtain ⟨o, es, ep, t, ho, hx, hd, I⟩ := R
  have isk : (PySem.strKind P w).is k (.str k u) = true := isS k u
  have scn : (Value.str k u).scannable = true := rfl
  unfold setAddHashed setAddHashedIn
  refine wpAny_holding (wpAny_bind (wpAny_setState_of ho hd I.fits ?_))
  dsimp only
  rw [byScan_of scn I.small (I.elems (P := P))]
  simp only [↓reduceIte]
  unfold setAddByScan
  refine wpAny_bind (wpAny_bind (wpAny_rule (wpAny_bind (wpAny_setScan_of isk ho hd I.fits I.elems ?_))))
  cases fi : List.findIdx? (fun e => (PySem.strKind P w).is k e.2) es.toList with
  | some j =>
    obtain ⟨hj, pj, _⟩ := List.findIdx?_eq_some_iff_getElem.mp fi
    have sk : S k = true := (I.has (P := P) k).2 ⟨es.toList[j], List.getElem_mem hj, pj⟩
    have eS : (fun j => S j || decide (j = k)) = S := funext fun j => by
      by_cases e : j = k
      · rw [e, sk]; rfl
      · rw [decide_eq_false e, Bool.or_false]
    have q := hQ s.heap (Heap.SameBut.refl a s.heap) (by rw [eS, if_pos sk]; exact ⟨o, es, ep, t, ho, hx, hd, I⟩)
    rw [sk] at q
    exact wpAny_pure (wpAny_pure q)
  | none =>
    have sk : S k = false := by
      cases q : S k with
      | false => rfl
      | true =>
        obtain ⟨e, he, z⟩ := (I.has (P := P) k).1 q
        rw [List.findIdx?_eq_none_iff.mp fi e he] at z
        cases z
    have give : ∀ (b : Bool) {s₁ : Shared} {Q' : Unit → Shared → Prop}, Q' () s₁ → wpAny (model P w) A (match b with | true => rule "set.scan.the-table-gave-way" | false => pure ()) Q' E s₁ :=
      fun b s₁ Q' q => by cases b <;> first | exact wpAny_pure q | exact wpAny_rule q
    have pm := layNew_perm t es ((PySem.strKind P w).hash k) (.str k u)
    have f1 := layNew_fits t es ((PySem.strKind P w).hash k) (.str k u)
    have r1 := layNew_ris t es ((PySem.strKind P w).hash k) (.str k u) I.ris
    have l1 := layNew_led t es ((PySem.strKind P w).hash k) (.str k u)
    dsimp only
    generalize layNew t es ((PySem.strKind P w).hash k) (.str k u) = Z at pm f1 r1 l1 ⊢
    obtain ⟨es1, t1, old, gave⟩ := Z
    dsimp only at pm f1 r1 l1 ⊢
    rw [Array.toList_push] at pm
    have pc : es1.toList.Perm ((hashStr w k, Value.str k u) :: es.toList) := pm.trans (List.perm_append_singleton _ _)
    have fin : ∀ h', Heap.SameBut a s.heap h' → TSet w h' a (fun j => S j || decide (j = k)) (n + 1) → Q true { s with heap := h' } := fun h' sb r => by
      have q := hQ h' sb (by rw [if_neg (by rw [sk]; exact Bool.false_ne_true)]; exact r)
      rw [sk] at q
      exact q
    refine wpAny_bind (give _ ?_)
    split
    · refine wpAny_bind ?_
      rw [hashByValue_scannable 8 scn]
      refine wpAny_pure (tset_put (fun b s₁ Q' q => by cases b <;> first | exact wpAny_pure q | exact wpAny_rule q) ho hx hd (I.more sk room pc ?_ ?_ ?_) fun h' sb r => ?_)
      · first | (split <;> first | exact f1 | exact SetTable.fits_plain_off f1) | exact SetTable.fits_plain_off f1 | exact f1
      · first | (split <;> exact r1) | exact r1
      · first | (split <;> exact l1) | exact l1
      · dsimp only; exact wpAny_pure (fin h' sb r)
    · refine wpAny_bind (wpAny_pure ?_)
      simp only [↓reduceIte]
      refine tset_put (fun b s₁ Q' q => by cases b <;> first | exact wpAny_pure q | exact wpAny_rule q) ho hx hd (I.more sk room pc f1 r1 l1) fun h' sb r => ?_
      dsimp only; exact wpAny_pure (fin h' sb r)
theorem tset_add {k : Str} {u : Tok} {Q : Value → Shared → Prop} (R : TSet w s.heap a S n) (room : n + 1 < scanBound)
    (hQ : ∀ h', Heap.SameBut a s.heap h' → TSet w h' a (fun j => S j || decide (j = k)) (if S k = true then n else n + 1) → Q .none { s with heap := h', toks := s.toks + 1 }) :
    wpAny (model P w) A (call (.builtin "set.add") [.ref a, .str k u]) Q E s := by
  refine wpAny_call_entry F.slot_set_add (R.setOf (P := P)).typeIs F.entry_set_add ?_ (F.args_set_add_2 _ _)
  unfold Builtin.«set.add» Builtin.Frozenset.oneOther
  simp only [List.isEmpty_nil, bind_assoc]
  unfold Builtin.Frozenset.addrOf setAdd
  refine wpAny_bind (wpAny_pure ?_)
  try dsimp only
  refine wpAny_bind (wpAny_pure ?_)
  try dsimp only
  refine wpAny_bind (wpAny_holding (wpAny_bind ((PySem.strKind P w).pyHash (isS k u) ?_)))
  refine tset_hashed (s := { s with toks := s.toks + 1 }) R room fun h' sb r => ?_
  show wpAny _ _ (ret Value.none) _ _ _
  exact wpAny_pure ⟨_, rfl, hQ h' sb r⟩
theorem tset_new {h : Heap} (w : World) : TSet w (h.push { cls := .type "set", dict := none, data := .set #[] 0 (.fresh 0 0 (!w.params.followText "set-order")) }) h.objs.size (fun _ => false) 0 := by
  obtain ⟨o, es, ep, t, ho, hx, hd, _, _, _, b, f, z, r, l⟩ := setR_fresh (h := h) w
  have e0 : es.toList = [] := List.eq_nil_of_length_eq_zero (by rw [Array.length_toList]; exact z)
  exact ⟨o, es, ep, t, ho, hx, hd, (fun e he => by rw [e0] at he; cases he), (by rw [e0]; exact List.nodup_nil), (fun k => by rw [e0]; simp), b, f, z, r, l⟩
end
end Vk
set_option maxHeartbeats 2000000
namespace Vk
open PySem PySem.Spec PyProof.Rows L2 PpSet
/-- the set of texts at a -/
def TSetO (w : World) (a : Addr) (S : Str → Bool) (n : Nat) : HO := .ext fun h => TSet w h a S n
theorem tsetO_new {w : World} {P : Program} {H : Hp} {h : Heap} {a : Addr} {S : Str → Bool} {n : Nat} (R : TSet w h a S n) : ObjOk P w H h a (TSetO w a S n) :=
  ⟨R, R.elim fun o r => ⟨o, r.elim fun _ r => r.elim fun _ r => r.elim fun _ r => r.1⟩, fun _ _ p k => TSet.keep p k⟩
section
variable {X : Cx}
theorem tsetO_get {pins : List (Addr × Obj)} {σ : L2.St} {H : Hp} {s : Shared} {a : Addr} {S : Str → Bool} {n : Nat} (I : Inv X pins σ H s) (ha : H a = some (TSetO X.w a S n)) : TSet X.w s.heap a S n := (I.hok a _ ha).1
/-- what an element of a comprehension of texts asks, and gives on -/
def StepT (w : World) (D : Addr) (y : V) (H : Hp) (N : Hp → Prop) : Prop := ∃ (c : Str) (S : Str → Bool) (n : Nat), y = .str c ∧ H D = some (TSetO w D S n) ∧ n + 1 < scanBound ∧ N (upd H D (TSetO w D (fun j => S j || decide (j = c)) (if S c = true then n else n + 1)))
/-- an element goes into the set: for any kind of set -/
def Adds (X : Cx) (st : Addr → V → Hp → (Hp → Prop) → Prop) : Prop := ∀ (pins : List (Addr × Obj)) (σ : L2.St) (H : Hp) (s : Shared) (D : Addr) (y : V) (z : Value) (N : Hp → Prop) (E : Value → Shared → Prop), Inv X pins σ H s → st D y H N → RelV y z →
  wpAny (model X.prog X.w) X.A (call (.builtin "set.add") [.ref D, z]) (fun _ s' => ∃ H', Inv X pins σ H' s' ∧ N H') E s
theorem adds_t : Adds X (StepT X.w) := by
  intro pins σ H s D y z N E I h r
  obtain ⟨c, S, n, rfl, hD, room, nx⟩ := h
  obtain ⟨tk, rfl⟩ : ∃ tk, z = .str c tk := r
  refine tset_add (tsetO_get I hD) room fun h' sb new => ⟨_, I.write (e := D) (t' := s.toks + 1) (by rw [hD]; trivial) (.inl rfl) (fun b u hb hu => (sb.2 b hb).trans hu) ?_ (tsetO_new new), nx⟩
  obtain ⟨o, _, _, _, ho, _⟩ := new
  exact ⟨o, ho⟩
/-- {elt for target in iter if ..}: D the new set, o0 what is known of an empty one -/
def tSetc (o0 : Addr → HO) (st : Addr → V → Hp → (Hp → Prop) → Prop) (wi : TI) (g : TG) (tt : TT) (te : TE) (vs : List Nat) : TE := fun σ H Q => wi σ H fun J H1 => ∀ D, H1 D = none → ∃ W : Nat → Nat → Hp → Prop, (∃ m, W 0 m (upd H1 D (o0 D))) ∧ ∀ i m H, W i m H →
  (J.stop i H ∧ Q (.ref D) H) ∨ (J.go i H ∧ ∃ Nx : Hp → Prop, (∀ H', Nx H' → ∃ m', m' < m ∧ W (i + 1) m' H') ∧ ∀ x H', J.yld i H x H' → g x (wipe σ vs) H' fun σ2 H2 => wipe σ2 vs = wipe σ vs ∧ tt σ2 H2 fun b H3 =>
    if b = true then te σ2 H3 fun y H4 => st D y H4 Nx else Nx H3)
theorem pe_setc {o0 : Addr → HO} {st : Addr → V → Hp → (Hp → Prop) → Prop} {elt tg iter : Expr} {ifs : List Expr} {scope : Scope} {own : List (PySem.Str × Nat)} {pos : Pos} {wi : TI} {g : TG} {tt : TT} {te : TE}
    (new : ∀ (H : Hp) (h : Heap), ObjOk X.prog X.w H (h.push { cls := .type "set", dict := none, data := .set #[] 0 (.fresh 0 0 (!X.w.params.followText "set-order")) }) h.objs.size (o0 h.objs.size))
    (add : ∀ (s : Shared) (H : Hp) (ce : Env) (fp : List Addr), Adds (X.blk s H scope ce fp) st) (hc : X.calm = true) (hN : X.N.Nodup) (hi : PI X tg iter wi) (ok : BlkOk X.N X.env.scope scope own)
    (hg : ∀ (s : Shared) (H : Hp) (C : Addr) (cl : List (PySem.Str × Addr)) (fp : List Addr), PG (X.blk s H scope (compEnvC scope cl C X.env) fp) tg g) (ht : ∀ (s : Shared) (H : Hp) (C : Addr) (cl : List (PySem.Str × Addr)) (fp : List Addr), PTs (X.blk s H scope (compEnvC scope cl C X.env) fp) ifs tt)
    (he : ∀ (s : Shared) (H : Hp) (C : Addr) (cl : List (PySem.Str × Addr)) (fp : List Addr), PE (X.blk s H scope (compEnvC scope cl C X.env) fp) elt te) (hs : ∀ x, foldedSetIterable iter X.env x = pure x := by intro _; rfl) :
    PE X (.SetComp elt [⟨tg, iter, ifs, 0⟩] scope pos) (tSetc o0 st wi g tt te (own.map (·.2))) := by
  refine ⟨fun pins s σ H Q I h => ?_⟩
  rw [eval_SetComp]
  have closed : ∀ y ∈ scope.names, y.2 = .free → ∃ c, X.env.cells.lookup y.1 = some c := fun y hy e => (ok.free y hy e).elim (fun k => I.ok.has _ (.inl k)) fun k => I.ok.has _ (.inr k)
  refine wpAny_comprehension_free (use := none) rfl hs (closure_ok closed) ok.kind (fun y hy e => by rw [ok.uniq y hy, e]) (thn (hi.run pins s σ H _ I h) fun _ _ hx => thn hx fun _ s2 h2 => ?_)
  obtain ⟨it, fp, tn, J, H2, rfl, I2, T, st2, f2, q⟩ := h2
  refine newSet_ok (newEnv_comp ?_)
  have D0 : H2 s2.heap.objs.size = none := I2.hok.fresh (Nat.le_refl _)
  generalize hD : s2.heap.objs.size = D at D0
  obtain ⟨W, ⟨m0, w0⟩, turn⟩ := q D D0
  generalize hs3 : ({ s2 with heap := s2.heap.push { cls := .type "set", dict := none, data := .set #[] 0 (.fresh 0 0 (!X.w.params.followText "set-order")) } } : Shared) = s3
  have h3 : s3.heap = s2.heap.push { cls := .type "set", dict := none, data := .set #[] 0 (.fresh 0 0 (!X.w.params.followText "set-order")) } := by rw [← hs3]
  have I3 : Inv X pins σ (upd H2 D (o0 D)) s3 := by
    rw [← hs3]
    exact I2.laid (t' := s2.toks) (fun b o e => Heap.get?_push_of_some _ e) (Nat.le_of_eq hD) (by rw [← hD]; exact new _ _)
  have low : ∀ b ∈ fp, b < s2.heap.objs.size := fun b hb => (T.obj _ _ st2 b hb).elim fun o e => Heap.lt_size e.1
  have f3 : ∀ b ∈ fp, FpOk X pins (upd H2 D (o0 D)) b ∧ b < s3.heap.objs.size := fun b hb =>
    ⟨⟨by rw [upd_ne (by rw [← hD]; exact Nat.ne_of_lt (low b hb))]; exact (f2 b hb).1, (f2 b hb).2⟩, by rw [h3, Heap.size_push]; exact Nat.lt_succ_of_lt (low b hb)⟩
  have st3 : tn 0 s3.heap := T.keep _ _ _ st2 fun b _ o e => by rw [h3]; exact Heap.get?_push_of_some _ e
  generalize hH3 : upd H2 D (o0 D) = H3 at I3 f3 w0
  have I4 := block_start I3 ok hN f3
  show codeAny _ _ (.compStart (.SetComp elt [⟨tg, iter, ifs, 0⟩] scope pos) 0 (.ref it) (.ref D) (compEnvC scope (cellsFrom (s3.heap.objs.size + 1) scope.names (cloFrom X.env.cells scope.names [])) s3.heap.objs.size X.env)) (compPost (model X.prog X.w) X.A X.xe none _ (.ref D) s3.heap.objs.size) { s3 with heap := pushCells (s3.heap.push { cls := .type "dict", data := .dict #[] }) scope.names }
  have pg := hg s3 H3 s3.heap.objs.size (cellsFrom (s3.heap.objs.size + 1) scope.names (cloFrom X.env.cells scope.names [])) fp
  have pt := ht s3 H3 s3.heap.objs.size (cellsFrom (s3.heap.objs.size + 1) scope.names (cloFrom X.env.cells scope.names [])) fp
  have pe := he s3 H3 s3.heap.objs.size (cellsFrom (s3.heap.objs.size + 1) scope.names (cloFrom X.env.cells scope.names [])) fp
  generalize hce : compEnvC scope (cellsFrom (s3.heap.objs.size + 1) scope.names (cloFrom X.env.cells scope.names [])) s3.heap.objs.size X.env = ce at I4 pg pt pe ⊢
  have loc : ce.locals = s3.heap.objs.size := by rw [← hce]; rfl
  have pa := add s3 H3 ce fp
  generalize hs4 : ({ s3 with heap := pushCells (s3.heap.push { cls := .type "dict", data := .dict #[] }) scope.names } : Shared) = s4 at I4 ⊢
  have st4 : tn 0 s4.heap := T.keep _ _ _ st3 fun b _ o e => by rw [← hs4]; exact pushCells_keeps _ _ _ _ (Heap.get?_push_of_some _ e)
  have foot : ∀ {σ' : L2.St} {H' : Hp} {s' : Shared}, Inv (X.blk s3 H3 scope ce fp) [] σ' H' s' → (∀ b ∈ fp, H' b = none) → ∀ b ∈ fp, FpOk (X.blk s3 H3 scope ce fp) [] H' b := fun {σ' H' s'} I' nn b hb =>
    ⟨nn b hb, (I'.ok.exf b hb).1, I'.ok.exfs b hb, .inl hb, fun x c e => (I'.ok.exf b hb).2 x c e, fun p hp => absurd (show p ∈ ([] : List (Addr × Obj)) ++ [] from hp) (by simp)⟩
  refine codeAny_compStart_set ?_ (T.self X.A 0 _ _ _ st4 ?_)
  all_goals
    refine compLoopS_any (fun n s' => ∃ i H', Inv (X.blk s3 H3 scope ce fp) [] (wipe σ (own.map (·.2))) H' s' ∧ tn i s'.heap ∧ (∀ b ∈ fp, H' b = none) ∧ W i n H') ?_ m0 ⟨0, H3, I4, st4, fun b hb => (f3 b hb).1.1, w0⟩
    rintro n s5 ⟨i, H5, I5, st5, n5, w5⟩
    rcases turn i n H5 w5 with ⟨stop, qq⟩ | ⟨go, Nx, hNx, step⟩
    · refine thnF (T.done (X.blk s3 H3 scope ce fp) rfl rfl rfl hc i [] s5 _ H5 (fun _ _ => False) I5 (foot I5 n5) st5 stop) fun r s6 ⟨hr, I6⟩ => ?_
      subst hr
      have I7 : Inv X pins σ H5 s6 := I3.call' (ch := fp) I6.os I6.base I6.hok I6.bare fun b hb => ⟨(f3 b hb).1.2.2.2.1, (f3 b hb).1.2.1, (f3 b hb).1.2.2.2.2.1, (f3 b hb).1.2.2.2.2.2⟩
      obtain ⟨m, hn, _⟩ := I6.loc
      have hn : s6.heap.Ns ce.locals m := hn
      have nC : H5 ce.locals = none := I6.free
      rw [loc] at hn nC
      refine ⟨m, hn, fun h'' sb => ?_⟩
      obtain ⟨f0, f1, _, f3', f4, f5⟩ := I3.fpOk (Nat.le_refl _) nC
      exact ⟨.ref D, H5, I7.turned (t' := s6.toks) (fun b o hb e => (sb.2 b hb).trans e) f0 f1 f3' f4 f5, rfl, qq⟩
    · refine thnF (T.item (X.blk s3 H3 scope ce fp) rfl rfl rfl hc i [] s5 _ H5 (fun _ _ => False) I5 (foot I5 n5) st5 go) fun r s6 ⟨u, hr, h6⟩ => ?_
      subst hr
      refine thnF h6 fun _ s7 ⟨x, H7, I7, r7, y7, st7, n7⟩ => ?_
      refine thnF (pg.run _ s7 _ H7 x u _ (I7.pinned (foot I7 n7) (T.obj _ _ st7)) r7 (step x H7 y7)) fun _ s8 ⟨σ8, H8, I8, hw8, q8⟩ => ?_
      refine thnF (pt.run _ s8 σ8 H8 _ I8 q8) fun b s9 ⟨H9, I9, q9⟩ => ?_
      have fin : ∀ {s' : Shared} {H' : Hp}, Inv (X.blk s3 H3 scope ce fp) ([] ++ pinsAt fp s7.heap) σ8 H' s' → Nx H' → ∃ m, m < n ∧ ∃ i H', Inv (X.blk s3 H3 scope ce fp) [] (wipe σ (own.map (·.2))) H' s' ∧ tn i s'.heap ∧ (∀ b ∈ fp, H' b = none) ∧ W i m H' := fun {s' H'} I' nx => by
        obtain ⟨m', hm, w'⟩ := hNx H' nx
        have pin : ∀ b ∈ fp, ∀ o, s7.heap.get? b = some o → s'.heap.get? b = some o ∧ H' b = none := fun b hb o e =>
          have z := I'.pin (b, o) (List.mem_append_right _ (List.mem_append_right _ (mem_pinsAt hb e)))
          ⟨z.1, z.2.1⟩
        refine ⟨m', hm, i + 1, H', (I'.unpinned (pins := [])).weak (by rw [← hw8, wipe_length]) (fun j v e => by rw [← hw8] at e; exact (wipe_some e).1), T.keep _ _ _ st7 fun b hb o e => (pin b hb o e).1, fun b hb => ?_, w'⟩
        obtain ⟨o, e, _⟩ := T.obj _ _ st7 b hb
        exact (pin b hb o e).2
      cases b with
      | false =>
        simp only [Bool.false_eq_true, if_false] at q9 ⊢
        exact fin I9 q9
      | true =>
        simp only [if_true] at q9 ⊢
        refine thnF (pe.run _ s9 σ8 H9 _ I9 q9) fun z s10 ⟨yv, H10, I10, r10, hst⟩ => ?_
        exact thn (pa _ _ _ _ _ _ _ _ _ I10 hst r10) fun _ s11 ⟨H11, I11, nx⟩ => fin I11 nx
end
end Vk
set_option maxHeartbeats 2000000
namespace Vk
open PySem PySem.Spec PyProof.Rows L2
section
variable {P : Program} {w : World} {A : Around} {E : Value → Shared → Prop} {s : Shared} {a : Addr} {S : Str → Bool} {n : Nat}
theorem sorted_tset {Q : Value → Shared → Prop} (R : TSet w s.heap a S n) (hh : A.handled = none) (h64 : n < 64)
    (hQ : ∀ s' p (out : Array Value) (c : Nat) (ys : List Str), (∀ b o, s.heap.get? b = some o → s'.heap.get? b = some o) → s'.gens = s.gens → s'.os = s.os → s.heap.objs.size ≤ p →
      s'.heap.get? p = some (seqObj "list" out c) → StrsAre out.toList ys → sortedS ys = true → ys.Nodup → (∀ k, k ∈ ys ↔ S k = true) → ys.length = n → Q (.ref p) s') :
    wpAny (model P w) A (call (.builtin "sorted") [.ref a]) Q E s := by
  obtain ⟨o, es, ep, t, ho, hx, hd, I⟩ := R
  refine Calls.call_function_entry kind_sorted plain_sorted entry_sorted (args_sorted1 _) ?_
  unfold Builtin.«sorted»
  refine wpAny_bind (m := checkCount "sorted" 1 1 _) (wpAny_pure ?_)
  refine wpAny_bind (collect_set (A := A.in1) hh ⟨o, ho, hx.1, hd⟩ I.fits I.small I.ris I.led fun s1 vs k1 hz g1 o1 pm => ?_)
  have vl : vs.length = n := by rw [pm.length_eq, List.length_map, Array.length_toList]; exact I.size
  have st : StrsAre vs (vs.map strOf) := strsAre_map vs fun v hv => by
    obtain ⟨e, he, q⟩ := List.mem_map.mp (pm.mem_iff.mp hv)
    obtain ⟨k, u, rfl⟩ := I.all e he
    exact ⟨k, u, q.symm⟩
  have pk : (vs.map strOf).Perm (es.toList.map txt) := by
    have q := pm.map strOf
    rw [List.map_map] at q
    refine q.trans (List.Perm.of_eq (List.map_congr_left fun e he => ?_))
    obtain ⟨k, u, rfl⟩ := I.all e he
    rfl
  refine wpAny_bind (wpAny_newList ?_ (by rw [vl, sizeLine_eq]; omega))
  have hl : (s1.heap.push (seqObj "list" vs.toArray 0)).get? s1.heap.objs.size = some (seqObj "list" vs.toArray 0) := Heap.get?_push_size _ rfl
  refine wpAny_bind (wpAny_holding (wpAny_call_entry slot_list_sort ⟨_, hl, rfl⟩ entry_list_sort (list_sort_treeK strKind_oneLt hl st.keysOf (fun v₁ v₂ rest e => keyKind_strs (by rw [← e]; exact st)) (by rw [vl]; exact h64) fun st' hp hs => ⟨_, rfl, ?_⟩) (args_list_sort _)))
  obtain ⟨ys, y1, y2, y3⟩ := sorted_out_str st hp hs
  obtain ⟨c, hc⟩ := sortedHeap_at (vs := vs) (out := (arrOf st').map (·.2)) hl
  have pn : ys.Perm (es.toList.map txt) := y2.trans pk
  refine wpAny_pure ⟨_, rfl, hQ _ s1.heap.objs.size _ c ys (fun b u e => ?_) g1 o1 hz hc y1 y3 (pn.nodup_iff.mpr I.nd) (fun k => by rw [pn.mem_iff, ← I.mem k]) (by rw [pn.length_eq, List.length_map, Array.length_toList]; exact I.size)⟩
  have q := k1 b u e
  have lt := Heap.lt_size q
  show (sortedHeap (s1.heap.push (seqObj "list" vs.toArray 0)) s1.heap.objs.size vs _).get? b = some u
  rw [sortedHeap_old (Nat.ne_of_lt lt) (by rw [size_push']; exact Nat.lt_succ_of_lt lt)]
  exact Heap.get?_push_of_some _ q
end
/-- sorted(found), fewer than 64 texts -/
def rSortedT (w : World) : List V → Hp → VK → Prop := fun vs H Q => ∃ (a : Addr) (S : Str → Bool) (n : Nat), vs = [V.ref a] ∧ H a = some (TSetO w a S n) ∧ n < 64 ∧
  ∀ (ys : List Str) (p : Addr), sortedS ys = true → ys.Nodup → (∀ k : Str, k ∈ ys ↔ S k = true) → ys.length = n → H p = none → Q (.ref p) (upd H p (.lst (ys.map V.str)))
theorem cr_sortedT {X : Cx} (hc : X.calm = true) : CallR X (.builtin "sorted") (rSortedT X.w) := by
  intro pins s σ H vs us Q I r h
  obtain ⟨a, S, n, rfl, ha, h64, q⟩ := h
  rw [Vals.ref1 r]
  refine sorted_tset (tsetO_get I ha) (I.ok.hd hc) h64 fun s' p out c ys k g o hp hy st so nd hm hl => ?_
  have lz : (ys.map V.str).length ≤ sizeLine := by rw [List.length_map, hl, sizeLine_eq]; omega
  have fr : H p = none := I.hok.fresh hp
  have J : Inv X pins σ (upd H p (.lst (ys.map V.str))) { s with heap := s'.heap, gens := s'.gens, drawn := s'.drawn, toks := s'.toks } :=
    I.call (ch := []) (Un.laid k hp fr) (I.hok.laid k hp ⟨lz, out.toList, c, vals_of_strs st, hy⟩) (by rw [g]; exact I.bare) (fun _ z => nomatch z)
  have e : s' = { s with heap := s'.heap, gens := s'.gens, drawn := s'.drawn, toks := s'.toks } := by
    cases s'
    cases s
    cases o
    rfl
  rw [e]
  exact ⟨.ref p, _, J, rfl, q ys p so nd hm hl fr⟩
end Vk
namespace Vk
open PySem PySem.Spec PyProof.Rows L2
/-! ### texts in order -/
def leT (a b : Str) : Prop := ltCps b.cps.toList a.cps.toList = false
def ltT (a b : Str) : Prop := ltCps a.cps.toList b.cps.toList = true
theorem lt_irr : ∀ l : List Nat, ltCps l l = false
  | [] => rfl
  | a :: r => by
    show (decide (a < a) || (a == a && ltCps r r)) = false
    rw [lt_irr r]; simp
theorem lt_tr : ∀ a b c : List Nat, ltCps a b = true → ltCps b c = true → ltCps a c = true
  | [], [], _, h, _ => by cases h
  | [], _ :: _, [], _, h => by cases h
  | [], _ :: _, _ :: _, _, _ => rfl
  | _ :: _, [], _, h, _ => by cases h
  | _ :: _, _ :: _, [], _, h => by cases h
  | a :: r, b :: t, c :: u, h, g => by
    have h1 : (decide (a < b) || (a == b && ltCps r t)) = true := h
    have g1 : (decide (b < c) || (b == c && ltCps t u)) = true := g
    show (decide (a < c) || (a == c && ltCps r u)) = true
    simp only [Bool.or_eq_true, Bool.and_eq_true, decide_eq_true_eq, beq_iff_eq] at h1 g1 ⊢
    rcases h1 with h1 | ⟨rfl, h2⟩
    · rcases g1 with g1 | ⟨rfl, _⟩
      · exact .inl (by omega)
      · exact .inl h1
    · rcases g1 with g1 | ⟨rfl, g2⟩
      · exact .inl g1
      · exact .inr ⟨rfl, lt_tr r t u h2 g2⟩
theorem lt_tot : ∀ a b : List Nat, ltCps a b = false → ltCps b a = false → a = b
  | [], [], _, _ => rfl
  | [], _ :: _, h, _ => by cases h
  | _ :: _, [], _, h => by cases h
  | a :: r, b :: t, h, g => by
    have h1 : (decide (a < b) || (a == b && ltCps r t)) = false := h
    have g1 : (decide (b < a) || (b == a && ltCps t r)) = false := g
    simp only [Bool.or_eq_false_iff, decide_eq_false_iff_not] at h1 g1
    have e : a = b := by omega
    subst e
    have h2 := h1.2
    have g2 := g1.2
    simp only [beq_self_eq_true, Bool.true_and] at h2 g2
    rw [lt_tot r t h2 g2]
theorem ltT_irr (a : Str) : ¬ ltT a a := fun h => by unfold ltT at h; rw [lt_irr] at h; cases h
theorem ltT_tr {a b c : Str} (h : ltT a b) (g : ltT b c) : ltT a c := lt_tr _ _ _ h g
theorem str_ext {a b : Str} (h : a.cps.toList = b.cps.toList) : a = b := by
  cases a; cases b
  congr 1
  exact Array.toList_inj.mp h
theorem ltT_of {a b : Str} (h : leT a b) (n : a ≠ b) : ltT a b := by
  unfold ltT
  cases q : ltCps a.cps.toList b.cps.toList with
  | true => rfl
  | false => exact absurd (str_ext (lt_tot _ _ q h)) n
theorem leT_tr {a b c : Str} (h : leT a b) (g : leT b c) : leT a c := by
  by_cases e : a = b
  · rw [e]; exact g
  by_cases e2 : b = c
  · rw [← e2]; exact h
  have l := ltT_tr (ltT_of h e) (ltT_of g e2)
  unfold leT
  cases q : ltCps c.cps.toList a.cps.toList with
  | false => rfl
  | true => exact absurd (lt_tr _ _ _ l q) (by rw [lt_irr]; exact Bool.false_ne_true)
theorem rising_of : ∀ (p : Str) (l : List Str), risingS p l = true → (p :: l).Pairwise leT
  | p, [], _ => List.pairwise_singleton _ _
  | p, x :: r, h => by
    have h1 : (!ltCps x.cps.toList p.cps.toList && risingS x r) = true := h
    simp only [Bool.and_eq_true, Bool.not_eq_true'] at h1
    have ih := rising_of x r h1.2
    refine List.pairwise_cons.mpr ⟨fun y hy => ?_, ih⟩
    rcases List.mem_cons.mp hy with e | e
    · rw [e]; exact h1.1
    · exact leT_tr h1.1 ((List.pairwise_cons.mp ih).1 y e)
theorem sorted_lt : ∀ {l : List Str}, sortedS l = true → l.Nodup → l.Pairwise ltT := by
  intro l h d
  have p : l.Pairwise leT := by
    cases l with
    | nil => exact List.Pairwise.nil
    | cons x r => exact rising_of x r h
  exact (p.and d).imp fun h => ltT_of h.1 h.2
theorem one_order : ∀ {l m : List Str}, l.Pairwise ltT → m.Pairwise ltT → (∀ k, k ∈ l ↔ k ∈ m) → l = m
  | [], [], _, _, _ => rfl
  | [], y :: t, _, _, h => by have := (h y).2 (List.mem_cons_self ..); cases this
  | x :: r, [], _, _, h => by have := (h x).1 (List.mem_cons_self ..); cases this
  | x :: r, y :: t, p, q, h => by
    obtain ⟨p1, p2⟩ := List.pairwise_cons.mp p
    obtain ⟨q1, q2⟩ := List.pairwise_cons.mp q
    have e : x = y := by
      rcases List.mem_cons.mp ((h x).1 (List.mem_cons_self ..)) with e | e
      · exact e
      rcases List.mem_cons.mp ((h y).2 (List.mem_cons_self ..)) with e' | e'
      · exact e'.symm
      exact absurd (ltT_tr (p1 y e') (q1 x e)) (ltT_irr x)
    subst e
    refine congrArg _ (one_order p2 q2 fun k => ⟨fun hk => ?_, fun hk => ?_⟩)
    · rcases List.mem_cons.mp ((h k).1 (List.mem_cons_of_mem _ hk)) with e | e
      · rw [e] at hk; exact absurd (p1 x hk) (ltT_irr x)
      · exact e
    · rcases List.mem_cons.mp ((h k).2 (List.mem_cons_of_mem _ hk)) with e | e
      · rw [e] at hk; exact absurd (q1 x hk) (ltT_irr x)
      · exact e
theorem few {α : Type} [DecidableEq α] : ∀ {l m : List α}, l.Nodup → (∀ k ∈ l, k ∈ m) → l.length ≤ m.length
  | [], _, _, _ => Nat.zero_le _
  | x :: r, m, d, h => by
    obtain ⟨d1, d2⟩ := List.nodup_cons.mp d
    have hx := h x (List.mem_cons_self ..)
    have ih := few (m := m.erase x) d2 fun k hk => (List.mem_erase_of_ne (fun e => d1 (by rw [← e]; exact hk))).mpr (h k (List.mem_cons_of_mem _ hk))
    rw [List.length_erase_of_mem hx] at ih
    have : 0 < m.length := List.length_pos_of_mem hx
    show r.length + 1 ≤ m.length
    omega
/-! ### a set comprehension over a list -/
theorem setc_list {K : PySem.W.Frag} {o0 : Addr → HO} {st : Addr → V → Hp → (Hp → Prop) → Prop} {a : Addr} {xs : List V} {g : TG} {tt : TT} {te : TE} {vs : List Nat} {σ : L2.St} {H1 : Hp} {D : Addr} {Qd : Hp → Prop} (Pv : Nat → Hp → Prop) (h0 : Pv 0 (upd H1 D (o0 D))) (hl : ∀ i H, i ≤ xs.length → Pv i H → SqL K H a xs)
    (hs : ∀ i x H, xs[i]? = some x → Pv i H → g x (wipe σ vs) H fun σ2 H2 => wipe σ2 vs = wipe σ vs ∧ tt σ2 H2 fun b H3 => if b = true then te σ2 H3 fun y H4 => st D y H4 (Pv (i + 1)) else Pv (i + 1) H3) (hd : ∀ H, Pv xs.length H → Qd H) :
    ∃ W : Nat → Nat → Hp → Prop, (∃ m, W 0 m (upd H1 D (o0 D))) ∧ ∀ i m H, W i m H →
      ((Itl K a).stop i H ∧ Qd H) ∨ ((Itl K a).go i H ∧ ∃ Nx : Hp → Prop, (∀ H', Nx H' → ∃ m', m' < m ∧ W (i + 1) m' H') ∧ ∀ x H', (Itl K a).yld i H x H' → g x (wipe σ vs) H' fun σ2 H2 => wipe σ2 vs = wipe σ vs ∧ tt σ2 H2 fun b H3 =>
        if b = true then te σ2 H3 fun y H4 => st D y H4 Nx else Nx H3) := by
  refine ⟨fun i m H => m = xs.length - i ∧ i ≤ xs.length ∧ Pv i H, ⟨xs.length, rfl, Nat.zero_le _, h0⟩, ?_⟩
  rintro i m H ⟨rfl, hi, p⟩
  have q := hl i H hi p
  by_cases lt : i < xs.length
  · refine .inr ⟨⟨xs, xs[i], q, by simp [lt]⟩, Pv (i + 1), fun H' p' => ⟨xs.length - (i + 1), by omega, rfl, lt, p'⟩, fun x H' y => ?_⟩
    obtain ⟨rfl, y⟩ := y
    exact hs i x _ (y xs q) p
  · obtain rfl : i = xs.length := by omega
    exact .inl ⟨⟨xs, q, Nat.le_refl _⟩, hd H p⟩
end Vk
namespace K02
open PySem L2 Vk
def topS (i : Nat) : Stmt := PySem.Challenge.pw_stillinstep_k02_words_of_expressions.main.body.getD i (.Pass ⟨0, 0, 0, 0⟩)
abbrev s_words_of : Stmt := topS 1
abbrev N_words_of : List Str := ["expression", "uses"]
abbrev P_words_of : List Str := ["expression"]
theorem sc_words_of : FnScope N_words_of P_words_of (defScope s_words_of) := ⟨rfl, rfl, rfl, by decide +kernel, rfl, by decide +kernel, by decide +kernel⟩
abbrev s_operands_of : Stmt := topS 2
abbrev N_operands_of : List Str := ["expression", "kind"]
abbrev P_operands_of : List Str := ["expression"]
theorem sc_operands_of : FnScope N_operands_of P_operands_of (defScope s_operands_of) := ⟨rfl, rfl, rfl, by decide +kernel, rfl, by decide +kernel, by decide +kernel⟩
abbrev s_uses_of : Stmt := topS 3
abbrev N_uses_of : List Str := ["expression", "uses", "part"]
abbrev P_uses_of : List Str := ["expression"]
theorem sc_uses_of : FnScope N_uses_of P_uses_of (defScope s_uses_of) := ⟨rfl, rfl, rfl, by decide +kernel, rfl, by decide +kernel, by decide +kernel⟩
abbrev s_ascending : Stmt := topS 4
abbrev N_ascending : List Str := ["uses", "wanted", "kind", "word"]
abbrev P_ascending : List Str := ["uses", "wanted"]
theorem sc_ascending : FnScope N_ascending P_ascending (defScope s_ascending) := ⟨rfl, rfl, rfl, by decide +kernel, rfl, by decide +kernel, by decide +kernel⟩
abbrev s_law_cell : Stmt := topS 6
abbrev N_law_cell : List Str := ["script", "k", "seed", "cell"]
abbrev P_law_cell : List Str := ["script", "k"]
theorem sc_law_cell : FnScope N_law_cell P_law_cell (defScope s_law_cell) := ⟨rfl, rfl, rfl, by decide +kernel, rfl, by decide +kernel, by decide +kernel⟩
abbrev s_law_feed : Stmt := topS 7
abbrev N_law_feed : List Str := ["cell", "rest"]
abbrev P_law_feed : List Str := ["cell"]
theorem sc_law_feed : FnScope N_law_feed P_law_feed (defScope s_law_feed) := ⟨rfl, rfl, rfl, by decide +kernel, rfl, by decide +kernel, by decide +kernel⟩
abbrev s_law_take : Stmt := topS 8
abbrev N_law_take : List Str := ["feed", "size", "digit", "twice"]
abbrev P_law_take : List Str := ["feed", "size"]
theorem sc_law_take : FnScope N_law_take P_law_take (defScope s_law_take) := ⟨rfl, rfl, rfl, by decide +kernel, rfl, by decide +kernel, by decide +kernel⟩
abbrev s_law_number : Stmt := topS 9
abbrev N_law_number : List Str := ["feed", "kind"]
abbrev P_law_number : List Str := ["feed"]
theorem sc_law_number : FnScope N_law_number P_law_number (defScope s_law_number) := ⟨rfl, rfl, rfl, by decide +kernel, rfl, by decide +kernel, by decide +kernel⟩
abbrev s_law_word : Stmt := topS 10
abbrev N_law_word : List Str := ["feed", "menu", "letters", "kind", "size", "word", "k"]
abbrev P_law_word : List Str := ["feed"]
theorem sc_law_word : FnScope N_law_word P_law_word (defScope s_law_word) := ⟨rfl, rfl, rfl, by decide +kernel, rfl, by decide +kernel, by decide +kernel⟩
abbrev s_law_near : Stmt := topS 11
abbrev N_law_near : List Str := ["feed", "word", "letters", "kind", "near", "at"]
abbrev P_law_near : List Str := ["feed", "word"]
theorem sc_law_near : FnScope N_law_near P_law_near (defScope s_law_near) := ⟨rfl, rfl, rfl, by decide +kernel, rfl, by decide +kernel, by decide +kernel⟩
abbrev s_law_word_row : Stmt := topS 12
abbrev N_law_word_row : List Str := ["feed", "many", "words", "k", "word"]
abbrev P_law_word_row : List Str := ["feed", "many"]
theorem sc_law_word_row : FnScope N_law_word_row P_law_word_row (defScope s_law_word_row) := ⟨rfl, rfl, rfl, by decide +kernel, rfl, by decide +kernel, by decide +kernel⟩
abbrev s_law_leaf : Stmt := topS 13
abbrev N_law_leaf : List Str := ["feed", "names"]
abbrev P_law_leaf : List Str := ["feed", "names"]
theorem sc_law_leaf : FnScope N_law_leaf P_law_leaf (defScope s_law_leaf) := ⟨rfl, rfl, rfl, by decide +kernel, rfl, by decide +kernel, by decide +kernel⟩
abbrev s_law_tree : Stmt := topS 14
abbrev N_law_tree : List Str := ["feed", "room", "deep", "tight", "names", "arrays", "menu", "sort", "signs", "word", "many", "spine", "parts", "k"]
abbrev P_law_tree : List Str := ["feed", "room", "deep", "tight", "names", "arrays", "menu"]
theorem sc_law_tree : FnScope N_law_tree P_law_tree (defScope s_law_tree) := ⟨rfl, rfl, rfl, by decide +kernel, rfl, by decide +kernel, by decide +kernel⟩
abbrev s_law_deep : Stmt := topS 15
abbrev N_law_deep : List Str := ["feed", "kind"]
abbrev P_law_deep : List Str := ["feed"]
theorem sc_law_deep : FnScope N_law_deep P_law_deep (defScope s_law_deep) := ⟨rfl, rfl, rfl, by decide +kernel, rfl, by decide +kernel, by decide +kernel⟩
abbrev s_law_parts : Stmt := topS 16
abbrev N_law_parts : List Str := ["expr"]
abbrev P_law_parts : List Str := ["expr"]
theorem sc_law_parts : FnScope N_law_parts P_law_parts (defScope s_law_parts) := ⟨rfl, rfl, rfl, by decide +kernel, rfl, by decide +kernel, by decide +kernel⟩
abbrev s_law_subs : Stmt := topS 17
abbrev N_law_subs : List Str := ["expr", "rows", "part"]
abbrev P_law_subs : List Str := ["expr"]
theorem sc_law_subs : FnScope N_law_subs P_law_subs (defScope s_law_subs) := ⟨rfl, rfl, rfl, by decide +kernel, rfl, by decide +kernel, by decide +kernel⟩
abbrev s_law_same : Stmt := topS 18
abbrev N_law_same : List Str := ["given", "due", "k", "j"]
abbrev P_law_same : List Str := ["given", "due"]
theorem sc_law_same : FnScope N_law_same P_law_same (defScope s_law_same) := ⟨rfl, rfl, rfl, by decide +kernel, rfl, by decide +kernel, by decide +kernel⟩
abbrev s_law_words : Stmt := topS 19
abbrev N_law_words : List Str := ["rows", "sort", "words", "part"]
abbrev P_law_words : List Str := ["rows", "sort"]
theorem sc_law_words : FnScope N_law_words P_law_words (defScope s_law_words) := ⟨rfl, rfl, rfl, by decide +kernel, rfl, by decide +kernel, by decide +kernel⟩
abbrev s_law_triple : Stmt := topS 20
abbrev N_law_triple : List Str := ["expr", "rows"]
abbrev P_law_triple : List Str := ["expr"]
theorem sc_law_triple : FnScope N_law_triple P_law_triple (defScope s_law_triple) := ⟨rfl, rfl, rfl, by decide +kernel, rfl, by decide +kernel, by decide +kernel⟩
abbrev s_law_drawn : Stmt := topS 21
abbrev N_law_drawn : List Str := ["cell", "names", "arrays", "feed", "room", "menu"]
abbrev P_law_drawn : List Str := ["cell", "names", "arrays"]
theorem sc_law_drawn : FnScope N_law_drawn P_law_drawn (defScope s_law_drawn) := ⟨rfl, rfl, rfl, by decide +kernel, rfl, by decide +kernel, by decide +kernel⟩
abbrev s_law : Stmt := topS 22
abbrev N_law : List Str := ["script", "feed", "names", "arrays", "expr", "other", "part"]
abbrev P_law : List Str := ["script"]
theorem sc_law : FnScope N_law P_law (defScope s_law) := ⟨rfl, rfl, rfl, by decide +kernel, rfl, by decide +kernel, by decide +kernel⟩
end K02
namespace K02
open PySem L2 Vk
section
variable {P : Program} {w : World} {K : PySem.W.Frag} {mg : Str → Option Value} {base : Heap}
theorem ok_take {f : Addr} {fd : FuncData} {k : Nat} (F : Fun K "_law_take" "_law_take" s_law_take f fd) (mint : mg "int" = none) : FnOk P w K mg base CX0 (k + 1) f fd P_law_take spTake := by
  refine F.ok sc_law_take (fun vs H Q E h => ?_) (fun cdv A outer s H vs Q E hr h => ?_)
  · obtain ⟨a, n, rfl, _⟩ := h
    rfl
  obtain ⟨a, n, rfl, ⟨x, y, z, e⟩, n0, n1, q⟩ := h
  refine ⟨_, (pss_cons (ps_asg (pe_op op_add (pe_ix ix_list (pv 0) pe_int (fun _ _ => rfl)) pe_int) (pg_sub (pv 0) pe_int set_list))
    (C8.pss_cut (ps_if (PW.pt (pw_and (pt_cmpR op_eq (pe_ix ix_list (pv 0) pe_int (fun _ _ => rfl)) pe_int (nomark _)) (pw_and1 (pt_cmpR op_eq (pe_ix ix_list (pv 0) pe_int (fun _ _ => rfl)) pe_int (nomark _)))))
      (pss_cons (ps_asg pe_int (pg_sub (pv 0) pe_int set_list))
      (pss_one (ps_asg (pe_op op_add pe_int (pe_ix ix_list (pv 0) pe_int (fun _ _ => rfl))) (pg_sub (pv 0) pe_int set_list))))
      pss_nil)
    (pss_cons (ps_if (pt_cmpR op_eq (pe_ix ix_list (pv 0) pe_int (fun _ _ => rfl)) pe_int (nomark _))
      (pss_cons (ps_set (i := 2) sc_law_take.nd rfl (Or.inl rfl) (pe_op op_modN (pe_callTy call_int1 (by rfl) mint (by decide +kernel) (pa_cons (pe_ix ix_list (pv 0) pe_int (fun _ _ => rfl)) pa_nil)) (pv 1)))
      (pss_cons (ps_asg (pe_op op_fdivN (pe_callTy call_int1 (by rfl) mint (by decide +kernel) (pa_cons (pe_ix ix_list (pv 0) pe_int (fun _ _ => rfl)) pa_nil)) (pv 1)) (pg_sub (pv 0) pe_int set_list))
      (pss_one (ps_ret (pv 2)))))
      pss_nil)
    (pss_cons (ps_asg (pe_op op_modN (pe_callTy call_int1 (by rfl) mint (by decide +kernel) (pa_cons (pe_op op_add (pe_op op_add (pe_op op_mul (pe_ix ix_list (pv 0) pe_int (fun _ _ => rfl)) pe_int) (pe_op op_mul pe_int (pe_ix ix_list (pv 0) pe_int (fun _ _ => rfl)))) pe_int) pa_nil)) pe_int) (pg_sub (pv 0) pe_int set_list))
    (pss_cons (ps_set (i := 3) sc_law_take.nd rfl (Or.inl rfl) (pe_op op_modN (pe_callTy call_int1 (by rfl) mint (by decide +kernel) (pa_cons (pe_op op_mul (pe_ix ix_list (pv 0) pe_int (fun _ _ => rfl)) (pe_op op_add (pe_op op_fdivN (pe_ix ix_list (pv 0) pe_int (fun _ _ => rfl)) pe_int) pe_int)) pa_nil)) pe_int))
    (pss_one (ps_ret (pe_op op_modN (pe_op op_fdivN (pv 3) pe_int) (pv 1))))))))), ?_⟩
  -- feed[2] = feed[2] + 1
  refine ⟨_, rfl, _, _, _, _, rfl, rfl, SqL.of e, atI_nat (j := 2) rfl, _, _, rfl, rfl, _, rfl, _, _, _, _, rfl, rfl, e, rfl, ?_⟩
  have e1 : (upd H a (.lst [.int x, .int y, .int (z + 1)])) a = some (.lst [.int x, .int y, .int (z + 1)]) := upd_same
  have g1 : ∀ b o, b ≠ a → H b = some o → (upd H a (.lst [.int x, .int y, .int (z + 1)])) b = some o := fun b o nb eb => by rw [upd_ne nb]; exact eb
  refine ⟨fun σ' H' => ∃ x y z : Int, σ' = [some (.ref a), some (.int n), none, none] ∧ H' a = some (.lst [.int x, .int y, .int z]) ∧ (∀ b o, b ≠ a → H b = some o → H' b = some o), ?_, fun σ' H' hm => ?_⟩
  · refine ⟨_, rfl, _, _, _, _, rfl, rfl, SqL.of e1, atI_nat (j := 0) rfl, rfl, _, rfl, ite2 (fun c => ?_) (fun c => ?_)⟩
    · refine ⟨_, rfl, _, _, _, _, rfl, rfl, SqL.of e1, atI_nat (j := 1) rfl, rfl, _, rfl, ite2 (fun c => ?_) (fun c => ?_)⟩
      · refine ⟨_, rfl, _, _, _, _, rfl, rfl, e1, rfl, ?_⟩
        refine ⟨_, rfl, _, _, _, _, rfl, rfl, SqL.of upd_same, atI_nat (j := 2) rfl, _, _, rfl, rfl, _, rfl, _, _, _, _, rfl, rfl, upd_same, rfl, ?_⟩
        exact ⟨_, _, _, rfl, upd_same, fun b o nb eb => by rw [upd_ne nb, upd_ne nb]; exact g1 b o nb eb⟩
      · exact ⟨_, _, _, rfl, e1, g1⟩
    · exact ⟨_, _, _, rfl, e1, g1⟩
  obtain ⟨x, y, z, rfl, e2, g2⟩ := hm
  refine ⟨_, rfl, _, _, _, _, rfl, rfl, SqL.of e2, atI_nat (j := 0) rfl, rfl, _, rfl, ite2 (fun c => ?_) (fun c => ?_)⟩
  · refine ⟨_, rfl, _, _, _, _, rfl, rfl, SqL.of e2, atI_nat (j := 1) rfl, .inl ⟨_, rfl, _, rfl, _, _, rfl, rfl, by omega, ?_⟩⟩
    refine ⟨_, rfl, _, _, _, _, rfl, rfl, SqL.of e2, atI_nat (j := 1) rfl, .inl ⟨_, rfl, _, rfl, _, _, rfl, rfl, ⟨by omega, by omega⟩, ?_⟩⟩
    refine ⟨_, rfl, _, _, _, _, rfl, rfl, e2, rfl, ?_⟩
    refine ⟨_, rfl, ?_⟩
    exact q _ _ (fmod_lo n0) (fmod_hi n0) ⟨fun b o nb eb => by rw [upd_ne nb]; exact g2 b o nb eb, ⟨_, _, _, upd_same⟩⟩
  · refine ⟨_, rfl, _, _, _, _, rfl, rfl, SqL.of e2, atI_nat (j := 1) rfl, _, _, rfl, rfl, .inr ⟨by decide, by decide⟩, ?_⟩
    refine ⟨_, rfl, _, _, _, _, rfl, rfl, SqL.of e2, atI_nat (j := 2) rfl, _, _, rfl, rfl, .inl ⟨by decide, by decide⟩, _, _, rfl, rfl, _, _, rfl, rfl, .inl ⟨_, rfl, _, _, rfl, rfl, by omega, ?_⟩⟩
    refine ⟨_, rfl, _, _, _, _, rfl, rfl, e2, rfl, ?_⟩
    have b0 := fmod_lo (a := y * 48271 + 974711 * z + 12345) (b := 2147483647) (by decide)
    have b1 := fmod_hi (a := y * 48271 + 974711 * z + 12345) (b := 2147483647) (by decide)
    refine ⟨_, rfl, _, _, _, _, rfl, rfl, SqL.of upd_same, atI_nat (j := 1) rfl, _, rfl, _, _, _, _, rfl, rfl, SqL.of upd_same, atI_nat (j := 1) rfl, _, _, rfl, rfl, ⟨by decide, by decide⟩, _, _, rfl, rfl, _, _, rfl, rfl, .inl ⟨by omega, by omega⟩, .inl ⟨_, rfl, _, _, rfl, rfl, by omega, ?_⟩⟩
    refine ⟨_, rfl, _, _, rfl, rfl, ⟨by decide, by decide⟩, _, rfl, _, _, rfl, rfl, by omega, ?_⟩
    exact q _ _ (fmod_lo n0) (fmod_hi n0) ⟨fun b o nb eb => by rw [upd_ne nb]; exact g2 b o nb eb, ⟨_, _, _, upd_same⟩⟩
theorem ok_feed {f : Addr} {fd : FuncData} {k : Nat} (F : Fun K "_law_feed" "_law_feed" s_law_feed f fd) (mint : mg "int" = none) : FnOk P w K mg base CX0 (k + 1) f fd P_law_feed spFeed := by
  refine F.ok sc_law_feed (fun vs H Q E h => ?_) (fun cdv A outer s H vs Q E hr h => ?_)
  · obtain ⟨n, rfl, _⟩ := h
    rfl
  obtain ⟨n, rfl, q⟩ := h
  refine ⟨_, (pss_cons (ps_set (i := 1) sc_law_feed.nd rfl (Or.inl rfl) (pe_callTy call_int1 (by rfl) mint (by decide +kernel) (pa_cons (pv 0) pa_nil)))
    (pss_cons (ps_if (pt_cmpR op_ge (pv 1) (pe_op op_pow pe_int pe_int) (nomark _))
      (pss_one (ps_ret (pe_lst (pa_cons pe_int (pa_cons (pe_op op_sub (pv 1) (pe_op op_pow pe_int pe_int)) (pa_cons pe_int pa_nil))))))
      pss_nil)
    (pss_one (ps_ret (pe_lst (pa_cons pe_int (pa_cons (pe_op op_modN (pe_callTy call_int1 (by rfl) mint (by decide +kernel) (pa_cons (pv 1) pa_nil)) pe_int) (pa_cons pe_int pa_nil)))))))), ?_⟩
  refine ⟨_, rfl, .inl ⟨_, rfl, ?_⟩⟩
  refine ⟨_, rfl, _, _, rfl, rfl, ⟨by decide, by decide, by decide⟩, _, _, rfl, rfl, _, rfl, ite2 (fun c => ?_) (fun c => ?_)⟩
  · refine ⟨_, rfl, _, _, rfl, rfl, ⟨by decide, by decide, by decide⟩, _, _, rfl, rfl, (by show 3 ≤ sizeLine; decide), fun p hp => ?_⟩
    exact q _ _ (same_new hp _) hp ⟨_, _, _, upd_same⟩
  · refine ⟨_, rfl, .inl ⟨_, rfl, _, _, rfl, rfl, by omega, (by show 3 ≤ sizeLine; decide), fun p hp => ?_⟩⟩
    exact q _ _ (same_new hp _) hp ⟨_, _, _, upd_same⟩
theorem ok_cell {f : Addr} {fd : FuncData} {k : Nat} (F : Fun K "_law_cell" "_law_cell" s_law_cell f fd) (mint : mg "int" = none) (mlen : mg "len" = none) : FnOk P w K mg base CX0 (k + 1) f fd P_law_cell (spCellv K) := by
  refine F.ok sc_law_cell (fun vs H Q E h => ?_) (fun cdv A outer s H vs Q E hr h => ?_)
  · obtain ⟨a, ns, j, rfl, _⟩ := h
    rfl
  obtain ⟨a, ns, j, rfl, hS, j0, j1, q⟩ := h
  refine ⟨_, (pss_cons (ps_if (pt_cmpR op_lt (pv 1) (pe_callB call_len_seq (by rfl) mlen (by decide +kernel) (pa_cons (pv 0) pa_nil)) (nomark _))
      (pss_one (ps_ret (pe_ix ix_list (pv 0) (pv 1) (fun _ _ => rfl))))
      pss_nil)
    (pss_cons (ps_set (i := 2) sc_law_cell.nd rfl (Or.inl rfl) pe_int)
    (pss_cons (ps_for PassesOwn.never rfl (pi_list (pv 0)) (pg_name (i := 3) sc_law_cell.nd rfl (Or.inl rfl))
      (pss_one (ps_set (i := 2) sc_law_cell.nd rfl (Or.inl rfl) (pe_op op_modN (pe_callTy call_int1 (by rfl) mint (by decide +kernel) (pa_cons (pe_op op_add (pe_op op_mul (pv 2) pe_int) (pe_op op_modN (pe_callTy call_int1 (by rfl) mint (by decide +kernel) (pa_cons (pv 3) pa_nil)) pe_int)) pa_nil)) pe_int))))
    (pss_one (ps_ret (pe_op op_modN (pe_callTy call_int1 (by rfl) mint (by decide +kernel) (pa_cons (pe_op op_mul (pe_op op_mul (pe_op op_add (pv 2) pe_int) (pe_op op_add (pv 1) pe_int)) pe_int) pa_nil)) pe_int)))))), ?_⟩
  refine ⟨_, rfl, _, rfl, _, _, rfl, .inl hS, _, _, rfl, rfl, _, rfl, ite2' (fun c => ?_) (fun c => ?_)⟩
  · obtain ⟨v, vm, ev⟩ := atI_in (xs := ns.map V.int) j0 c
    obtain ⟨n, _, rfl⟩ := List.mem_map.mp vm
    exact ⟨_, rfl, _, rfl, _, _, _, _, rfl, rfl, hS, ev, q n⟩
  · refine ⟨_, rfl, a, rfl, ⟨_, hS⟩, ?_⟩
    refine for_list (xs := ns.map V.int) (fun i σ H' => ∃ (sd : Int) (y : Option V), σ = [some (.ref a), some (.int j), some (.int sd), y] ∧ 0 ≤ sd ∧ sd < 1000003 ∧ H' = H) ⟨_, _, rfl, by decide, by decide, rfl⟩ (fun i σ H' _ hp => ?_) (fun i x σ H' hx hp => ?_) (fun σ H' hp => ?_)
    · obtain ⟨sd, y, _, _, _, rfl⟩ := hp
      exact hS
    · obtain ⟨sd, y, rfl, b0, b1, rfl⟩ := hp
      obtain ⟨n, _, rfl⟩ := List.mem_map.mp (List.mem_of_getElem? hx)
      refine ⟨_, rfl, _, _, rfl, rfl, .inl ⟨by omega, by omega⟩, _, rfl, .inl ⟨_, rfl, _, _, rfl, rfl, by omega, _, _, rfl, rfl, .inl ⟨_, rfl, _, _, rfl, rfl, by omega, ?_⟩⟩⟩
      exact ⟨_, _, rfl, fmod_lo (by decide), fmod_hi (by decide), rfl⟩
    · obtain ⟨sd, y, rfl, b0, b1, rfl⟩ := hp
      refine ⟨_, rfl, _, _, rfl, rfl, _, rfl, _, _, rfl, rfl, _, _, rfl, rfl, .inl ⟨by omega, by omega⟩, _, _, rfl, rfl, .inr ⟨by decide, by decide⟩, .inl ⟨_, rfl, _, _, rfl, rfl, by omega, ?_⟩⟩
      exact q _
end
end K02
namespace K02
open PySem L2 Vk
theorem p12 : (10 : Int) ^ (12 : Int).toNat = 1000000000000 := by decide
theorem p6 : (10 : Int) ^ (6 : Int).toNat = 1000000 := by decide
def menuW : List Str := ["a", "b", "me", "x_1", "place", "divs", "mode", "min2", "maxi", "pick_", "nth0", "whenever", "mo", "first", "sum", "end", "in", "do", "for", "step", "lanes", "most", "least", "array"]
def lettersW : Str := "abcdefghijklmnopqrstuvwxyz0123456789_"
def barredW : List Str := ["div", "mod", "min", "max", "pick", "nth", "when"]
theorem menu_ok : ∀ w ∈ menuW, WordOk w := words_ok (by decide +kernel)
theorem letters_ok : okC lettersW := okC_of_all (by decide +kernel)
theorem letters_len : lettersW.length = 37 := by decide +kernel
theorem letters_line : lettersW.length ≤ sizeLine := by rw [letters_len]; decide
theorem letters_lst : lettersW.cps.toList.length = 37 := by decide +kernel
theorem barred_len : ∀ z ∈ barredW, z.length ≤ 4 := fun z hz => of_decide_eq_true (List.all_eq_true.mp (show (barredW.all fun z => decide (z.length ≤ 4)) = true by decide +kernel) z hz)
def spNumber : Sp := fun vs H Q _ => ∃ (a : Addr), vs = [.ref a] ∧ Fd H a ∧ ∀ n H', 0 ≤ n → n ≤ 1000000000000 → Stp a H H' → Q (.int n) H'
def spWord : Sp := fun vs H Q _ => ∃ (a : Addr), vs = [.ref a] ∧ Fd H a ∧ ∀ w H', WordOk w → Stp a H H' → Q (.str w) H'
def spNear : Sp := fun vs H Q _ => ∃ (a : Addr) (w : Str), vs = [.ref a, .str w] ∧ Fd H a ∧ WordOk w ∧ ∀ w H', WordOk w → Stp a H H' → Q (.str w) H'
def spWordRow : Sp := fun vs H Q _ => ∃ (a : Addr) (n : Int), vs = [.ref a, .int n] ∧ Fd H a ∧ 0 ≤ n ∧ n ≤ 40 ∧ ∀ (p : Addr) (H' : Hp) (ws : List Str), Stp a H H' → H p = none → H' p = some (.lst (ws.map V.str)) → (ws.length : Int) = n → (∀ w ∈ ws, WordOk w) → Q (.ref p) H'
def spDeep : Sp := fun vs H Q _ => ∃ (a : Addr), vs = [.ref a] ∧ Fd H a ∧ ∀ n H', 1 ≤ n → n ≤ 12 → Stp a H H' → Q (.int n) H'
section
variable {P : Program} {w : World} {K : PySem.W.Frag} {mg : Str → Option Value} {base : Heap}
theorem ok_number {f : Addr} {fd : FuncData} {k : Nat} (F : Fun K "_law_number" "_law_number" s_law_number f fd) (mmin : mg "min" = none) (O_law_take : Ok P w K mg base k "_law_take" P_law_take spTake) : FnOk P w K mg base CX0 (k + 1) f fd P_law_number spNumber := by
  refine F.ok sc_law_number (fun vs H Q E h => ?_) (fun cdv A outer s H vs Q E hr h => ?_)
  · obtain ⟨a, rfl, _⟩ := h
    rfl
  obtain ⟨a, rfl, hF, q⟩ := h
  refine ⟨_, (pss_cons (ps_set (i := 1) sc_law_number.nd rfl (Or.inl rfl) (pe_c O_law_take hr (by rfl) (pa_cons (pv 0) (pa_cons pe_int pa_nil))))
    (pss_cons (ps_if (pt_cmpR op_lt (pv 1) pe_int (nomark _))
      (pss_one (ps_ret (pe_c O_law_take hr (by rfl) (pa_cons (pv 0) (pa_cons pe_int pa_nil)))))
      pss_nil)
    (pss_cons (ps_if (pt_cmpR op_eq (pv 1) pe_int (nomark _))
      (pss_one (ps_ret (pe_c O_law_take hr (by rfl) (pa_cons (pv 0) (pa_cons pe_int pa_nil)))))
      pss_nil)
    (pss_cons (ps_if (pt_cmpR op_eq (pv 1) pe_int (nomark _))
      (pss_one (ps_ret (pe_op op_sub (pe_op op_pow pe_int pe_int) (pe_c O_law_take hr (by rfl) (pa_cons (pv 0) (pa_cons pe_int pa_nil))))))
      pss_nil)
    (pss_cons (ps_if (pt_cmpR op_eq (pv 1) pe_int (nomark _))
      (pss_one (ps_ret (pe_op op_sub (pe_op op_add (pe_op op_pow pe_int pe_int) (pe_c O_law_take hr (by rfl) (pa_cons (pv 0) (pa_cons pe_int pa_nil)))) pe_int)))
      pss_nil)
    (pss_cons (ps_if (pt_cmpR op_eq (pv 1) pe_int (nomark _))
      (pss_one (ps_ret (pe_c O_law_take hr (by rfl) (pa_cons (pv 0) (pa_cons pe_int pa_nil)))))
      pss_nil)
    (pss_one (ps_ret (pe_callB (call_min2 rfl) (by rfl) mmin (by decide +kernel) (pa_cons (pe_op op_pow pe_int pe_int) (pa_cons (pe_op op_add (pe_op op_mul (pe_c O_law_take hr (by rfl) (pa_cons (pv 0) (pa_cons (pe_op op_add (pe_op op_pow pe_int pe_int) pe_int) pa_nil))) (pe_op op_pow pe_int pe_int)) (pe_c O_law_take hr (by rfl) (pa_cons (pv 0) (pa_cons (pe_op op_pow pe_int pe_int) pa_nil)))) pa_nil))))))))))), ?_⟩
  refine rd_take rfl hF (by decide) (by decide) fun kind H1 k0 k1 s1 => ?_
  have q1 : ∀ n H', 0 ≤ n → n ≤ 1000000000000 → Stp a H1 H' → Q (.int n) H' := fun n H' h0 h1 s => q n H' h0 h1 (s1.trans s)
  refine ⟨_, rfl, _, _, rfl, rfl, _, rfl, ite2 (fun c => ?_) (fun c => ?_)⟩
  · exact rd_take rfl s1.2 (by decide) (by decide) fun n H2 n0 n1 s2 => q1 n H2 n0 (by omega) s2
  refine ⟨_, rfl, rfl, _, rfl, ite2 (fun c => ?_) (fun c => ?_)⟩
  · exact rd_take rfl s1.2 (by decide) (by decide) fun n H2 n0 n1 s2 => q1 n H2 n0 (by omega) s2
  refine ⟨_, rfl, rfl, _, rfl, ite2 (fun c => ?_) (fun c => ?_)⟩
  · refine ⟨_, _, rfl, rfl, ⟨by decide, by decide, by decide⟩, rd_take rfl s1.2 (by decide) (by decide) fun n H2 n0 n1 s2 => ⟨_, _, rfl, rfl, ?_⟩⟩
    rw [p12]
    exact q1 _ H2 (by omega) (by omega) s2
  refine ⟨_, rfl, rfl, _, rfl, ite2 (fun c => ?_) (fun c => ?_)⟩
  · refine ⟨_, _, rfl, rfl, ⟨by decide, by decide, by decide⟩, rd_take rfl s1.2 (by decide) (by decide) fun n H2 n0 n1 s2 => ⟨_, _, rfl, rfl, _, _, rfl, rfl, ?_⟩⟩
    rw [p6]
    exact q1 _ H2 (by omega) (by omega) s2
  refine ⟨_, rfl, rfl, _, rfl, ite2 (fun c => ?_) (fun c => ?_)⟩
  · exact rd_take rfl s1.2 (by decide) (by decide) fun n H2 n0 n1 s2 => q1 n H2 n0 (by omega) s2
  · refine ⟨_, _, rfl, rfl, ⟨by decide, by decide, by decide⟩, _, rfl, _, _, rfl, rfl, ⟨by decide, by decide, by decide⟩, _, _, rfl, rfl, a, _, rfl, s1.2, by decide, by decide, fun x H2 x0 x1 s2 => ?_⟩
    refine ⟨_, _, rfl, rfl, ⟨by decide, by decide, by decide⟩, _, _, rfl, rfl, .inr ⟨by decide, by decide⟩, _, rfl, _, _, rfl, rfl, ⟨by decide, by decide, by decide⟩, a, _, rfl, s2.2, by decide, by decide, fun y H3 y0 y1 s3 => ?_⟩
    refine ⟨_, _, rfl, rfl, _, _, rfl, ?_⟩
    rw [p6] at *
    rw [p12]
    refine q1 _ H3 ?_ ?_ (s2.trans s3)
    · split <;> omega
    · split <;> omega
theorem ok_deep {f : Addr} {fd : FuncData} {k : Nat} (F : Fun K "_law_deep" "_law_deep" s_law_deep f fd) (O_law_take : Ok P w K mg base k "_law_take" P_law_take spTake) : FnOk P w K mg base CX0 (k + 1) f fd P_law_deep spDeep := by
  refine F.ok sc_law_deep (fun vs H Q E h => ?_) (fun cdv A outer s H vs Q E hr h => ?_)
  · obtain ⟨a, rfl, _⟩ := h
    rfl
  obtain ⟨a, rfl, hF, q⟩ := h
  refine ⟨_, (pss_cons (ps_set (i := 1) sc_law_deep.nd rfl (Or.inl rfl) (pe_c O_law_take hr (by rfl) (pa_cons (pv 0) (pa_cons pe_int pa_nil))))
    (pss_cons (ps_if (pt_cmpR op_lt (pv 1) pe_int (nomark _))
      (pss_one (ps_ret pe_int))
      pss_nil)
    (pss_cons (ps_if (pt_cmpR op_lt (pv 1) pe_int (nomark _))
      (pss_one (ps_ret (pe_op op_add pe_int (pe_c O_law_take hr (by rfl) (pa_cons (pv 0) (pa_cons pe_int pa_nil))))))
      pss_nil)
    (pss_one (ps_ret (pe_op op_add pe_int (pe_c O_law_take hr (by rfl) (pa_cons (pv 0) (pa_cons pe_int pa_nil))))))))), ?_⟩
  refine rd_take rfl hF (by decide) (by decide) fun kind H1 k0 k1 s1 => ?_
  refine ⟨_, rfl, _, _, rfl, rfl, _, rfl, ite2 (fun c => ?_) (fun c => ?_)⟩
  · exact q 12 H1 (by decide) (by decide) s1
  refine ⟨_, rfl, _, _, rfl, rfl, _, rfl, ite2 (fun c => ?_) (fun c => ?_)⟩
  · exact rd_take rfl s1.2 (by decide) (by decide) fun n H2 n0 n1 s2 => ⟨_, _, rfl, rfl, q _ H2 (by omega) (by omega) (s1.trans s2)⟩
  · exact rd_take rfl s1.2 (by decide) (by decide) fun n H2 n0 n1 s2 => ⟨_, _, rfl, rfl, q _ H2 (by omega) (by omega) (s1.trans s2)⟩
/-- one letter, drawn -/
theorem rd_letter {σ : St} {H : Hp} {Q : VK} {a : Addr} {n : Int} {i : Nat} (hσ : σ[i]? = some (some (.ref a))) (hF : Fd H a) (n0 : 0 < n) (n1 : n ≤ 37) (q : ∀ z H', z.length = 1 → okC z → Stp a H H' → Q (.str z) H') :
    tCall spTake [] E0 (tCons (tVar i) (tCons (tC (.int n)) tNil)) σ H (fun y H2 => rIxS (.str lettersW) y H2 Q) := by
  refine rd_take hσ hF n0 (by omega) fun r H' r0 r1 s => ?_
  obtain ⟨c, cm, ec⟩ := atI_in (xs := lettersW.cps.toList) (i := r) r0 (by rw [letters_lst]; omega)
  exact ⟨_, _, c, rfl, rfl, letters_line, ec, q _ H' rfl (okC_one (letters_ok c cm)) s⟩
theorem ok_word {f : Addr} {fd : FuncData} {k : Nat} (F : Fun K "_law_word" "_law_word" s_law_word f fd) (mrange : mg "range" = none) (O_law_take : Ok P w K mg base k "_law_take" P_law_take spTake) : FnOk P w K mg base CX0 (k + 1) f fd P_law_word spWord := by
  refine F.ok sc_law_word (fun vs H Q E h => ?_) (fun cdv A outer s H vs Q E hr h => ?_)
  · obtain ⟨a, rfl, _⟩ := h
    rfl
  obtain ⟨a, rfl, hF, q⟩ := h
  refine ⟨_, (pss_cons (ps_set (i := 1) sc_law_word.nd rfl (Or.inl rfl) (pe_lst (pa_cons pe_str (pa_cons pe_str (pa_cons pe_str (pa_cons pe_str (pa_cons pe_str (pa_cons pe_str (pa_cons pe_str (pa_cons pe_str (pa_cons pe_str (pa_cons pe_str (pa_cons pe_str (pa_cons pe_str (pa_cons pe_str (pa_cons pe_str (pa_cons pe_str pa_nil)))))))))))))))))
    (pss_cons (ps_set (i := 1) sc_law_word.nd rfl (Or.inl rfl) (pe_op op_cat (pv 1) (pe_lst (pa_cons pe_str (pa_cons pe_str (pa_cons pe_str (pa_cons pe_str (pa_cons pe_str (pa_cons pe_str (pa_cons pe_str (pa_cons pe_str (pa_cons pe_str pa_nil))))))))))))
    (pss_cons (ps_set (i := 2) sc_law_word.nd rfl (Or.inl rfl) pe_str)
    (pss_cons (ps_set (i := 3) sc_law_word.nd rfl (Or.inl rfl) (pe_c O_law_take hr (by rfl) (pa_cons (pv 0) (pa_cons pe_int pa_nil))))
    (pss_cons (ps_if (pt_cmpR op_eq (pv 3) pe_int (nomark _))
      (pss_one (ps_ret (pe_ix ix_list (pv 1) (pe_c O_law_take hr (by rfl) (pa_cons (pv 0) (pa_cons pe_int pa_nil))) (fun _ _ => rfl))))
      pss_nil)
    (pss_cons (ps_set (i := 4) sc_law_word.nd rfl (Or.inl rfl) (pe_ix ix_list (pe_lst (pa_cons pe_int (pa_cons pe_int (pa_cons pe_int (pa_cons (pe_op op_add pe_int (pe_c O_law_take hr (by rfl) (pa_cons (pv 0) (pa_cons pe_int pa_nil)))) pa_nil))))) (pe_op op_sub (pv 3) pe_int) (fun _ _ => rfl)))
    (pss_cons (ps_set (i := 5) sc_law_word.nd rfl (Or.inl rfl) (pe_ix ix_str (pv 2) (pe_c O_law_take hr (by rfl) (pa_cons (pv 0) (pa_cons pe_int pa_nil))) (fun _ _ => rfl)))
    (pss_cons (ps_for PassesOwn.never rfl (pi_range1 (by rfl) mrange (pa_cons (pe_op op_sub (pv 4) pe_int) pa_nil)) (pg_name (i := 6) sc_law_word.nd rfl (Or.inl rfl))
      (pss_one (ps_set (i := 5) sc_law_word.nd rfl (Or.inl rfl) (pe_op op_add_str (pv 5) (pe_ix ix_str (pv 2) (pe_c O_law_take hr (by rfl) (pa_cons (pv 0) (pa_cons pe_int pa_nil))) (fun _ _ => rfl))))))
    (C8.pss_cut (ps_if (pt_cmpR op_in_seq (pv 5) (pe_lst (pa_cons pe_str (pa_cons pe_str (pa_cons pe_str (pa_cons pe_str (pa_cons pe_str (pa_cons pe_str (pa_cons pe_str pa_nil)))))))) (by rfl))
      (pss_one (ps_set (i := 5) sc_law_word.nd rfl (Or.inl rfl) (pe_op op_add_str (pv 5) pe_str)))
      pss_nil)
    (pss_one (ps_ret (pv 5)))))))))))), ?_⟩
  refine ⟨(by show 15 ≤ sizeLine; decide), fun l1 h1 => ⟨_, rfl, (by show 9 ≤ sizeLine; decide), fun l2 h2 => ⟨l1, l2, _, _, rfl, rfl, same_new h2 _ _ _ upd_same, upd_same, (by show 24 ≤ sizeLine; decide), fun p hp => ?_⟩⟩⟩
  have g1 := same_new h1 (.lst [.str "a", .str "b", .str "me", .str "x_1", .str "place", .str "divs", .str "mode", .str "min2", .str "maxi", .str "pick_", .str "nth0", .str "whenever", .str "mo", .str "first", .str "sum"])
  have g2 := same_new h2 (.lst [.str "end", .str "in", .str "do", .str "for", .str "step", .str "lanes", .str "most", .str "least", .str "array"])
  have g3 := same_new hp (.lst (menuW.map V.str))
  have ga := g1.trans (g2.trans g3)
  have hm : (upd (upd (upd H l1 (.lst [.str "a", .str "b", .str "me", .str "x_1", .str "place", .str "divs", .str "mode", .str "min2", .str "maxi", .str "pick_", .str "nth0", .str "whenever", .str "mo", .str "first", .str "sum"])) l2 (.lst [.str "end", .str "in", .str "do", .str "for", .str "step", .str "lanes", .str "most", .str "least", .str "array"])) p (.lst (menuW.map V.str))) p = some (.lst (menuW.map V.str)) := upd_same
  have fa := hF.same ga
  have pa : p ≠ a := by
    obtain ⟨x, y, z, e⟩ := hF.same (g1.trans g2)
    exact (ne_of_none e hp).symm
  have s0 := Stp.of hF ga
  refine rd_take rfl fa (by decide) (by decide) fun kind H1 k0 k1 s1 => ?_
  have hm1 := s1.1 _ _ pa hm
  refine ⟨_, rfl, rfl, _, rfl, ite2 (fun c => ?_) (fun c => ?_)⟩
  · refine ⟨_, rfl, rd_take rfl s1.2 (by decide) (by decide) fun r H2 r0 r1 s2 => ?_⟩
    obtain ⟨v, vm, ev⟩ := atI_in (xs := menuW.map V.str) (i := r) r0 r1
    obtain ⟨z, zm, rfl⟩ := List.mem_map.mp vm
    exact ⟨_, _, _, _, rfl, rfl, SqL.of (s2.1 _ _ pa hm1), ev, q z H2 (menu_ok z zm) (s0.trans (s1.trans s2))⟩
  have kn : kind ≠ 0 := fun z => c (decide_eq_true (by rw [z]))
  refine rd_take rfl s1.2 (by decide) (by decide) fun n H2 n0 n1 s2 => ⟨_, _, rfl, rfl, (by show 4 ≤ sizeLine; decide), fun l hl => ⟨_, rfl, _, _, rfl, rfl, ?_⟩⟩
  obtain ⟨v, vm, ev⟩ := atI_in (xs := ([1, 2, 12, 1 + n] : List Int).map V.int) (i := kind - 1) (by omega) (show kind - 1 < 4 by omega)
  obtain ⟨sz, szm, rfl⟩ := List.mem_map.mp vm
  have szb : 1 ≤ sz ∧ sz ≤ 12 := by
    simp only [List.mem_cons, List.not_mem_nil, or_false] at szm
    omega
  refine ⟨_, _, _, _, rfl, rfl, SqL.of upd_same, ev, ?_⟩
  have s3 := s2.same (same_new hl (.lst [.int 1, .int 2, .int 12, .int (1 + n)]))
  have s03 := s0.trans (s1.trans s3)
  refine ⟨_, rfl, rd_letter rfl s3.2 (by decide) (by decide) fun z H3 z1 zo s4 => ?_⟩
  refine ⟨_, rfl, _, _, rfl, rfl, sz - 1, rfl, by omega, by omega, for_range (n := (sz - 1).toNat) (fun i σ H' => ∃ (wd : Str) (y6 : Option V), σ = [some (.ref a), some (.ref p), some (.str lettersW), some (.int kind), some (.int sz), some (.str wd), y6] ∧ Stp a H H' ∧ wd.length = 1 + i ∧ okC wd)
    ⟨z, _, rfl, s03.trans s4, by omega, zo⟩ (fun i σ H' hi hv => ?_) (fun σ H' hv => ?_)⟩
  · obtain ⟨wd, y6, rfl, sm, ln, oc⟩ := hv
    refine ⟨_, rfl, _, rfl, rd_letter rfl sm.2 (by decide) (by decide) fun z H3 z1 zo s4 => ⟨_, _, rfl, rfl, small_line (by omega), ?_⟩⟩
    exact ⟨_, _, rfl, sm.trans s4, by rw [Str.length_append]; omega, okC_app oc zo⟩
  · obtain ⟨wd, y6, rfl, sm, ln, oc⟩ := hv
    refine ⟨fun σ2 H2 => ∃ (wd : Str) (y6 : Option V), σ2 = [some (.ref a), some (.ref p), some (.str lettersW), some (.int kind), some (.int sz), some (.str wd), y6] ∧ Stp a H H2 ∧ WordOk wd, ?_, fun σ2 H2 hm2 => ?_⟩
    · refine ⟨_, rfl, (by show 7 ≤ sizeLine; decide), fun l3 hl3 => ⟨l3, barredW.map V.str, rfl, .inl (SqL.of upd_same), rfl, flat_all, _, rfl, ite2 (fun c => ?_) (fun c => ?_)⟩⟩
      · refine ⟨_, rfl, _, _, rfl, rfl, small_line (by show wd.length + 1 ≤ 1000; omega), ?_⟩
        exact ⟨_, _, rfl, sm.same (same_new hl3 _), ⟨by rw [Str.length_append]; omega, by rw [Str.length_append]; show wd.length + 1 ≤ 13; omega, okC_app oc (okC_of_all (by decide +kernel))⟩⟩
      · exact ⟨_, _, rfl, sm.same (same_new hl3 _), ⟨by omega, by omega, oc⟩⟩
    · obtain ⟨wd, y6, rfl, sm, wo⟩ := hm2
      exact ⟨_, rfl, q wd H2 wo sm⟩
end
end K02
namespace K02
open PySem L2 Vk
section
variable {P : Program} {w : World} {K : PySem.W.Frag} {mg : Str → Option Value} {base : Heap}
theorem ok_near {f : Addr} {fd : FuncData} {k : Nat} (F : Fun K "_law_near" "_law_near" s_law_near f fd) (mlen : mg "len" = none) (O_law_take : Ok P w K mg base k "_law_take" P_law_take spTake) : FnOk P w K mg base CX0 (k + 1) f fd P_law_near spNear := by
  refine F.ok sc_law_near (fun vs H Q E h => ?_) (fun cdv A outer s H vs Q E hr h => ?_)
  · obtain ⟨a, w, rfl, _⟩ := h
    rfl
  obtain ⟨a, wd, rfl, hF, wo, q⟩ := h
  refine ⟨_, (pss_cons (ps_set (i := 2) sc_law_near.nd rfl (Or.inl rfl) pe_str)
    (pss_cons (ps_set (i := 3) sc_law_near.nd rfl (Or.inl rfl) (pe_c O_law_take hr (by rfl) (pa_cons (pv 0) (pa_cons pe_int pa_nil))))
    (pss_cons (ps_set (i := 4) sc_law_near.nd rfl (Or.inl rfl) (pe_op op_add_str (pe_slice sl_str (pv 1) po_none (po_some pe_int)) (pe_ix ix_str (pv 2) (pe_c O_law_take hr (by rfl) (pa_cons (pv 0) (pa_cons pe_int pa_nil))) (fun _ _ => rfl))))
    (C8.pss_cut (ps_if (PW.pt (pw_and (pt_cmpR op_eq (pv 3) pe_int (nomark _)) (pw_and1 (pt_cmpR op_gt (pe_callB call_len_str (by rfl) mlen (by decide +kernel) (pa_cons (pv 1) pa_nil)) pe_int (nomark _)))))
      (pss_one (ps_set (i := 4) sc_law_near.nd rfl (Or.inl rfl) (pe_slice sl_str (pv 1) po_none (po_some (pe_op op_sub (pe_callB call_len_str (by rfl) mlen (by decide +kernel) (pa_cons (pv 1) pa_nil)) pe_int)))))
      pss_nil)
    (C8.pss_cut (ps_if (pt_cmpR op_eq (pv 3) pe_int (nomark _))
      (pss_cons (ps_set (i := 5) sc_law_near.nd rfl (Or.inl rfl) (pe_c O_law_take hr (by rfl) (pa_cons (pv 0) (pa_cons (pe_callB call_len_str (by rfl) mlen (by decide +kernel) (pa_cons (pv 1) pa_nil)) pa_nil))))
      (pss_one (ps_set (i := 4) sc_law_near.nd rfl (Or.inl rfl) (pe_op op_add_str (pe_op op_add_str (pe_slice sl_str (pv 1) po_none (po_some (pv 5))) (pe_ix ix_str (pv 2) (pe_c O_law_take hr (by rfl) (pa_cons (pv 0) (pa_cons pe_int pa_nil))) (fun _ _ => rfl))) (pe_slice sl_str (pv 1) (po_some (pe_op op_add (pv 5) pe_int)) po_none)))))
      pss_nil)
    (C8.pss_cut (ps_if (pt_cmpR op_in_seq (pv 4) (pe_lst (pa_cons pe_str (pa_cons pe_str (pa_cons pe_str (pa_cons pe_str (pa_cons pe_str (pa_cons pe_str (pa_cons pe_str pa_nil)))))))) (by rfl))
      (pss_one (ps_set (i := 4) sc_law_near.nd rfl (Or.inl rfl) (pe_op op_add_str (pv 4) pe_str)))
      pss_nil)
    (pss_one (ps_ret (pv 4))))))))), ?_⟩
  have wl : wd.length ≤ sizeLine := small_line (by have := wo.hi; omega)
  have hlo := wo.lo
  have hhi := wo.hi
  refine rd_take rfl hF (by decide) (by decide) fun kind H1 k0 k1 s1 => ?_
  refine ⟨_, rfl, 11, rfl, wd, rfl, wl, _, rfl, rd_letter rfl s1.2 (by decide) (by decide) fun z H2 z1 zo s2 => ⟨_, _, rfl, rfl, ?_, ?_⟩⟩
  · have := len_head wd 11
    exact small_line (by rw [show ((11 : Int)) = ((11 : Nat) : Int) from rfl, this]; omega)
  have s12 := s1.trans s2
  have n1 : WordOk (cutS wd none (some 11) ++ z) := by
    have e := len_head wd 11
    have e' : (cutS wd none (some 11)).length = min 11 wd.length := e
    exact ⟨by rw [Str.length_append]; omega, by rw [Str.length_append]; omega, okC_app (okC_cut wo.ok _ _) zo⟩
  refine ⟨fun σ2 H2 => ∃ (nr : Str) (y5 : Option V), σ2 = [some (.ref a), some (.str wd), some (.str lettersW), some (.int kind), some (.str nr), y5] ∧ Stp a H H2 ∧ WordOk nr, ?_, fun σ2 H2 hm => ?_⟩
  · refine ⟨_, rfl, rfl, _, rfl, ite2 (fun c => ?_) (fun c => ⟨_, _, rfl, s12, n1⟩)⟩
    refine ⟨_, rfl, _, rfl, wl, _, _, rfl, rfl, _, rfl, ite2' (fun c => ?_) (fun c => ⟨_, _, rfl, s12, n1⟩)⟩
    refine ⟨_, rfl, _, rfl, _, rfl, wl, _, _, rfl, rfl, _, rfl, wd, rfl, wl, ?_⟩
    have e : (wd.length : Int) - 1 = ((wd.length - 1 : Nat) : Int) := by omega
    have c2 : 1 < wd.length := by omega
    refine ⟨_, _, rfl, s12, ⟨?_, ?_, okC_cut wo.ok _ _⟩⟩
    · rw [e, len_head]; omega
    · rw [e, len_head]; omega
  obtain ⟨nr, y5, rfl, s3, n3⟩ := hm
  refine ⟨fun σ2 H2 => ∃ (nr : Str) (y5 : Option V), σ2 = [some (.ref a), some (.str wd), some (.str lettersW), some (.int kind), some (.str nr), y5] ∧ Stp a H H2 ∧ WordOk nr, ?_, fun σ2 H2 hm => ?_⟩
  · refine ⟨_, rfl, rfl, _, rfl, ite2 (fun c => ?_) (fun c => ⟨_, _, rfl, s3, n3⟩)⟩
    refine ⟨_, rfl, _, rfl, _, rfl, wl, a, _, rfl, s3.2, by omega, by omega, fun r H4 r0 r1 s4 => ?_⟩
    obtain ⟨j, rfl⟩ := Int.eq_ofNat_of_zero_le r0
    have e1 := len_head wd j
    have e2 := len_tail wd (j + 1)
    refine ⟨_, rfl, _, rfl, _, rfl, wd, rfl, wl, _, rfl, rd_letter rfl s4.2 (by decide) (by decide) fun z H5 z1 zo s5 => ⟨_, _, rfl, rfl, small_line (by rw [e1]; omega), ?_⟩⟩
    refine ⟨_, rfl, _, rfl, _, _, rfl, rfl, _, rfl, wd, rfl, wl, _, _, rfl, rfl, small_line (by rw [Str.length_append, e1, show ((j : Nat) : Int) + 1 = ((j + 1 : Nat) : Int) from rfl, e2]; omega), ?_⟩
    refine ⟨_, _, rfl, s3.trans (s4.trans s5), ⟨?_, ?_, okC_app (okC_app (okC_cut wo.ok _ _) zo) (okC_cut wo.ok _ _)⟩⟩
    · rw [Str.length_append, Str.length_append, e1]; omega
    · rw [Str.length_append, Str.length_append, e1, show ((j : Nat) : Int) + 1 = ((j + 1 : Nat) : Int) from rfl, e2]; omega
  obtain ⟨nr, y5, rfl, s6, n6⟩ := hm
  refine ⟨fun σ2 H2 => ∃ (nr : Str) (y5 : Option V), σ2 = [some (.ref a), some (.str wd), some (.str lettersW), some (.int kind), some (.str nr), y5] ∧ Stp a H H2 ∧ WordOk nr, ?_, fun σ2 H2 hm => ?_⟩
  · refine ⟨_, rfl, (by show 7 ≤ sizeLine; decide), fun l3 hl3 => ⟨l3, barredW.map V.str, rfl, .inl (SqL.of upd_same), rfl, flat_all, _, rfl, ite2 (fun c => ?_) (fun c => ?_)⟩⟩
    · have b4 := barred_len nr (inV_str c)
      refine ⟨_, rfl, _, _, rfl, rfl, small_line (by show nr.length + 1 ≤ 1000; omega), ?_⟩
      exact ⟨_, _, rfl, s6.same (same_new hl3 _), ⟨by rw [Str.length_append]; show 1 ≤ nr.length + 1; omega, by rw [Str.length_append]; show nr.length + 1 ≤ 13; omega, okC_app n6.ok (okC_of_all (by decide +kernel))⟩⟩
    · exact ⟨_, _, rfl, s6.same (same_new hl3 _), n6⟩
  obtain ⟨nr, y5, rfl, s7, n7⟩ := hm
  exact ⟨_, rfl, q nr H2 n7 s7⟩
theorem ok_word_row {f : Addr} {fd : FuncData} {k : Nat} (F : Fun K "_law_word_row" "_law_word_row" s_law_word_row f fd) (mrange : mg "range" = none) (O_law_take : Ok P w K mg base k "_law_take" P_law_take spTake) (O_law_word : Ok P w K mg base k "_law_word" P_law_word spWord)
    (O_law_near : Ok P w K mg base k "_law_near" P_law_near spNear) : FnOk P w K mg base CX0 (k + 1) f fd P_law_word_row spWordRow := by
  refine F.ok sc_law_word_row (fun vs H Q E h => ?_) (fun cdv A outer s H vs Q E hr h => ?_)
  · obtain ⟨a, w, rfl, _⟩ := h
    rfl
  obtain ⟨a, n, rfl, hF, n0, n1, q⟩ := h
  refine ⟨_, (pss_cons (ps_set (i := 2) sc_law_word_row.nd rfl (Or.inl rfl) (pe_lst pa_nil))
    (pss_cons (ps_for PassesOwn.never rfl (pi_range1 (by rfl) mrange (pa_cons (pv 1) pa_nil)) (pg_name (i := 3) sc_law_word_row.nd rfl (Or.inl rfl))
      (pss_cons (ps_set (i := 4) sc_law_word_row.nd rfl (Or.inl rfl) (pe_c O_law_word hr (by rfl) (pa_cons (pv 0) pa_nil)))
      (C8.pss_cut (ps_if (PW.pt (pw_and (pt_cmpR op_gt (pv 3) pe_int (nomark _)) (pw_and1 (pt_cmpR op_eq (pe_c O_law_take hr (by rfl) (pa_cons (pv 0) (pa_cons pe_int pa_nil))) pe_int (nomark _)))))
        (pss_one (ps_set (i := 4) sc_law_word_row.nd rfl (Or.inl rfl) (pe_c O_law_near hr (by rfl) (pa_cons (pv 0) (pa_cons (pe_ix ix_list (pv 2) (pe_c O_law_take hr (by rfl) (pa_cons (pv 0) (pa_cons (pv 3) pa_nil))) (fun _ _ => rfl)) pa_nil)))))
        pss_nil)
      (pss_one (ps_expr (pe_bm PySem.F.plainAttrs_list PySem.F.slot_list_append PySem.F.type_list_append mt_append (pv 2) (pa_cons (pv 4) pa_nil)))))))
    (pss_one (ps_ret (pv 2))))), ?_⟩
  refine ⟨(by show 0 ≤ sizeLine; decide), fun p hp => ⟨_, rfl, n, rfl, by omega, by omega, ?_⟩⟩
  have pa : p ≠ a := by
    obtain ⟨x, y, z, e⟩ := hF
    exact (ne_of_none e hp).symm
  refine for_range (n := n.toNat) (fun i σ H' => ∃ (ws : List Str) (y3 y4 : Option V), σ = [some (.ref a), some (.int n), some (.ref p), y3, y4] ∧ Stp a H H' ∧ H' p = some (.lst (ws.map V.str)) ∧ ws.length = i ∧ ∀ w ∈ ws, WordOk w)
    ⟨[], _, _, rfl, Stp.of hF (same_new hp _), upd_same, rfl, by simp⟩ (fun i σ H' hi hv => ?_) (fun σ H' hv => ?_)
  · obtain ⟨ws, y3, y4, rfl, sm, ep, ln, wo⟩ := hv
    refine ⟨_, rfl, a, rfl, sm.2, fun wd H2 wo2 s2 => ?_⟩
    refine ⟨fun σ3 H3 => ∃ (wd : Str), σ3 = [some (.ref a), some (.int n), some (.ref p), some (.int (0 + i)), some (.str wd)] ∧ Stp a H' H3 ∧ WordOk wd, ?_, fun σ3 H3 hm => ?_⟩
    · refine ⟨_, rfl, _, _, rfl, rfl, _, rfl, ite2' (fun c => ?_) (fun c => ⟨wd, rfl, s2, wo2⟩)⟩
      refine rd_take rfl s2.2 (by decide) (by decide) fun r4 H4 _ _ s4 => ⟨rfl, _, rfl, ite2 (fun c => ?_) (fun c => ⟨wd, rfl, s2.trans s4, wo2⟩)⟩
      refine ⟨_, rfl, _, rfl, _, rfl, _, rfl, a, _, rfl, s4.2, by omega, by omega, fun r5 H5 r50 r51 s5 => ?_⟩
      obtain ⟨v, vm, ev⟩ := atI_in (xs := ws.map V.str) (i := r5) r50 (by rw [List.length_map]; omega)
      obtain ⟨z, zm, rfl⟩ := List.mem_map.mp vm
      refine ⟨_, _, _, _, rfl, rfl, SqL.of ((s2.trans (s4.trans s5)).1 _ _ pa ep), ev, a, z, rfl, s5.2, wo z zm, fun w' H6 wo6 s6 => ?_⟩
      exact ⟨w', rfl, s2.trans (s4.trans (s5.trans s6)), wo6⟩
    · obtain ⟨wd, rfl, s3, wo3⟩ := hm
      have ep3 := s3.1 _ _ pa ep
      refine ⟨_, rfl, .inl ⟨rfl, _, SqL.of ep3⟩, _, rfl, p, _, _, rfl, rfl, ep3, Nat.lt_of_le_of_lt (by rw [List.length_map]; show ws.length ≤ 1000; omega) (small1000 (Nat.le_refl 1000)), ?_⟩
      refine ⟨ws ++ [wd], _, _, rfl, ⟨fun b o nb eb => ?_, ?_⟩, ?_, by rw [List.length_append, ln]; rfl, ?_⟩
      · rw [upd_ne (ne_of_none eb hp)]
        exact s3.1 b o nb (sm.1 b o nb eb)
      · obtain ⟨x, y, z, e⟩ := s3.2
        exact ⟨x, y, z, by rw [upd_ne pa.symm]; exact e⟩
      · rw [upd_same, List.map_append]
        rfl
      · intro w hw
        rcases List.mem_append.mp hw with z | z
        · exact wo w z
        · rw [List.mem_singleton.mp z]
          exact wo3
  · obtain ⟨ws, y3, y4, rfl, sm, ep, ln, wo⟩ := hv
    exact ⟨_, rfl, q p H' ws sm hp ep (by omega) wo⟩
end
end K02
namespace K02
open PySem L2 Vk
def spLeaf (K : PySem.W.Frag) : Sp := fun vs H Q _ => ∃ (a c : Addr) (ns as : List Str), vs = [.ref a, .ref c] ∧ Fd H a ∧ Ws H c ns ∧ ∀ (v : V) (H' : Hp) (e : Ex), Stp a H H' → e.At K H' v → e.dep ≤ 1 → e.good ns as → Q v H'
def spTree (K : PySem.W.Frag) (m : Nat) : Sp := fun vs H Q _ => ∃ (a b c d g : Addr) (n : Int) (tight : Bool) (ns as ms : List Str), vs = [.ref a, .ref b, .int n, .bl tight, .ref c, .ref d, .ref g] ∧ Fd H a ∧ Rm H b ∧ Ws H c ns ∧ Ws H d as ∧ Ws H g ms ∧ 1 ≤ n ∧ n ≤ m ∧ n ≤ 1000 ∧
  ∀ (v : V) (H' : Hp) (e : Ex), St2 a b H H' → e.At K H' v → e.dep ≤ m → e.good ns as → Q v H'
def spParts (K : PySem.W.Frag) : Sp := fun vs H Q _ => ∃ (v : V) (e : Ex), vs = [v] ∧ e.At K H v ∧ ∀ (p : Addr) (H' : Hp) (us : List V), Same H H' → H p = none → H' p = some (.lst us) → Ex.AtAll K H' e.kids us → Q (.ref p) H'
def spSubs (K : PySem.W.Frag) (n : Nat) : Sp := fun vs H Q _ => ∃ (v : V) (e : Ex), vs = [v] ∧ e.At K H v ∧ e.dep ≤ n ∧ n ≤ 12 ∧ ∀ (p : Addr) (H' : Hp) (us : List V), Same H H' → H p = none → H' p = some (.lst us) → Ex.AtAll K H' e.subs us → Q (.ref p) H'
/-- what the draws of a sort, a word and a number of parts come to -/
def Chosen (as : List Str) (sort word : Str) (many : Int) : Prop :=
  (sort = "read" ∧ word ∈ as ∧ many = 1) ∨ (sort = "call" ∧ (((word = "min" ∨ word = "max") ∧ many = 2) ∨ (word = "pick" ∧ many = 3) ∨ (word = "nth" ∧ many = 1))) ∨ (sort ≠ "read" ∧ sort ≠ "call" ∧ word ∈ signsW ∧ many = 2)
theorem Chosen.bd {as : List Str} {sort word : Str} {many : Int} (h : Chosen as sort word many) : 1 ≤ many ∧ many ≤ 3 := by
  rcases h with ⟨_, _, rfl⟩ | ⟨_, ⟨_, rfl⟩ | ⟨_, rfl⟩ | ⟨_, rfl⟩⟩ | ⟨_, _, _, rfl⟩ <;> decide
section
variable {P : Program} {w : World} {K : PySem.W.Frag} {mg : Str → Option Value} {base : Heap}
theorem ok_leaf {f : Addr} {fd : FuncData} {k : Nat} (F : Fun K "_law_leaf" "_law_leaf" s_law_leaf f fd) (mlen : mg "len" = none) (O_law_take : Ok P w K mg base k "_law_take" P_law_take spTake) (O_law_number : Ok P w K mg base k "_law_number" P_law_number spNumber) : FnOk P w K mg base CX0 (k + 1) f fd P_law_leaf (spLeaf K) := by
  refine F.ok sc_law_leaf (fun vs H Q E h => ?_) (fun cdv A outer s H vs Q E hr h => ?_)
  · obtain ⟨a, c, ns, as, rfl, _⟩ := h
    rfl
  obtain ⟨a, c, ns, as, rfl, hF, hW, q⟩ := h
  refine ⟨_, (pss_cons (ps_if (pt_cmpR op_lt (pe_c O_law_take hr (by rfl) (pa_cons (pv 0) (pa_cons pe_int pa_nil))) pe_int (nomark _))
      (pss_one (ps_ret (pe_tup (pa_cons pe_str (pa_cons (pe_c O_law_number hr (by rfl) (pa_cons (pv 0) pa_nil)) pa_nil)))))
      pss_nil)
    (pss_one (ps_ret (pe_tup (pa_cons pe_str (pa_cons (pe_ix ix_list (pv 1) (pe_c O_law_take hr (by rfl) (pa_cons (pv 0) (pa_cons (pe_callB call_len_seq (by rfl) mlen (by decide +kernel) (pa_cons (pv 1) pa_nil)) pa_nil))) (fun _ _ => rfl)) pa_nil)))))), ?_⟩
  refine rd_take rfl hF (by decide) (by decide) fun kind H1 k0 k1 s1 => ⟨_, _, rfl, rfl, _, rfl, ite2 (fun cc => ?_) (fun cc => ?_)⟩
  · refine ⟨_, rfl, a, rfl, s1.2, fun n H2 n0 n1 s2 => ⟨(by show 2 ≤ sizeLine; decide), fun t ht => ?_⟩⟩
    exact q _ _ (.num n) ((s1.trans s2).same (same_new ht _)) ⟨t, rfl, SqT.of upd_same⟩ (Nat.le_refl 1) ⟨n0, n1⟩
  · have hW1 := hW.stp hF s1
    have hlen : (ns.map V.str).length = ns.length := List.length_map _
    have hz := hW.sz
    have hp := hW.pos
    refine ⟨_, rfl, _, rfl, _, rfl, _, _, rfl, .inl (SqL.of hW1.at'), a, _, rfl, s1.2, by omega, by omega, fun r H2 r0 r1 s2 => ?_⟩
    obtain ⟨v, vm, ev⟩ := atI_in (xs := ns.map V.str) (i := r) r0 r1
    obtain ⟨z, zm, rfl⟩ := List.mem_map.mp vm
    refine ⟨_, _, _, _, rfl, rfl, SqL.of (hW1.stp s1.2 s2).at', ev, (by show 2 ≤ sizeLine; decide), fun t ht => ?_⟩
    exact q _ _ (.nam z) ((s1.trans s2).same (same_new ht _)) ⟨t, rfl, SqT.of upd_same⟩ (Nat.le_refl 1) zm
theorem ok_parts {f : Addr} {fd : FuncData} {k : Nat} (F : Fun K "_law_parts" "_law_parts" s_law_parts f fd) (mlist : mg "list" = none) : FnOk P w K mg base CX0 (k + 1) f fd P_law_parts (spParts K) := by
  refine F.ok sc_law_parts (fun vs H Q E h => ?_) (fun cdv A outer s H vs Q E hr h => ?_)
  · obtain ⟨a, c, rfl, _⟩ := h
    rfl
  obtain ⟨v, e, rfl, hAt, q⟩ := h
  refine ⟨_, (pss_cons (ps_if (pt_cmpR op_eq (pe_ix ix_tup (pv 0) pe_int (fun _ _ => rfl)) pe_str (nomark _))
      (pss_one (ps_ret (pe_lst (pa_cons (pe_ix ix_tup (pv 0) pe_int (fun _ _ => rfl)) pa_nil))))
      pss_nil)
    (pss_cons (ps_if (pt_cmpR op_eq (pe_ix ix_tup (pv 0) pe_int (fun _ _ => rfl)) pe_str (nomark _))
      (pss_one (ps_ret (pe_lst (pa_cons (pe_ix ix_tup (pv 0) pe_int (fun _ _ => rfl)) (pa_cons (pe_ix ix_tup (pv 0) pe_int (fun _ _ => rfl)) pa_nil)))))
      pss_nil)
    (pss_cons (ps_if (pt_cmpR op_eq (pe_ix ix_tup (pv 0) pe_int (fun _ _ => rfl)) pe_str (nomark _))
      (pss_one (ps_ret (pe_callTy call_list_of (by rfl) mlist (by decide +kernel) (pa_cons (pe_ix ix_tup (pv 0) pe_int (fun _ _ => rfl)) pa_nil))))
      pss_nil)
    (pss_one (ps_ret (pe_lst pa_nil)))))), ?_⟩
  cases e with
  | num n =>
    obtain ⟨a, rfl, hT⟩ := hAt
    refine ⟨_, rfl, _, _, _, _, rfl, rfl, hT, atI_nat (j := 0) rfl, rfl, _, rfl, itN (by decide +kernel) ⟨_, rfl, _, _, _, _, rfl, rfl, hT, atI_nat (j := 0) rfl, rfl, _, rfl, itN (by decide +kernel) ⟨_, rfl, _, _, _, _, rfl, rfl, hT, atI_nat (j := 0) rfl, rfl, _, rfl, itN (by decide +kernel) ?_⟩⟩⟩
    exact ⟨(by show 0 ≤ sizeLine; decide), fun p hp => q p _ [] (same_new hp _) hp upd_same trivial⟩
  | nam n =>
    obtain ⟨a, rfl, hT⟩ := hAt
    refine ⟨_, rfl, _, _, _, _, rfl, rfl, hT, atI_nat (j := 0) rfl, rfl, _, rfl, itN (by decide +kernel) ⟨_, rfl, _, _, _, _, rfl, rfl, hT, atI_nat (j := 0) rfl, rfl, _, rfl, itN (by decide +kernel) ⟨_, rfl, _, _, _, _, rfl, rfl, hT, atI_nat (j := 0) rfl, rfl, _, rfl, itN (by decide +kernel) ?_⟩⟩⟩
    exact ⟨(by show 0 ≤ sizeLine; decide), fun p hp => q p _ [] (same_new hp _) hp upd_same trivial⟩
  | op s l r =>
    obtain ⟨a, x, y, rfl, hT, hl, hr1⟩ := hAt
    refine ⟨_, rfl, _, _, _, _, rfl, rfl, hT, atI_nat (j := 0) rfl, rfl, _, rfl, itN (by decide +kernel) ⟨_, rfl, _, _, _, _, rfl, rfl, hT, atI_nat (j := 0) rfl, rfl, _, rfl, itY ?_⟩⟩
    refine ⟨_, rfl, _, _, _, _, rfl, rfl, hT, atI_nat (j := 2) rfl, _, rfl, _, _, _, _, rfl, rfl, hT, atI_nat (j := 3) rfl, (by show 2 ≤ sizeLine; decide), fun p hp => ?_⟩
    have t := Same.tu (K := K) (same_new hp (.lst [x, y]))
    exact q p _ [x, y] (same_new hp _) hp upd_same ⟨hl.tu t, hr1.tu t, trivial⟩
  | rd s l =>
    obtain ⟨a, x, rfl, hT, hl⟩ := hAt
    refine ⟨_, rfl, _, _, _, _, rfl, rfl, hT, atI_nat (j := 0) rfl, rfl, _, rfl, itY ?_⟩
    refine ⟨_, rfl, _, _, _, _, rfl, rfl, hT, atI_nat (j := 2) rfl, (by show 1 ≤ sizeLine; decide), fun p hp => ?_⟩
    have t := Same.tu (K := K) (same_new hp (.lst [x]))
    exact q p _ [x] (same_new hp _) hp upd_same ⟨hl.tu t, trivial⟩
  | c1 s l =>
    obtain ⟨a, tt, x, rfl, hT, hT2, hl⟩ := hAt
    refine ⟨_, rfl, _, _, _, _, rfl, rfl, hT, atI_nat (j := 0) rfl, rfl, _, rfl, itN (by decide +kernel) ⟨_, rfl, _, _, _, _, rfl, rfl, hT, atI_nat (j := 0) rfl, rfl, _, rfl, itN (by decide +kernel) ⟨_, rfl, _, _, _, _, rfl, rfl, hT, atI_nat (j := 0) rfl, rfl, _, rfl, itY ?_⟩⟩⟩
    refine ⟨_, rfl, _, _, _, _, rfl, rfl, hT, atI_nat (j := 2) rfl, tt, _, rfl, .inr hT2, fun p hp => ?_⟩
    have t := Same.tu (K := K) (same_new hp (.lst [x]))
    exact q p _ [x] (same_new hp _) hp upd_same ⟨hl.tu t, trivial⟩
  | c2 s l r =>
    obtain ⟨a, tt, x, y, rfl, hT, hT2, hl, hr1⟩ := hAt
    refine ⟨_, rfl, _, _, _, _, rfl, rfl, hT, atI_nat (j := 0) rfl, rfl, _, rfl, itN (by decide +kernel) ⟨_, rfl, _, _, _, _, rfl, rfl, hT, atI_nat (j := 0) rfl, rfl, _, rfl, itN (by decide +kernel) ⟨_, rfl, _, _, _, _, rfl, rfl, hT, atI_nat (j := 0) rfl, rfl, _, rfl, itY ?_⟩⟩⟩
    refine ⟨_, rfl, _, _, _, _, rfl, rfl, hT, atI_nat (j := 2) rfl, tt, _, rfl, .inr hT2, fun p hp => ?_⟩
    have t := Same.tu (K := K) (same_new hp (.lst [x, y]))
    exact q p _ [x, y] (same_new hp _) hp upd_same ⟨hl.tu t, hr1.tu t, trivial⟩
  | c3 s l r z =>
    obtain ⟨a, tt, x, y, u, rfl, hT, hT2, hl, hr1, hz⟩ := hAt
    refine ⟨_, rfl, _, _, _, _, rfl, rfl, hT, atI_nat (j := 0) rfl, rfl, _, rfl, itN (by decide +kernel) ⟨_, rfl, _, _, _, _, rfl, rfl, hT, atI_nat (j := 0) rfl, rfl, _, rfl, itN (by decide +kernel) ⟨_, rfl, _, _, _, _, rfl, rfl, hT, atI_nat (j := 0) rfl, rfl, _, rfl, itY ?_⟩⟩⟩
    refine ⟨_, rfl, _, _, _, _, rfl, rfl, hT, atI_nat (j := 2) rfl, tt, _, rfl, .inr hT2, fun p hp => ?_⟩
    have t := Same.tu (K := K) (same_new hp (.lst [x, y, u]))
    exact q p _ [x, y, u] (same_new hp _) hp upd_same ⟨hl.tu t, hr1.tu t, hz.tu t, trivial⟩
theorem subs_eq : ∀ e : Ex, e.subs = e :: e.kids.flatMap Ex.subs
  | .num _ => rfl
  | .nam _ => rfl
  | .op _ _ _ => by simp [Ex.subs, Ex.kids]
  | .rd _ _ => by simp [Ex.subs, Ex.kids]
  | .c1 _ _ => by simp [Ex.subs, Ex.kids]
  | .c2 _ _ _ => by simp [Ex.subs, Ex.kids]
  | .c3 _ _ _ _ => by simp [Ex.subs, Ex.kids]
theorem ok_subs {f : Addr} {fd : FuncData} {k n : Nat} (F : Fun K "_law_subs" "_law_subs" s_law_subs f fd) (O_law_parts : Ok P w K mg base k "_law_parts" P_law_parts (spParts K)) (O_law_subs : Ok P w K mg base k "_law_subs" P_law_subs (spSubs K n)) : FnOk P w K mg base CX0 (k + 1) f fd P_law_subs (spSubs K (n + 1)) := by
  refine F.ok sc_law_subs (fun vs H Q E h => ?_) (fun cdv A outer s H vs Q E hr h => ?_)
  · obtain ⟨a, c, rfl, _⟩ := h
    rfl
  obtain ⟨v, e, rfl, hAt, hd, hn, q⟩ := h
  refine ⟨_, (pss_cons (ps_set (i := 1) sc_law_subs.nd rfl (Or.inl rfl) (pe_lst (pa_cons (pv 0) pa_nil)))
    (pss_cons (ps_for PassesOwn.never rfl (pi_list (pe_c O_law_parts hr (by rfl) (pa_cons (pv 0) pa_nil))) (pg_name (i := 2) sc_law_subs.nd rfl (Or.inl rfl))
      (pss_one (ps_set (i := 1) sc_law_subs.nd rfl (Or.inl rfl) (pe_op op_cat (pv 1) (pe_c O_law_subs hr (by rfl) (pa_cons (pv 2) pa_nil))))))
    (pss_one (ps_ret (pv 1))))), ?_⟩
  refine ⟨_, rfl, (by show 1 ≤ sizeLine; decide), fun p1 h1 => ⟨_, rfl, v, e, rfl, hAt.tu (Same.tu (same_new h1 _)), fun pk H2 ks s2 npk ek ak => ⟨pk, rfl, ⟨_, SqL.of ek⟩, ?_⟩⟩⟩
  have g1 := same_new h1 (.lst [v])
  have g2 := g1.trans s2
  have lenk := ak.len
  refine for_list (xs := ks) (fun i σ H' => ∃ (p : Addr) (us : List V) (y2 : Option V), σ = [some v, some (.ref p), y2] ∧ Same H2 H' ∧ H p = none ∧ H' p = some (.lst us) ∧ Ex.AtAll K H' (e :: (e.kids.take i).flatMap Ex.subs) us)
    ⟨p1, [v], _, rfl, Same.refl _, h1, s2 _ _ upd_same, ⟨hAt.tu (Same.tu g2), by simp [Ex.AtAll]⟩⟩ (fun i σ H' _ hv => ?_) (fun i x σ H' hx hv => ?_) (fun σ H' hv => ?_)
  · obtain ⟨p, us, y2, rfl, sm, _⟩ := hv
    exact SqL.of (sm _ _ ek)
  · obtain ⟨p, us, y2, rfl, sm, np, ep, au⟩ := hv
    obtain ⟨ei, gi, ati⟩ := ak.get hx
    have eim : ei ∈ e.kids := List.mem_of_getElem? gi
    have ed := Ex.kids_dep eim
    refine ⟨_, rfl, _, rfl, x, ei, rfl, ati.tu (Same.tu sm), by omega, by omega, fun p3 H3 us3 s3 np3 ep3 au3 => ?_⟩
    have tk : (e.kids.take (i + 1)).flatMap Ex.subs = (e.kids.take i).flatMap Ex.subs ++ ei.subs := by
      rw [List.take_add_one, gi, List.flatMap_append]
      simp
    have au' := au.tu (Same.tu s3)
    have app := au'.app au3
    have small : us.length + us3.length ≤ sizeLine := by
      have l1 : ((e :: (e.kids.take i).flatMap Ex.subs) ++ ei.subs).length = us.length + us3.length := by rw [app.len, List.length_append]
      have l2 := Ex.subs_len e
      have l3 : ((e :: (e.kids.take i).flatMap Ex.subs) ++ ei.subs).length ≤ e.subs.length := by
        rw [subs_eq e, List.cons_append, ← tk]
        have : (e.kids.take (i + 1)).flatMap Ex.subs <+: e.kids.flatMap Ex.subs := by
          refine ⟨(e.kids.drop (i + 1)).flatMap Ex.subs, ?_⟩
          rw [← List.flatMap_append, List.take_append_drop]
        have := this.length_le
        simp only [List.length_cons]
        omega
      have l4 : 4 ^ e.dep ≤ 4 ^ 12 := Nat.pow_le_pow_right (by decide) (by omega)
      have l5 : (4 : Nat) ^ 12 = sizeLine := by decide
      have l6 : ((e :: (e.kids.take i).flatMap Ex.subs) ++ ei.subs).length = (e :: (e.kids.take i).flatMap Ex.subs).length + ei.subs.length := List.length_append
      omega
    refine ⟨p, p3, us, us3, rfl, rfl, s3 _ _ ep, ep3, small, fun p4 hp4 => ?_⟩
    refine ⟨p4, us ++ us3, _, rfl, sm.trans (s3.trans (same_new hp4 _)), ?_, upd_same, ?_⟩
    · exact (g2.trans (sm.trans s3)).free hp4
    · rw [tk]
      exact (app).tu (Same.tu (same_new hp4 _))
  · obtain ⟨p, us, y2, rfl, sm, np, ep, au⟩ := hv
    rw [← lenk, List.take_length] at au
    rw [← subs_eq] at au
    exact ⟨_, rfl, q p H' us (g2.trans sm) np ep au⟩
theorem ok_tree {f : Addr} {fd : FuncData} {k m : Nat} (F : Fun K "_law_tree" "_law_tree" s_law_tree f fd) (mlen : mg "len" = none) (mint : mg "int" = none) (mrange : mg "range" = none) (mtuple : mg "tuple" = none) (O_law_take : Ok P w K mg base k "_law_take" P_law_take spTake)
    (O_law_leaf : Ok P w K mg base k "_law_leaf" P_law_leaf (spLeaf K)) (O_law_tree : Ok P w K mg base k "_law_tree" P_law_tree (spTree K m)) : FnOk P w K mg base CX0 (k + 1) f fd P_law_tree (spTree K (m + 1)) := by
  refine F.ok sc_law_tree (fun vs H Q E h => ?_) (fun cdv A outer s H vs Q E hr h => ?_)
  · obtain ⟨a, b, c, d, g, n, ti, ns, as, ms, rfl, _⟩ := h
    rfl
  obtain ⟨a, b, c, d, g, n, tight, ns, as, ms, rfl, hF, ⟨rn, hR⟩, hc, hd, hg, n0, n1, n2, q⟩ := h
  refine ⟨_, (pss_cutAt 8 (pss_cons (ps_asg (pe_op op_sub (pe_ix ix_list (pv 1) pe_int (fun _ _ => rfl)) pe_int) (pg_sub (pv 1) pe_int set_list))
    (pss_cons (ps_set (i := 7) sc_law_tree.nd rfl (Or.inl rfl) (pe_ix ix_list (pv 6) (pe_c O_law_take hr (by rfl) (pa_cons (pv 0) (pa_cons (pe_callB call_len_seq (by rfl) mlen (by decide +kernel) (pa_cons (pv 6) pa_nil)) pa_nil))) (fun _ _ => rfl)))
    (pss_cons (ps_if (PW.pt (pw_or (pt_cmpR op_lt (pv 2) pe_int (nomark _)) (pw_or1 (PW.pt (pw_and (pt_not (pt_val (pv 3))) (pw_and1 (PW.pt (pw_or (pt_cmpR op_eq (pv 7) pe_str (nomark _)) (pw_or1 (pt_cmpR op_lt (pe_ix ix_list (pv 1) pe_int (fun _ _ => rfl)) pe_int (nomark _)))))))))))
      (pss_one (ps_ret (pe_c O_law_leaf hr (by rfl) (pa_cons (pv 0) (pa_cons (pv 4) pa_nil)))))
      pss_nil)
    (pss_cons (ps_set (i := 8) sc_law_tree.nd rfl (Or.inl rfl) (pe_lst (pa_cons pe_str (pa_cons pe_str (pa_cons pe_str (pa_cons pe_str (pa_cons pe_str (pa_cons pe_str (pa_cons pe_str (pa_cons pe_str (pa_cons pe_str (pa_cons pe_str (pa_cons pe_str (pa_cons pe_str (pa_cons pe_str (pa_cons pe_str (pa_cons pe_str (pa_cons pe_str pa_nil))))))))))))))))))
    (pss_cons (ps_set (i := 9) sc_law_tree.nd rfl (Or.inl rfl) (pe_ix ix_list (pv 8) (pe_c O_law_take hr (by rfl) (pa_cons (pv 0) (pa_cons pe_int pa_nil))) (fun _ _ => rfl)))
    (pss_cons (ps_set (i := 10) sc_law_tree.nd rfl (Or.inl rfl) pe_int)
    (pss_cons (ps_if (pt_cmpR op_eq (pv 7) pe_str (nomark _))
      (pss_cons (ps_set (i := 9) sc_law_tree.nd rfl (Or.inl rfl) (pe_ix ix_list (pv 5) (pe_c O_law_take hr (by rfl) (pa_cons (pv 0) (pa_cons (pe_callB call_len_seq (by rfl) mlen (by decide +kernel) (pa_cons (pv 5) pa_nil)) pa_nil))) (fun _ _ => rfl)))
      (pss_one (ps_set (i := 10) sc_law_tree.nd rfl (Or.inl rfl) pe_int)))
      pss_nil)
    (pss_one (ps_if (pt_cmpR op_eq (pv 7) pe_str (nomark _))
      (pss_cons (ps_set (i := 9) sc_law_tree.nd rfl (Or.inl rfl) (pe_ix ix_list (pe_lst (pa_cons pe_str (pa_cons pe_str (pa_cons pe_str (pa_cons pe_str pa_nil))))) (pe_c O_law_take hr (by rfl) (pa_cons (pv 0) (pa_cons pe_int pa_nil))) (fun _ _ => rfl)))
      (pss_one (ps_set (i := 10) sc_law_tree.nd rfl (Or.inl rfl) (pe_op op_sub (pe_op op_add pe_int (pe_callTy call_int1 (by rfl) mint (by decide +kernel) (pa_cons (pe_cmpR op_eq (pv 9) pe_str (nomark _)) pa_nil))) (pe_callTy call_int1 (by rfl) mint (by decide +kernel) (pa_cons (pe_cmpR op_eq (pv 9) pe_str (nomark _)) pa_nil))))))
      pss_nil)))))))))
    (pss_cons (ps_set (i := 11) sc_law_tree.nd rfl (Or.inl rfl) (pe_c O_law_take hr (by rfl) (pa_cons (pv 0) (pa_cons (pv 10) pa_nil))))
    (pss_cons (ps_set (i := 12) sc_law_tree.nd rfl (Or.inl rfl) (pe_lst pa_nil))
    (pss_cons (ps_for PassesOwn.never rfl (pi_range1 (by rfl) mrange (pa_cons (pv 10) pa_nil)) (pg_name (i := 13) sc_law_tree.nd rfl (Or.inl rfl))
      (pss_one (ps_if (PW.pt (pw_and (pt_val (pv 3)) (pw_and1 (pt_cmpR op_eq (pv 13) (pv 11) (nomark _)))))
        (pss_one (ps_expr (pe_bm PySem.F.plainAttrs_list PySem.F.slot_list_append PySem.F.type_list_append mt_append (pv 12) (pa_cons (pe_c O_law_tree hr (by rfl) (pa_cons (pv 0) (pa_cons (pv 1) (pa_cons (pe_op op_sub (pv 2) pe_int) (pa_cons pe_bl (pa_cons (pv 4) (pa_cons (pv 5) (pa_cons (pv 6) pa_nil)))))))) pa_nil))))
        (pss_one (ps_expr (pe_bm PySem.F.plainAttrs_list PySem.F.slot_list_append PySem.F.type_list_append mt_append (pv 12) (pa_cons (pe_c O_law_tree hr (by rfl) (pa_cons (pv 0) (pa_cons (pv 1) (pa_cons (pe_op op_add pe_int (pe_c O_law_take hr (by rfl) (pa_cons (pv 0) (pa_cons (pe_op op_sub (pv 2) pe_int) pa_nil)))) (pa_cons pe_bl (pa_cons (pv 4) (pa_cons (pv 5) (pa_cons (pv 6) pa_nil)))))))) pa_nil)))))))
    (pss_cons (ps_if (pt_cmpR op_eq (pv 7) pe_str (nomark _))
      (pss_one (ps_ret (pe_tup (pa_cons pe_str (pa_cons (pv 9) (pa_cons (pe_ix ix_list (pv 12) pe_int (fun _ _ => rfl)) pa_nil))))))
      pss_nil)
    (pss_cons (ps_if (pt_cmpR op_eq (pv 7) pe_str (nomark _))
      (pss_one (ps_ret (pe_tup (pa_cons pe_str (pa_cons (pv 9) (pa_cons (pe_callTy call_tuple_of (by rfl) mtuple (by decide +kernel) (pa_cons (pv 12) pa_nil)) pa_nil))))))
      pss_nil)
    (pss_one (ps_ret (pe_tup (pa_cons pe_str (pa_cons (pv 9) (pa_cons (pe_ix ix_list (pv 12) pe_int (fun _ _ => rfl)) (pa_cons (pe_ix ix_list (pv 12) pe_int (fun _ _ => rfl)) pa_nil))))))))))))), ?_⟩
  have hab := hF.ne_rm ⟨rn, hR⟩
  -- room[0] = room[0] - 1
  have u1 : Rm (upd H b (.lst [.int (rn - 1)])) b := ⟨_, upd_same⟩
  have f1 : Fd (upd H b (.lst [.int (rn - 1)])) a := by
    obtain ⟨x, y, z, e⟩ := hF
    exact ⟨x, y, z, by rw [upd_ne hab]; exact e⟩
  have s1 : St2 a b H (upd H b (.lst [.int (rn - 1)])) := ⟨fun x o na nb e => by rw [upd_ne nb]; exact e, f1, u1⟩
  have R0 : Rm H b := ⟨rn, hR⟩
  have hc1 := hc.st2 hF R0 s1
  have hd1 := hd.st2 hF R0 s1
  have hg1 := hg.st2 hF R0 s1
  refine ⟨fun σ' H' => ∃ (sort word : Str) (many : Int) (y8 y11 y12 y13 : Option V), σ' = [some (.ref a), some (.ref b), some (.int n), some (.bl tight), some (.ref c), some (.ref d), some (.ref g), some (.str sort), y8, some (.str word), some (.int many), y11, y12, y13] ∧ St2 a b H H' ∧ 2 ≤ n ∧ Chosen as sort word many, ?_, fun σ' H' hm => ?_⟩
  · refine ⟨_, rfl, _, _, _, _, rfl, rfl, SqL.of hR, atI_nat (j := 0) rfl, _, _, rfl, rfl, _, rfl, _, _, _, _, rfl, rfl, hR, rfl, ?_⟩
    -- sort
    have mz := hg.sz
    have mp := hg.pos
    have ml : (ms.map V.str).length = ms.length := List.length_map _
    refine ⟨_, rfl, _, rfl, _, rfl, _, _, rfl, .inl (SqL.of hg1.at'), a, _, rfl, f1, by omega, by omega, fun r H2 r0 r1 s2 => ?_⟩
    obtain ⟨v, vm, ev⟩ := atI_in (xs := ms.map V.str) (i := r) r0 r1
    obtain ⟨sort, sm, rfl⟩ := List.mem_map.mp vm
    refine ⟨_, _, _, _, rfl, rfl, SqL.of (hg1.stp f1 s2).at', ev, ?_⟩
    have s12 := s1.stp s2
    have hb2 : H2 b = some (.lst [.int (rn - 1)]) := s2.1 _ _ hab.symm upd_same
    have hc2 := hc1.stp f1 s2
    have hd2 := hd1.stp f1 s2
    -- the leaf
    have leafQ : ∀ (v : V) (H' : Hp) (e : Ex), Stp a H2 H' → e.At K H' v → e.dep ≤ 1 → e.good ns as → Q v H' := fun v H' e s at' dp gd => q v H' e (s12.stp s) at' (by omega) gd
    refine ⟨_, rfl, _, _, rfl, rfl, _, rfl, ite2' (fun cc => ⟨_, rfl, _, rfl, a, c, ns, as, rfl, s2.2, hc2, leafQ⟩) (fun cc => ?_)⟩
    have n2' : 2 ≤ n := by omega
    have go : (tight = true ∨ True) := .inr trivial
    refine ⟨_, rfl, tight, rfl, ite2 (fun ct => ?_) (fun ct => ?_)⟩
    · refine ⟨_, rfl, rfl, _, rfl, ite2 (fun c2 => ⟨_, rfl, _, rfl, a, c, ns, as, rfl, s2.2, hc2, leafQ⟩) (fun c2 => ?_)⟩
      refine ⟨_, rfl, _, _, _, _, rfl, rfl, SqL.of hb2, atI_nat (j := 0) rfl, _, _, rfl, rfl, _, rfl, ite2 (fun c3 => ⟨_, rfl, _, rfl, a, c, ns, as, rfl, s2.2, hc2, leafQ⟩) (fun c3 => ?_)⟩
      -- signs, word, many
      refine ⟨(by show 16 ≤ sizeLine; decide), fun l hl => ?_⟩
      have s3 := s12.same (same_new hl (.lst (signsW.map V.str)))
      have f3 := s2.2.same (same_new hl (.lst (signsW.map V.str)))
      refine ⟨_, rfl, rd_take rfl f3 (by decide) (by decide) fun r H3 r0 r1 s4 => ?_⟩
      obtain ⟨v, vm, ev⟩ := atI_in (xs := signsW.map V.str) (i := r) r0 r1
      obtain ⟨word, wm, rfl⟩ := List.mem_map.mp vm
      have la : l ≠ a := by
        obtain ⟨x, y, z, e⟩ := s2.2
        exact (ne_of_none e hl).symm
      refine ⟨_, _, _, _, rfl, rfl, SqL.of (s4.1 _ _ la upd_same), ev, ?_⟩
      have s34 := s3.stp s4
      have hd4 := (hd2.same (same_new hl (.lst (signsW.map V.str)))).stp f3 s4
      have az := hd.sz
      have ap := hd.pos
      have al : (as.map V.str).length = as.length := List.length_map _
      by_cases e1 : sort = "read"
      · subst e1
        refine ⟨_, rfl, rfl, _, rfl, itY ⟨_, rfl, _, rfl, _, rfl, _, _, rfl, .inl (SqL.of hd4.at'), a, _, rfl, s4.2, by omega, by omega, fun r5 H5 r50 r51 s5 => ?_⟩⟩
        obtain ⟨v, vm, ev⟩ := atI_in (xs := as.map V.str) (i := r5) r50 r51
        obtain ⟨wa, wam, rfl⟩ := List.mem_map.mp vm
        refine ⟨_, _, _, _, rfl, rfl, SqL.of (hd4.stp s4.2 s5).at', ev, _, rfl, rfl, _, rfl, itN (by decide +kernel) ?_⟩
        exact ⟨_, wa, 1, _, _, _, _, rfl, s34.stp s5, n2', .inl ⟨rfl, wam, rfl⟩⟩
      refine ⟨_, rfl, rfl, _, rfl, itN (strNe e1) ?_⟩
      by_cases e2 : sort = "call"
      · subst e2
        refine ⟨_, rfl, rfl, _, rfl, itY ⟨(by show 4 ≤ sizeLine; decide), fun l2 hl2 => rd_in ((["min", "max", "pick", "nth"] : List Str).map V.str) rfl s4.2 hl2 rfl (by decide) (by decide) fun v H5 vm2 s5 => ?_⟩⟩
        simp only [List.map_cons, List.map_nil, List.mem_cons, List.not_mem_nil, or_false] at vm2
        have s35 := s34.stp s5
        rcases vm2 with rfl | rfl | rfl | rfl
        · exact ⟨_, rfl, rfl, .inr ⟨_, rfl, _, _, rfl, rfl, _, rfl, rfl, .inr ⟨_, rfl, _, _, rfl, rfl, _, "min", _, _, _, _, _, rfl, s35, n2', .inr (.inl ⟨rfl, .inl ⟨.inl rfl, (by decide +kernel)⟩⟩)⟩⟩⟩
        · exact ⟨_, rfl, rfl, .inr ⟨_, rfl, _, _, rfl, rfl, _, rfl, rfl, .inr ⟨_, rfl, _, _, rfl, rfl, _, "max", _, _, _, _, _, rfl, s35, n2', .inr (.inl ⟨rfl, .inl ⟨.inr rfl, (by decide +kernel)⟩⟩)⟩⟩⟩
        · exact ⟨_, rfl, rfl, .inr ⟨_, rfl, _, _, rfl, rfl, _, rfl, rfl, .inr ⟨_, rfl, _, _, rfl, rfl, _, "pick", _, _, _, _, _, rfl, s35, n2', .inr (.inl ⟨rfl, .inr (.inl ⟨rfl, (by decide +kernel)⟩)⟩)⟩⟩⟩
        · exact ⟨_, rfl, rfl, .inr ⟨_, rfl, _, _, rfl, rfl, _, rfl, rfl, .inr ⟨_, rfl, _, _, rfl, rfl, _, "nth", _, _, _, _, _, rfl, s35, n2', .inr (.inl ⟨rfl, .inr (.inr ⟨rfl, (by decide +kernel)⟩)⟩)⟩⟩⟩
      exact ⟨_, rfl, rfl, _, rfl, itN (strNe e2) ⟨_, word, 2, _, _, _, _, rfl, s34, n2', .inr (.inr ⟨e1, e2, wm, rfl⟩)⟩⟩
    · -- signs, word, many
      refine ⟨(by show 16 ≤ sizeLine; decide), fun l hl => ?_⟩
      have s3 := s12.same (same_new hl (.lst (signsW.map V.str)))
      have f3 := s2.2.same (same_new hl (.lst (signsW.map V.str)))
      refine ⟨_, rfl, rd_take rfl f3 (by decide) (by decide) fun r H3 r0 r1 s4 => ?_⟩
      obtain ⟨v, vm, ev⟩ := atI_in (xs := signsW.map V.str) (i := r) r0 r1
      obtain ⟨word, wm, rfl⟩ := List.mem_map.mp vm
      have la : l ≠ a := by
        obtain ⟨x, y, z, e⟩ := s2.2
        exact (ne_of_none e hl).symm
      refine ⟨_, _, _, _, rfl, rfl, SqL.of (s4.1 _ _ la upd_same), ev, ?_⟩
      have s34 := s3.stp s4
      have hd4 := (hd2.same (same_new hl (.lst (signsW.map V.str)))).stp f3 s4
      have az := hd.sz
      have ap := hd.pos
      have al : (as.map V.str).length = as.length := List.length_map _
      by_cases e1 : sort = "read"
      · subst e1
        refine ⟨_, rfl, rfl, _, rfl, itY ⟨_, rfl, _, rfl, _, rfl, _, _, rfl, .inl (SqL.of hd4.at'), a, _, rfl, s4.2, by omega, by omega, fun r5 H5 r50 r51 s5 => ?_⟩⟩
        obtain ⟨v, vm, ev⟩ := atI_in (xs := as.map V.str) (i := r5) r50 r51
        obtain ⟨wa, wam, rfl⟩ := List.mem_map.mp vm
        refine ⟨_, _, _, _, rfl, rfl, SqL.of (hd4.stp s4.2 s5).at', ev, _, rfl, rfl, _, rfl, itN (by decide +kernel) ?_⟩
        exact ⟨_, wa, 1, _, _, _, _, rfl, s34.stp s5, n2', .inl ⟨rfl, wam, rfl⟩⟩
      refine ⟨_, rfl, rfl, _, rfl, itN (strNe e1) ?_⟩
      by_cases e2 : sort = "call"
      · subst e2
        refine ⟨_, rfl, rfl, _, rfl, itY ⟨(by show 4 ≤ sizeLine; decide), fun l2 hl2 => rd_in ((["min", "max", "pick", "nth"] : List Str).map V.str) rfl s4.2 hl2 rfl (by decide) (by decide) fun v H5 vm2 s5 => ?_⟩⟩
        simp only [List.map_cons, List.map_nil, List.mem_cons, List.not_mem_nil, or_false] at vm2
        have s35 := s34.stp s5
        rcases vm2 with rfl | rfl | rfl | rfl
        · exact ⟨_, rfl, rfl, .inr ⟨_, rfl, _, _, rfl, rfl, _, rfl, rfl, .inr ⟨_, rfl, _, _, rfl, rfl, _, "min", _, _, _, _, _, rfl, s35, n2', .inr (.inl ⟨rfl, .inl ⟨.inl rfl, (by decide +kernel)⟩⟩)⟩⟩⟩
        · exact ⟨_, rfl, rfl, .inr ⟨_, rfl, _, _, rfl, rfl, _, rfl, rfl, .inr ⟨_, rfl, _, _, rfl, rfl, _, "max", _, _, _, _, _, rfl, s35, n2', .inr (.inl ⟨rfl, .inl ⟨.inr rfl, (by decide +kernel)⟩⟩)⟩⟩⟩
        · exact ⟨_, rfl, rfl, .inr ⟨_, rfl, _, _, rfl, rfl, _, rfl, rfl, .inr ⟨_, rfl, _, _, rfl, rfl, _, "pick", _, _, _, _, _, rfl, s35, n2', .inr (.inl ⟨rfl, .inr (.inl ⟨rfl, (by decide +kernel)⟩)⟩)⟩⟩⟩
        · exact ⟨_, rfl, rfl, .inr ⟨_, rfl, _, _, rfl, rfl, _, rfl, rfl, .inr ⟨_, rfl, _, _, rfl, rfl, _, "nth", _, _, _, _, _, rfl, s35, n2', .inr (.inl ⟨rfl, .inr (.inr ⟨rfl, (by decide +kernel)⟩)⟩)⟩⟩⟩
      exact ⟨_, rfl, rfl, _, rfl, itN (strNe e2) ⟨_, word, 2, _, _, _, _, rfl, s34, n2', .inr (.inr ⟨e1, e2, wm, rfl⟩)⟩⟩
  obtain ⟨sort, word, many, y8, y11, y12, y13, rfl, s3, n22, ch⟩ := hm
  have mb := ch.bd
  have hc3 := hc.st2 hF R0 s3
  have hd3 := hd.st2 hF R0 s3
  have hg3 := hg.st2 hF R0 s3
  refine ⟨_, rfl, _, rfl, a, many, rfl, s3.2.1, by omega, by omega, fun sp H4 sp0 sp1 s4 => ?_⟩
  refine ⟨(by show 0 ≤ sizeLine; decide), fun p hp => ⟨_, rfl, many, rfl, by omega, by omega, ?_⟩⟩
  have s34 := s3.stp s4
  have s35 := s34.same (same_new hp (.lst []))
  have pa : p ≠ a := by
    obtain ⟨x, y, z, e⟩ := s34.2.1
    exact (ne_of_none e hp).symm
  have pb : p ≠ b := by
    obtain ⟨x, e⟩ := s34.2.2
    exact (ne_of_none e hp).symm
  have npH : ∀ (x : Addr) (o : HO), x ≠ a → x ≠ b → H x = some o → x ≠ p := fun x o na nb e => ne_of_none (s34.1 x o na nb e) hp
  refine for_range (n := many.toNat) (fun i σ H' => ∃ (es : List Ex) (us : List V) (y13 : Option V), σ = [some (.ref a), some (.ref b), some (.int n), some (.bl tight), some (.ref c), some (.ref d), some (.ref g), some (.str sort), y8, some (.str word), some (.int many), some (.int sp), some (.ref p), y13] ∧ St2 a b H H' ∧ H' p = some (.lst us) ∧
    es.length = i ∧ Ex.AtAll K H' es us ∧ ∀ e ∈ es, e.dep ≤ m ∧ e.good ns as) ⟨[], [], _, rfl, s35, upd_same, rfl, trivial, fun e he => by cases he⟩ (fun i σ H' hi hv => ?_) (fun σ H' hv => ?_)
  · obtain ⟨es, us, y13, rfl, sm, ep, ln, au, ge⟩ := hv
    have hc4 := hc.st2 hF R0 sm
    have hd4 := hd.st2 hF R0 sm
    have hg4 := hg.st2 hF R0 sm
    have usl := au.len
    -- a new part is joined
    have join : ∀ (v : V) (H5 : Hp) (e : Ex), St2 a b H' H5 → e.At K H5 v → e.dep ≤ m → e.good ns as → H5 p = some (.lst us) ∧ (∃ (es : List Ex) (us' : List V), us' = us ++ [v] ∧ St2 a b H (upd H5 p (.lst us')) ∧ es.length = i + 1 ∧ Ex.AtAll K (upd H5 p (.lst us')) es us' ∧ ∀ e ∈ es, e.dep ≤ m ∧ e.good ns as) := fun v H5 e s5 at5 dp gd => by
      have ep5 := s5.1 _ _ pa pb ep
      refine ⟨ep5, es ++ [e], us ++ [v], rfl, ⟨fun x o na nb ex => ?_, ?_, ?_⟩, by rw [List.length_append, ln]; rfl, ?_, ?_⟩
      · rw [upd_ne (npH x o na nb ex)]
        exact s5.1 x o na nb (sm.1 x o na nb ex)
      · obtain ⟨x, y, z, e0⟩ := s5.2.1
        exact ⟨x, y, z, by rw [upd_ne pa.symm]; exact e0⟩
      · obtain ⟨x, e0⟩ := s5.2.2
        exact ⟨x, by rw [upd_ne pb.symm]; exact e0⟩
      · have tt : Tu K H5 (upd H5 p (.lst (us ++ [v]))) := fun bb xs hq => by
          rcases hq with (hq | ⟨o, hq⟩) | hq
          · exact .inl (.inl (by rw [upd_ne (ne_of hq ep5 (by intro z; cases z))]; exact hq))
          · exact .inl (.inr ⟨o, by rw [upd_ne (ne_of hq ep5 (by intro z; cases z))]; exact hq⟩)
          · exact .inr hq
        exact Ex.AtAll.app ((au.tu (s5.tu sm.2.1 sm.2.2)).tu tt) ⟨at5.tu tt, trivial⟩
      · intro e' he'
        rcases List.mem_append.mp he' with z | z
        · exact ge e' z
        · rw [List.mem_singleton.mp z]
          exact ⟨dp, gd⟩
    have usz : us.length < sizeLine := small1000 (by omega)
    have third : ∀ (n' : Int) (H5 : Hp), 1 ≤ n' → n' < n → Stp a H' H5 → Fd H5 a ∧ Rm H5 b ∧ Ws H5 c ns ∧ Ws H5 d as ∧ Ws H5 g ms ∧ 1 ≤ n' ∧ n' ≤ m ∧ n' ≤ 1000 := fun n' H5 h1 h2 s5 => by
      have t5 := (St2.refl sm.2.1 sm.2.2).stp s5
      exact ⟨s5.2, t5.2.2, hc4.stp sm.2.1 s5, hd4.stp sm.2.1 s5, hg4.stp sm.2.1 s5, h1, by omega, by omega⟩
    have rec1 : ∀ (n' : Int) (ti : Bool) (H5 : Hp), 1 ≤ n' → n' < n → Stp a H' H5 → ∀ (Q' : VK), (∀ (v : V) (H6 : Hp) (e : Ex), St2 a b H' H6 → e.At K H6 v → e.dep ≤ m → e.good ns as → Q' v H6) → spTree K m [.ref a, .ref b, .int n', .bl ti, .ref c, .ref d, .ref g] H5 Q' E0 := fun n' ti H5 h1 h2 s5 Q' hQ => by
      obtain ⟨t1, t2, t3, t4, t5, t6, t7, t8⟩ := third n' H5 h1 h2 s5
      exact ⟨a, b, c, d, g, n', ti, ns, as, ms, rfl, t1, t2, t3, t4, t5, t6, t7, t8, fun v H6 e s6 => hQ v H6 e (((St2.refl sm.2.1 sm.2.2).stp s5).trans s6)⟩
    have second : ∀ (D : Ends), True := fun _ => trivial
    refine ⟨_, rfl, tight, rfl, ite2 (fun ct => ⟨_, rfl, _, rfl, rfl, _, rfl, ite2 (fun c2 => ?_) (fun c2 => ?_)⟩) (fun ct => ?_)⟩
    · refine ⟨_, rfl, .inl ⟨rfl, _, SqL.of ep⟩, _, rfl, _, rfl, _, rfl, _, _, rfl, rfl, _, rfl, _, rfl, _, rfl, ?_⟩
      refine rec1 (n - 1) true H' (by omega) (by omega) (Stp.refl sm.2.1) _ fun v H6 e s6 at6 dp gd => ?_
      obtain ⟨ep6, es', us', rfl, j1, j2, j3, j4⟩ := join v H6 e s6 at6 dp gd
      exact ⟨p, us, v, rfl, rfl, ep6, usz, es', _, _, rfl, j1, upd_same, j2, j3, j4⟩
    · refine ⟨_, rfl, .inl ⟨rfl, _, SqL.of ep⟩, _, rfl, _, rfl, _, rfl, _, rfl, _, _, rfl, rfl, a, n - 1, rfl, sm.2.1, by omega, by omega, fun r H5 r0 r1 s5 => ⟨_, _, rfl, rfl, _, rfl, _, rfl, _, rfl, ?_⟩⟩
      refine rec1 (1 + r) false H5 (by omega) (by omega) s5 _ fun v H6 e s6 at6 dp gd => ?_
      obtain ⟨ep6, es', us', rfl, j1, j2, j3, j4⟩ := join v H6 e s6 at6 dp gd
      exact ⟨p, us, v, rfl, rfl, ep6, usz, es', _, _, rfl, j1, upd_same, j2, j3, j4⟩
    · refine ⟨_, rfl, .inl ⟨rfl, _, SqL.of ep⟩, _, rfl, _, rfl, _, rfl, _, rfl, _, _, rfl, rfl, a, n - 1, rfl, sm.2.1, by omega, by omega, fun r H5 r0 r1 s5 => ⟨_, _, rfl, rfl, _, rfl, _, rfl, _, rfl, ?_⟩⟩
      refine rec1 (1 + r) false H5 (by omega) (by omega) s5 _ fun v H6 e s6 at6 dp gd => ?_
      obtain ⟨ep6, es', us', rfl, j1, j2, j3, j4⟩ := join v H6 e s6 at6 dp gd
      exact ⟨p, us, v, rfl, rfl, ep6, usz, es', _, _, rfl, j1, upd_same, j2, j3, j4⟩
  · obtain ⟨es, us, y13, rfl, sm, ep, ln, au, ge⟩ := hv
    rcases ch with ⟨rfl, wm, rfl⟩ | ⟨rfl, chw⟩ | ⟨ns1, ns2, wm, rfl⟩
    · obtain ⟨e1, rfl⟩ := List.length_eq_one_iff.mp ln
      obtain ⟨v1, rfl, a1⟩ := au.one
      obtain ⟨d1, g1⟩ := ge e1 (List.mem_singleton.mpr rfl)
      refine ⟨_, rfl, rfl, _, rfl, itY ⟨_, rfl, _, rfl, _, _, _, _, rfl, rfl, (SqL.of ep), atI_nat (j := 0) rfl, (by show 3 ≤ sizeLine; decide), fun t ht => ?_⟩⟩
      exact q _ _ (.rd word e1) (sm.same (same_new ht _)) ⟨t, v1, rfl, SqT.of upd_same, a1.tu (Same.tu (same_new ht _))⟩ (by show e1.dep + 1 ≤ m + 1; omega) ⟨wm, g1⟩
    · refine ⟨_, rfl, rfl, _, rfl, itN (by decide +kernel) ⟨_, rfl, rfl, _, rfl, itY ⟨_, rfl, _, rfl, p, us, rfl, .inl ⟨SqL.of ep, fun t1 h1 => ⟨(by show 3 ≤ sizeLine; decide), fun t ht => ?_⟩⟩⟩⟩⟩
      have gg := (same_new h1 (.tup us)).trans (same_new ht (.tup [.str "call", .str word, .ref t1]))
      have au' := au.tu (K := K) (Same.tu gg)
      have tt1 : SqT K (upd (upd H' t1 (.tup us)) t (.tup [.str "call", .str word, .ref t1])) t1 us := Same.tup (same_new ht _) (SqT.of upd_same)
      rcases chw with ⟨ww, rfl⟩ | ⟨rfl, rfl⟩ | ⟨rfl, rfl⟩
      · match es, ln with
        | [e1, e2], _ =>
          obtain ⟨v1, v2, rfl, a1, a2⟩ := au'.two
          obtain ⟨d1, g1⟩ := ge e1 (by simp)
          obtain ⟨d2, g2⟩ := ge e2 (by simp)
          exact q _ _ (.c2 word e1 e2) (sm.same gg) ⟨t, t1, v1, v2, rfl, SqT.of upd_same, tt1, a1, a2⟩ (by show max e1.dep e2.dep + 1 ≤ m + 1; omega) ⟨ww, g1, g2⟩
      · match es, ln with
        | [e1, e2, e3], _ =>
          obtain ⟨v1, v2, v3, rfl, a1, a2, a3⟩ := au'.three
          obtain ⟨d1, g1⟩ := ge e1 (by simp)
          obtain ⟨d2, g2⟩ := ge e2 (by simp)
          obtain ⟨d3, g3⟩ := ge e3 (by simp)
          exact q _ _ (.c3 "pick" e1 e2 e3) (sm.same gg) ⟨t, t1, v1, v2, v3, rfl, SqT.of upd_same, tt1, a1, a2, a3⟩ (by show max e1.dep (max e2.dep e3.dep) + 1 ≤ m + 1; omega) ⟨rfl, g1, g2, g3⟩
      · match es, ln with
        | [e1], _ =>
          obtain ⟨v1, rfl, a1⟩ := au'.one
          obtain ⟨d1, g1⟩ := ge e1 (by simp)
          exact q _ _ (.c1 "nth" e1) (sm.same gg) ⟨t, t1, v1, rfl, SqT.of upd_same, tt1, a1⟩ (by show e1.dep + 1 ≤ m + 1; omega) ⟨rfl, g1⟩
    · match es, ln with
      | [e1, e2], _ =>
        obtain ⟨v1, v2, rfl, a1, a2⟩ := au.two
        obtain ⟨d1, g1⟩ := ge e1 (by simp)
        obtain ⟨d2, g2⟩ := ge e2 (by simp)
        refine ⟨_, rfl, rfl, _, rfl, itN (strNe ns1) ⟨_, rfl, rfl, _, rfl, itN (strNe ns2) ⟨_, rfl, _, rfl, _, _, _, _, rfl, rfl, (SqL.of ep), atI_nat (j := 0) rfl, _, rfl, _, _, _, _, rfl, rfl, (SqL.of ep), atI_nat (j := 1) rfl, (by show 4 ≤ sizeLine; decide), fun t ht => ?_⟩⟩⟩
        exact q _ _ (.op word e1 e2) (sm.same (same_new ht _)) ⟨t, v1, v2, rfl, SqT.of upd_same, a1.tu (Same.tu (same_new ht _)), a2.tu (Same.tu (same_new ht _))⟩ (by show max e1.dep e2.dep + 1 ≤ m + 1; omega) ⟨wm, g1, g2⟩
end
end K02
namespace K02
open PySem L2 Vk
def kinds3 : List Str := ["name", "read", "call"]
def tag : Ex → Str
  | .num _ => "number" | .nam _ => "name" | .op _ _ _ => "op" | .rd _ _ => "read"
  | .c1 _ _ => "call" | .c2 _ _ _ => "call" | .c3 _ _ _ _ => "call"
/-- what an expression itself names -/
def use1 : Ex → List (Str × Str)
  | .num _ => [] | .op _ _ _ => [] | .nam w => [("name", w)] | .rd w _ => [("read", w)]
  | .c1 w _ => [("call", w)] | .c2 w _ _ => [("call", w)] | .c3 w _ _ _ => [("call", w)]
def uses (e : Ex) : List (Str × Str) := e.subs.flatMap use1
theorem head_at {K : PySem.W.Frag} {H : Hp} : ∀ {e : Ex} {v : V}, e.At K H v → ∃ (a : Addr) (x : V) (r : List V), v = .ref a ∧ SqT K H a (.str (tag e) :: x :: r) ∧ ((use1 e = [] ∧ tag e ∉ kinds3) ∨ ∃ w, x = .str w ∧ use1 e = [(tag e, w)] ∧ tag e ∈ kinds3)
  | .num _, _, ⟨a, e, h⟩ => ⟨a, _, _, e, h, .inl ⟨rfl, (show ("number" : Str) ∉ kinds3 by decide +kernel)⟩⟩
  | .nam w, _, ⟨a, e, h⟩ => ⟨a, _, _, e, h, .inr ⟨w, rfl, rfl, (show ("name" : Str) ∈ kinds3 by decide +kernel)⟩⟩
  | .op _ _ _, _, ⟨a, x, y, e, h, _⟩ => ⟨a, _, _, e, h, .inl ⟨rfl, (show ("op" : Str) ∉ kinds3 by decide +kernel)⟩⟩
  | .rd w _, _, ⟨a, x, e, h, _⟩ => ⟨a, _, _, e, h, .inr ⟨w, rfl, rfl, (show ("read" : Str) ∈ kinds3 by decide +kernel)⟩⟩
  | .c1 w _, _, ⟨a, p, x, e, h, _⟩ => ⟨a, _, _, e, h, .inr ⟨w, rfl, rfl, (show ("call" : Str) ∈ kinds3 by decide +kernel)⟩⟩
  | .c2 w _ _, _, ⟨a, p, x, y, e, h, _⟩ => ⟨a, _, _, e, h, .inr ⟨w, rfl, rfl, (show ("call" : Str) ∈ kinds3 by decide +kernel)⟩⟩
  | .c3 w _ _ _, _, ⟨a, p, x, y, z, e, h, _⟩ => ⟨a, _, _, e, h, .inr ⟨w, rfl, rfl, (show ("call" : Str) ∈ kinds3 by decide +kernel)⟩⟩
/-- pairs of texts, each a tuple -/
def PAt (K : PySem.W.Frag) (H : Hp) : List (Str × Str) → List V → Prop
  | [], [] => True
  | p :: l, v :: vs => (∃ a, v = .ref a ∧ SqT K H a [.str p.1, .str p.2]) ∧ PAt K H l vs
  | [], _ :: _ => False
  | _ :: _, [] => False
theorem PAt.tu {K : PySem.W.Frag} {H H' : Hp} (t : Tu K H H') : ∀ {l : List (Str × Str)} {vs : List V}, PAt K H l vs → PAt K H' l vs
  | [], [], _ => trivial
  | _ :: _, _ :: _, ⟨⟨a, e, h⟩, r⟩ => ⟨⟨a, e, t _ _ h⟩, PAt.tu t r⟩
  | [], _ :: _, h => h.elim
  | _ :: _, [], h => h.elim
theorem PAt.app {K : PySem.W.Frag} {H : Hp} : ∀ {l m : List (Str × Str)} {vs us : List V}, PAt K H l vs → PAt K H m us → PAt K H (l ++ m) (vs ++ us)
  | [], _, [], _, _, g => g
  | _ :: _, _, _ :: _, _, ⟨h, r⟩, g => ⟨h, PAt.app r g⟩
  | [], _, _ :: _, _, h, _ => h.elim
  | _ :: _, _, [], _, h, _ => h.elim
theorem PAt.len {K : PySem.W.Frag} {H : Hp} : ∀ {l : List (Str × Str)} {vs : List V}, PAt K H l vs → l.length = vs.length
  | [], [], _ => rfl
  | _ :: _, _ :: _, ⟨_, r⟩ => congrArg (· + 1) (PAt.len r)
  | [], _ :: _, h => h.elim
  | _ :: _, [], h => h.elim
theorem PAt.get {K : PySem.W.Frag} {H : Hp} : ∀ {l : List (Str × Str)} {vs : List V} {i : Nat} {v : V}, PAt K H l vs → vs[i]? = some v → ∃ p a, l[i]? = some p ∧ v = .ref a ∧ SqT K H a [.str p.1, .str p.2]
  | [], [], _, _, _, e => by cases e
  | p :: _, _ :: _, 0, _, ⟨⟨a, e1, h⟩, _⟩, e => by
    cases e
    exact ⟨p, a, rfl, e1, h⟩
  | _ :: _, _ :: _, i + 1, _, ⟨_, r⟩, e => PAt.get (i := i) r e
  | [], _ :: _, _, _, h, _ => h.elim
  | _ :: _, [], _, _, h, _ => h.elim
theorem uses_eq (e : Ex) : uses e = use1 e ++ e.kids.flatMap uses := by
  unfold uses
  rw [subs_eq e, List.flatMap_cons, List.flatMap_assoc]
theorem use1_len (e : Ex) : (use1 e).length ≤ 1 := by cases e <;> first | exact Nat.zero_le _ | exact Nat.le_refl _
theorem flat_len {α β : Type} {f : α → List β} (h : ∀ x, (f x).length ≤ 1) : ∀ l : List α, (l.flatMap f).length ≤ l.length
  | [] => Nat.le_refl _
  | x :: r => by
    rw [List.flatMap_cons, List.length_append]
    have := h x
    have := flat_len h r
    show _ ≤ r.length + 1
    omega
theorem uses_len (e : Ex) : (uses e).length ≤ 4 ^ e.dep := Nat.le_trans (flat_len use1_len _) (Ex.subs_len e)
/-- the words of one kind, in order -/
def Wds (l : List (Str × Str)) (k : Str) (ys : List Str) : Prop := ys.Pairwise ltT ∧ ∀ z, z ∈ ys ↔ (k, z) ∈ l
theorem Wds.one {l : List (Str × Str)} {k : Str} {xs ys : List Str} (h : Wds l k xs) (g : Wds l k ys) : xs = ys := one_order h.1 g.1 fun z => (h.2 z).trans (g.2 z).symm
/-- few words of one kind -/
def Few (l : List (Str × Str)) (k : Str) : Prop := ∃ m : List Str, m.length ≤ 60 ∧ ∀ z, (k, z) ∈ l → z ∈ m
theorem few_uses {e : Ex} {ns as : List Str} (g : e.good ns as) (n1 : ns.length ≤ 60) (a1 : as.length ≤ 60) {k : Str} (hk : k ∈ kinds3) : Few (uses e) k := by
  have key : ∀ {f : Ex}, f.good ns as → ∀ z, (k, z) ∈ use1 f → (k = "name" ∧ z ∈ ns) ∨ (k = "read" ∧ z ∈ as) ∨ (k = "call" ∧ z ∈ (["min", "max", "pick", "nth"] : List Str)) := by
    intro f gf z hz
    have two : ∀ {c w : Str}, (k, z) ∈ [(c, w)] → k = c ∧ z = w := fun {c w} h => Prod.mk.inj (List.mem_singleton.mp h)
    cases f with
    | num n => cases hz
    | op s l r => cases hz
    | nam w =>
      have e := two hz
      exact .inl ⟨e.1, by rw [e.2]; exact gf⟩
    | rd w l =>
      have e := two hz
      exact .inr (.inl ⟨e.1, by rw [e.2]; exact gf.1⟩)
    | c1 w l =>
      have e := two hz
      have e2 : w = "nth" := gf.1
      refine .inr (.inr ⟨e.1, ?_⟩)
      rw [e.2, e2]; decide +kernel
    | c2 w l r =>
      have e := two hz
      have e2 : w = "min" ∨ w = "max" := gf.1
      refine .inr (.inr ⟨e.1, ?_⟩)
      rw [e.2]
      rcases e2 with e2 | e2 <;> rw [e2] <;> decide +kernel
    | c3 w l r q =>
      have e := two hz
      have e2 : w = "pick" := gf.1
      refine .inr (.inr ⟨e.1, ?_⟩)
      rw [e.2, e2]; decide +kernel
  have all : ∀ z, (k, z) ∈ uses e → (k = "name" ∧ z ∈ ns) ∨ (k = "read" ∧ z ∈ as) ∨ (k = "call" ∧ z ∈ (["min", "max", "pick", "nth"] : List Str)) := fun z hz => by
    obtain ⟨f, hf, hz⟩ := List.mem_flatMap.mp hz
    exact key (Ex.subs_all (p := fun e => e.good ns as) (fun _ _ m g => Ex.kids_good m g) g f hf) z hz
  have d1 : ("name" : Str) ≠ "read" := by decide +kernel
  have d2 : ("name" : Str) ≠ "call" := by decide +kernel
  have d3 : ("read" : Str) ≠ "call" := by decide +kernel
  have hk2 : k = "name" ∨ k = "read" ∨ k = "call" := by
    simp only [kinds3, List.mem_cons, List.not_mem_nil, or_false] at hk
    exact hk
  rcases hk2 with e | e | e
  · refine ⟨ns, n1, fun z hz => ?_⟩
    rcases all z hz with h | h | h
    · exact h.2
    · exact absurd (e.symm.trans h.1) d1
    · exact absurd (e.symm.trans h.1) d2
  · refine ⟨as, a1, fun z hz => ?_⟩
    rcases all z hz with h | h | h
    · exact absurd (h.1.symm.trans e) d1
    · exact h.2
    · exact absurd (e.symm.trans h.1) d3
  · refine ⟨["min", "max", "pick", "nth"], by decide, fun z hz => ?_⟩
    rcases all z hz with h | h | h
    · exact absurd (h.1.symm.trans e) d2
    · exact absurd (h.1.symm.trans e) d3
    · exact h.2
end K02
namespace K02
open PySem L2 Vk
def spOps (K : PySem.W.Frag) : Sp := fun vs H Q _ => ∃ (v : V) (e : Ex), vs = [v] ∧ e.At K H v ∧ ∀ (t : Addr) (H' : Hp) (us : List V), Same H H' → SqT K H' t us → Ex.AtAll K H' e.kids us → Q (.ref t) H'
def spUses (K : PySem.W.Frag) (n : Nat) : Sp := fun vs H Q _ => ∃ (v : V) (e : Ex), vs = [v] ∧ e.At K H v ∧ e.dep ≤ n ∧ n ≤ 12 ∧ ∀ (p : Addr) (H' : Hp) (us : List V), Same H H' → H p = none → H' p = some (.lst us) → PAt K H' (uses e) us → Q (.ref p) H'
def spAsc (K : PySem.W.Frag) : Sp := fun vs H Q _ => ∃ (p : Addr) (k : Str) (l : List (Str × Str)) (us : List V), vs = [.ref p, .str k] ∧ H p = some (.lst us) ∧ PAt K H l us ∧ Few l k ∧ ∀ (t : Addr) (H' : Hp) (ys : List Str), Same H H' → H' t = some (.tup (ys.map V.str)) → Wds l k ys → Q (.ref t) H'
def spWords (K : PySem.W.Frag) : Sp := fun vs H Q _ => ∃ (v : V) (e : Ex), vs = [v] ∧ e.At K H v ∧ e.dep ≤ 12 ∧ (∀ k ∈ kinds3, Few (uses e) k) ∧ ∀ (t t1 t2 t3 : Addr) (H' : Hp) (y1 y2 y3 : List Str), Same H H' → H' t = some (.tup [.ref t1, .ref t2, .ref t3]) → H' t1 = some (.tup (y1.map V.str)) → H' t2 = some (.tup (y2.map V.str)) → H' t3 = some (.tup (y3.map V.str)) → Wds (uses e) "name" y1 → Wds (uses e) "read" y2 → Wds (uses e) "call" y3 → Q (.ref t) H'
/-- a list that changes leaves the tuples -/
theorem tup_keep {K : PySem.W.Frag} {H H' : Hp} {p : Addr} {xs : List V} (e : H p = some (.lst xs)) (k : ∀ b o, b ≠ p → H b = some o → H' b = some o) : Tu K H H' := fun b ys q => by
  rcases q with (q | ⟨o, q⟩) | q
  · exact .inl (.inl (k _ _ (ne_of q e (by intro z; cases z)) q))
  · exact .inl (.inr ⟨o, k _ _ (ne_of q e (by intro z; cases z)) q⟩)
  · exact .inr q
theorem tup_put {K : PySem.W.Frag} {H : Hp} {p : Addr} {xs : List V} {o : HO} (e : H p = some (.lst xs)) : Tu K H (upd H p o) := tup_keep e fun b o' n eb => by rw [upd_ne n]; exact eb
section
variable {P : Program} {w : World} {K : PySem.W.Frag} {mg : Str → Option Value} {base : Heap}
theorem ok_ops {f : Addr} {fd : FuncData} {k : Nat} (F : Fun K "operands_of" "operands_of" s_operands_of f fd) : FnOk P w K mg base CX0 (k + 1) f fd P_operands_of (spOps K) := by
  refine F.ok sc_operands_of (fun vs H Q E h => ?_) (fun cdv A outer s H vs Q E hr h => ?_)
  · obtain ⟨v, e, rfl, _⟩ := h
    rfl
  obtain ⟨v, e, rfl, hAt, q⟩ := h
  refine ⟨_, (pss_cons (ps_set (i := 1) sc_operands_of.nd rfl (Or.inl rfl) (pe_ix ix_tup (pv 0) pe_int (fun _ _ => rfl)))
    (pss_cons (ps_if (pt_cmpR op_eq (pv 1) pe_str (nomark _))
      (pss_one (ps_ret (pe_tup (pa_cons (pe_ix ix_tup (pv 0) pe_int (fun _ _ => rfl)) pa_nil))))
      pss_nil)
    (pss_cons (ps_if (pt_cmpR op_eq (pv 1) pe_str (nomark _))
      (pss_one (ps_ret (pe_tup (pa_cons (pe_ix ix_tup (pv 0) pe_int (fun _ _ => rfl)) (pa_cons (pe_ix ix_tup (pv 0) pe_int (fun _ _ => rfl)) pa_nil)))))
      pss_nil)
    (pss_cons (ps_if (pt_cmpR op_eq (pv 1) pe_str (nomark _))
      (pss_one (ps_ret (pe_ix ix_tup (pv 0) pe_int (fun _ _ => rfl))))
      pss_nil)
    (pss_one (ps_ret (pe_tup pa_nil))))))), ?_⟩
  cases e with
  | num n =>
    obtain ⟨a, rfl, hT⟩ := hAt
    refine ⟨_, rfl, _, _, _, _, rfl, rfl, hT, atI_nat (j := 0) rfl, _, rfl, rfl, _, rfl, itN (by decide +kernel) ⟨_, rfl, rfl, _, rfl, itN (by decide +kernel) ⟨_, rfl, rfl, _, rfl, itN (by decide +kernel) ?_⟩⟩⟩
    exact ⟨(by show 0 ≤ sizeLine; decide), fun t ht => q t _ [] (same_new ht _) (SqT.of upd_same) trivial⟩
  | nam n =>
    obtain ⟨a, rfl, hT⟩ := hAt
    refine ⟨_, rfl, _, _, _, _, rfl, rfl, hT, atI_nat (j := 0) rfl, _, rfl, rfl, _, rfl, itN (by decide +kernel) ⟨_, rfl, rfl, _, rfl, itN (by decide +kernel) ⟨_, rfl, rfl, _, rfl, itN (by decide +kernel) ?_⟩⟩⟩
    exact ⟨(by show 0 ≤ sizeLine; decide), fun t ht => q t _ [] (same_new ht _) (SqT.of upd_same) trivial⟩
  | op sg l r =>
    obtain ⟨a, x, y, rfl, hT, hl, hr1⟩ := hAt
    refine ⟨_, rfl, _, _, _, _, rfl, rfl, hT, atI_nat (j := 0) rfl, _, rfl, rfl, _, rfl, itN (by decide +kernel) ⟨_, rfl, rfl, _, rfl, itY ⟨_, rfl, _, _, _, _, rfl, rfl, hT, atI_nat (j := 2) rfl, _, rfl, _, _, _, _, rfl, rfl, hT, atI_nat (j := 3) rfl, (by show 2 ≤ sizeLine; decide), fun t ht => ?_⟩⟩⟩
    have tt := Same.tu (K := K) (same_new ht (.tup [x, y]))
    exact q t _ [x, y] (same_new ht _) (SqT.of upd_same) ⟨hl.tu tt, hr1.tu tt, trivial⟩
  | rd sg l =>
    obtain ⟨a, x, rfl, hT, hl⟩ := hAt
    refine ⟨_, rfl, _, _, _, _, rfl, rfl, hT, atI_nat (j := 0) rfl, _, rfl, rfl, _, rfl, itY ⟨_, rfl, _, _, _, _, rfl, rfl, hT, atI_nat (j := 2) rfl, (by show 1 ≤ sizeLine; decide), fun t ht => ?_⟩⟩
    have tt := Same.tu (K := K) (same_new ht (.tup [x]))
    exact q t _ [x] (same_new ht _) (SqT.of upd_same) ⟨hl.tu tt, trivial⟩
  | c1 sg l =>
    obtain ⟨a, tt, x, rfl, hT, hT2, hl⟩ := hAt
    refine ⟨_, rfl, _, _, _, _, rfl, rfl, hT, atI_nat (j := 0) rfl, _, rfl, rfl, _, rfl, itN (by decide +kernel) ⟨_, rfl, rfl, _, rfl, itN (by decide +kernel) ⟨_, rfl, rfl, _, rfl, itY ?_⟩⟩⟩
    exact ⟨_, rfl, _, _, _, _, rfl, rfl, hT, atI_nat (j := 2) rfl, q tt H [x] (Same.refl H) hT2 ⟨hl, trivial⟩⟩
  | c2 sg l r =>
    obtain ⟨a, tt, x, y, rfl, hT, hT2, hl, hr1⟩ := hAt
    refine ⟨_, rfl, _, _, _, _, rfl, rfl, hT, atI_nat (j := 0) rfl, _, rfl, rfl, _, rfl, itN (by decide +kernel) ⟨_, rfl, rfl, _, rfl, itN (by decide +kernel) ⟨_, rfl, rfl, _, rfl, itY ?_⟩⟩⟩
    exact ⟨_, rfl, _, _, _, _, rfl, rfl, hT, atI_nat (j := 2) rfl, q tt H [x, y] (Same.refl H) hT2 ⟨hl, hr1, trivial⟩⟩
  | c3 sg l r z =>
    obtain ⟨a, tt, x, y, u, rfl, hT, hT2, hl, hr1, hz⟩ := hAt
    refine ⟨_, rfl, _, _, _, _, rfl, rfl, hT, atI_nat (j := 0) rfl, _, rfl, rfl, _, rfl, itN (by decide +kernel) ⟨_, rfl, rfl, _, rfl, itN (by decide +kernel) ⟨_, rfl, rfl, _, rfl, itY ?_⟩⟩⟩
    exact ⟨_, rfl, _, _, _, _, rfl, rfl, hT, atI_nat (j := 2) rfl, q tt H [x, y, u] (Same.refl H) hT2 ⟨hl, hr1, hz, trivial⟩⟩
theorem ok_uses {f : Addr} {fd : FuncData} {k n : Nat} (F : Fun K "uses_of" "uses_of" s_uses_of f fd) (Ooperands_of : Ok P w K mg base k "operands_of" P_operands_of (spOps K)) (Ouses_of : Ok P w K mg base k "uses_of" P_uses_of (spUses K n)) : FnOk P w K mg base CX0 (k + 1) f fd P_uses_of (spUses K (n + 1)) := by
  refine F.ok sc_uses_of (fun vs H Q E h => ?_) (fun cdv A outer s H vs Q E hr h => ?_)
  · obtain ⟨a, c, rfl, _⟩ := h
    rfl
  obtain ⟨v, e, rfl, hAt, hd, hn, q⟩ := h
  refine ⟨_, (pss_cons (ps_set (i := 1) sc_uses_of.nd rfl (Or.inl rfl) (pe_lst pa_nil))
    (C8.pss_cut (ps_if (pt_cmpR op_in_seq (pe_ix ix_tup (pv 0) pe_int (fun _ _ => rfl)) (pe_tup (pa_cons pe_str (pa_cons pe_str (pa_cons pe_str pa_nil)))) (by rfl))
      (pss_one (ps_expr (pe_bm PySem.F.plainAttrs_list PySem.F.slot_list_append PySem.F.type_list_append mt_append (pv 1) (pa_cons (pe_tup (pa_cons (pe_ix ix_tup (pv 0) pe_int (fun _ _ => rfl)) (pa_cons (pe_ix ix_tup (pv 0) pe_int (fun _ _ => rfl)) pa_nil))) pa_nil))))
      pss_nil)
    (pss_cons (ps_for PassesOwn.never rfl (pi_tup (pe_c Ooperands_of hr (by rfl) (pa_cons (pv 0) pa_nil))) (pg_name (i := 2) sc_uses_of.nd rfl (Or.inl rfl))
      (pss_one (ps_expr (pe_bm PySem.F.plainAttrs_list PySem.F.slot_list_extend PySem.F.type_list_extend mt_extend (pv 1) (pa_cons (pe_c Ouses_of hr (by rfl) (pa_cons (pv 2) pa_nil)) pa_nil)))))
    (pss_one (ps_ret (pv 1)))))), ?_⟩
  refine ⟨(by show 0 ≤ sizeLine; decide), fun p hp => ?_⟩
  have g1 := same_new hp (.lst [])
  obtain ⟨a, x, r, rfl, hT, hu⟩ := head_at hAt
  have hT1 := Same.tu (K := K) g1 _ _ hT
  refine ⟨fun σ2 H2 => ∃ us, σ2 = [some (.ref a), some (.ref p), none] ∧ Same H H2 ∧ H2 p = some (.lst us) ∧ PAt K H2 (use1 e) us, ?_, fun σ2 H2 hm => ?_⟩
  · have inY : tag e ∈ kinds3 → inV (.str (tag e)) (kinds3.map V.str) = true := mem_inV
    refine ⟨_, rfl, _, _, _, _, rfl, rfl, hT1, atI_nat (j := 0) rfl, (by show 3 ≤ sizeLine; decide), fun t0 ht0 => ⟨t0, kinds3.map V.str, rfl, .inr (SqT.of upd_same), rfl, flat_all, _, rfl, ?_⟩⟩
    have g2 := same_new ht0 (.tup (kinds3.map V.str))
    have ep2 := g2 _ _ (show (upd H p (.lst [])) p = some (.lst []) from upd_same)
    have hT2 := Same.tu (K := K) g2 _ _ hT1
    rcases hu with ⟨u0, nt⟩ | ⟨wd, rfl, u1, it⟩
    · rw [show (if false = true then !inV (V.str (tag e)) (kinds3.map V.str) else inV (V.str (tag e)) (kinds3.map V.str)) = false from by
        cases q : inV (V.str (tag e)) (kinds3.map V.str) with
        | false => rfl
        | true => exact absurd (inV_str q) nt]
      exact iteF ⟨[], rfl, g1.trans g2, ep2, by rw [u0]; trivial⟩
    · rw [show (if false = true then !inV (V.str (tag e)) (kinds3.map V.str) else inV (V.str (tag e)) (kinds3.map V.str)) = true from inY it]
      refine iteT ⟨_, rfl, .inl ⟨rfl, _, SqL.of ep2⟩, _, rfl, _, _, _, _, rfl, rfl, hT2, atI_nat (j := 0) rfl, _, rfl, _, _, _, _, rfl, rfl, hT2, atI_nat (j := 1) rfl, (by show 2 ≤ sizeLine; decide), fun t1 ht1 => ?_⟩
      have g3 := same_new ht1 (.tup [.str (tag e), .str wd])
      have n1 : t1 ≠ p := fun z => by rw [z] at ht1; exact absurd (ep2.symm.trans ht1) (by intro y; cases y)
      refine ⟨p, _, _, rfl, rfl, g3 _ _ ep2, (by show 0 < sizeLine; decide), [.ref t1], rfl, same_put (g1.trans (g2.trans g3)) hp, upd_same, ?_⟩
      rw [u1]
      refine ⟨⟨t1, rfl, SqT.of ?_⟩, trivial⟩
      rw [upd_ne n1]; exact upd_same
  obtain ⟨us, rfl, s2, ep, pu⟩ := hm
  refine ⟨_, rfl, .ref a, e, rfl, hAt.tu (Same.tu s2), fun pt H3 ks s3 eK ak => ⟨pt, rfl, ⟨_, eK⟩, ?_⟩⟩
  have lenk := ak.len
  refine for_tup (xs := ks) (fun i σ H' => ∃ (us : List V) (y2 : Option V), σ = [some (.ref a), some (.ref p), y2] ∧ (∀ b o, b ≠ p → H3 b = some o → H' b = some o) ∧ H' p = some (.lst us) ∧ PAt K H' (use1 e ++ (e.kids.take i).flatMap uses) us)
    ⟨us, _, rfl, fun _ _ _ e => e, s3 _ _ ep, by
      rw [List.take_zero, List.flatMap_nil, List.append_nil]
      exact pu.tu (Same.tu s3)⟩ (fun i σ H' _ hv => ?_) (fun i x σ H' hx hv => ?_) (fun σ H' hv => ?_)
  · obtain ⟨us, y2, rfl, kp, _⟩ := hv
    exact tup_keep (s3 _ _ ep) kp _ _ eK
  · obtain ⟨us, y2, rfl, kp, ep', pa⟩ := hv
    have tu3 : Tu K H3 H' := tup_keep (s3 _ _ ep) kp
    obtain ⟨ei, gi, ati⟩ := ak.get hx
    have eim : ei ∈ e.kids := List.mem_of_getElem? gi
    have ed := Ex.kids_dep eim
    refine ⟨_, rfl, .inl ⟨rfl, _, SqL.of ep'⟩, _, rfl, x, ei, rfl, ati.tu tu3, by omega, by omega, fun p3 H4 us3 s4 np3 ep3 pa3 => ?_⟩
    have tk : (e.kids.take (i + 1)).flatMap uses = (e.kids.take i).flatMap uses ++ uses ei := by
      rw [List.take_add_one, gi, List.flatMap_append]
      simp
    have ep4 := s4 _ _ ep'
    have pa4 := (pa.tu (Same.tu s4)).app pa3
    have small : us.length + us3.length ≤ sizeLine := by
      have l1 := pa4.len
      have l0 : (us ++ us3).length = us.length + us3.length := List.length_append
      rw [List.append_assoc, ← tk] at l1
      have l2 : (use1 e ++ (e.kids.take (i + 1)).flatMap uses).length ≤ (uses e).length := by
        rw [uses_eq e, List.length_append, List.length_append]
        have : (e.kids.take (i + 1)).flatMap uses <+: e.kids.flatMap uses := by
          refine ⟨(e.kids.drop (i + 1)).flatMap uses, ?_⟩
          rw [← List.flatMap_append, List.take_append_drop]
        have := this.length_le
        omega
      have l3 := uses_len e
      have l4 : 4 ^ e.dep ≤ 4 ^ 12 := Nat.pow_le_pow_right (by decide) (by omega)
      have l5 : (4 : Nat) ^ 12 = sizeLine := by decide
      omega
    refine ⟨p, p3, us, us3, rfl, rfl, ep4, ep3, small, us ++ us3, _, rfl, fun b o nb eb => by rw [upd_ne nb]; exact s4 _ _ (kp b o nb eb), upd_same, ?_⟩
    rw [tk, ← List.append_assoc]
    exact pa4.tu (tup_put ep4)
  · obtain ⟨us, y2, rfl, kp, ep', pa⟩ := hv
    rw [← lenk, List.take_length, ← uses_eq] at pa
    exact ⟨_, rfl, q p H' us (fun b o eb => kp b o (ne_of_none eb hp) (s3 _ _ (s2 _ _ eb))) hp ep' pa⟩
end
end K02
namespace K02
open PySem L2 Vk
section
variable {P : Program} {w : World} {K : PySem.W.Frag} {mg : Str → Option Value} {base : Heap}
theorem ok_asc {f : Addr} {fd : FuncData} {k : Nat} (F : Fun K "_ascending" "_ascending" s_ascending f fd) (msorted : mg "sorted" = none) (mtuple : mg "tuple" = none) : FnOk P w K mg base CX0 (k + 1) f fd P_ascending (spAsc K) := by
  refine F.ok sc_ascending (fun vs H Q E h => ?_) (fun cdv A outer s H vs Q E hr h => ?_)
  · obtain ⟨a, c, _, _, rfl, _⟩ := h
    rfl
  obtain ⟨p, kd, l, us, rfl, ep, pa, hm, q⟩ := h
  refine ⟨_, (pss_one (ps_ret (pe_callTy call_tuple_of (by rfl) mtuple (by decide +kernel) (pa_cons (pe_callB (cr_sortedT rfl) (by rfl) msorted (by decide +kernel) (pa_cons (pe_setc (o0 := fun D => TSetO w D (fun _ => false) 0) (st := StepT w) (own := [("kind", 2), ("word", 3)]) (g := gTup K 2 (gCons (gName 2) (gCons (gName 3) gNil))) (fun _ _ => tsetO_new (tset_new _)) (fun _ _ _ _ => adds_t) rfl sc_ascending.nd (pi_list (pv 0)) (blkOk_by (N := N_ascending) (sc := defScope s_ascending) (by decide +kernel)) (fun _ _ _ _ _ => pg_tup rfl (pgs_cons (pg_name (i := 2) sc_ascending.nd rfl (Or.inl rfl)) (pgs_cons (pg_name (i := 3) sc_ascending.nd rfl (Or.inl rfl)) pgs_nil))) (fun _ _ _ _ _ => pts_one (pt_cmpR op_eq (pv 2) (pv 1) (nomark _))) (fun _ _ _ _ _ => pv 3)) pa_nil)) pa_nil)))), ?_⟩
  obtain ⟨m, ml, hmem⟩ := hm
  have tk : ∀ {i : Nat} {pr : Str × Str}, l[i]? = some pr → l.take (i + 1) = l.take i ++ [pr] := fun {i pr} h => by rw [List.take_add_one, h]; rfl
  have lenl := pa.len
  refine ⟨_, rfl, p, rfl, ⟨_, SqL.of ep⟩, fun D hD => ?_⟩
  refine setc_list (K := K) (o0 := fun D => TSetO w D (fun _ => false) 0) (st := StepT w) (xs := us) (fun i H' => Same H H' ∧ ∃ ms : List Str, ms.Nodup ∧ (∀ z, z ∈ ms ↔ (kd, z) ∈ l.take i) ∧ H' D = some (TSetO w D (fun z => decide (z ∈ ms)) ms.length))
    ⟨same_new hD _, [], List.nodup_nil, fun z => by rw [List.take_zero]; exact ⟨fun h => (by cases h), fun h => (by cases h)⟩, ?_⟩ (fun i H' _ hp => SqL.of (hp.1 _ _ ep)) (fun i x H' hx hp => ?_) (fun H' hp => ?_)
  · rw [upd_same]
    exact congrArg some (congrArg (fun S => TSetO w D S 0) (funext fun z => by rw [decide_eq_false (by intro h; cases h)]))
  · obtain ⟨sm, ms, nd, mem, eD⟩ := hp
    obtain ⟨pr, a, gp, rfl, hT⟩ := pa.get hx
    have few' : ms.length ≤ 60 := Nat.le_trans (few nd fun z hz => hmem z (List.mem_of_mem_take ((mem z).1 hz))) ml
    refine ⟨a, _, rfl, Same.tu sm _ _ hT, rfl, _, _, rfl, _, _, rfl, rfl, rfl, ?_⟩
    refine ⟨_, rfl, _, rfl, rfl, _, rfl, ite2 (fun c => ?_) (fun c => ?_)⟩
    · have e1 : pr.1 = kd := V.str.inj (of_decide_eq_true c)
      have epr : pr = (kd, pr.2) := by rw [← e1]
      refine ⟨_, rfl, pr.2, _, _, rfl, eD, (by unfold scanBound; omega), same_put sm hD, ?_⟩
      by_cases hin : pr.2 ∈ ms
      · refine ⟨ms, nd, fun z => ?_, ?_⟩
        · rw [tk gp, List.mem_append, ← mem z, epr, List.mem_singleton]
          exact ⟨.inl, fun h => h.elim id fun h => by rw [(Prod.mk.inj h).2]; exact hin⟩
        · rw [upd_same]
          have eS : (fun j => decide (j ∈ ms) || decide (j = pr.2)) = fun z => decide (z ∈ ms) := funext fun j => by
            by_cases e : j = pr.2
            · rw [e, decide_eq_true hin]; rfl
            · rw [decide_eq_false e, Bool.or_false]
          rw [eS, if_pos (decide_eq_true hin)]
      · refine ⟨pr.2 :: ms, List.nodup_cons.mpr ⟨hin, nd⟩, fun z => ?_, ?_⟩
        · rw [tk gp, List.mem_append, ← mem z, epr, List.mem_singleton, List.mem_cons]
          constructor
          · rintro (h | h)
            · exact .inr (by rw [h])
            · exact .inl h
          · rintro (h | h)
            · exact .inr h
            · exact .inl (Prod.mk.inj h).2
        · rw [upd_same]
          have eS : (fun j => decide (j ∈ ms) || decide (j = pr.2)) = fun z => decide (z ∈ pr.2 :: ms) := funext fun j => by
            by_cases e : j = pr.2
            · rw [e, decide_eq_true (List.mem_cons_self ..), decide_eq_true rfl, Bool.or_true]
            · rw [decide_eq_false e, Bool.or_false]
              exact decide_eq_decide.mpr ⟨List.mem_cons_of_mem _, fun h => (List.mem_cons.mp h).resolve_left e⟩
          rw [eS, if_neg (by rw [decide_eq_false hin]; exact Bool.false_ne_true)]
          rfl
    · refine ⟨sm, ms, nd, fun z => ?_, eD⟩
      rw [tk gp, List.mem_append, ← mem z, List.mem_singleton]
      refine ⟨.inl, fun h => h.elim id fun h => ?_⟩
      exact absurd (decide_eq_true (by rw [← h])) c
  · obtain ⟨sm, ms, nd, mem, eD⟩ := hp
    rw [← lenl, List.take_length] at mem
    have few' : ms.length ≤ 60 := Nat.le_trans (few nd fun z hz => hmem z ((mem z).1 hz)) ml
    refine ⟨D, _, _, rfl, eD, by omega, fun ys q1 so ny my ly hq1 => ⟨q1, _, rfl, .inl ⟨SqL.of upd_same, fun t ht => ?_⟩⟩⟩
    have s1 := same_new hq1 (.lst (ys.map V.str))
    have s2 := same_new ht (.tup (ys.map V.str))
    exact q t _ ys (sm.trans (s1.trans s2)) upd_same ⟨sorted_lt so ny, fun z => by rw [my z, decide_eq_true_eq, mem z]⟩
theorem ok_words_of {f : Addr} {fd : FuncData} {k : Nat} (F : Fun K "words_of" "words_of" s_words_of f fd) (Ouses_of : Ok P w K mg base k "uses_of" P_uses_of (spUses K 12)) (O_ascending : Ok P w K mg base k "_ascending" P_ascending (spAsc K)) : FnOk P w K mg base CX0 (k + 1) f fd P_words_of (spWords K) := by
  refine F.ok sc_words_of (fun vs H Q E h => ?_) (fun cdv A outer s H vs Q E hr h => ?_)
  · obtain ⟨a, c, rfl, _⟩ := h
    rfl
  obtain ⟨v, e, rfl, hAt, hd, hfew, q⟩ := h
  refine ⟨_, (pss_cons (ps_set (i := 1) sc_words_of.nd rfl (Or.inl rfl) (pe_c Ouses_of hr (by rfl) (pa_cons (pv 0) pa_nil)))
    (pss_one (ps_ret (pe_tup (pa_cons (pe_c O_ascending hr (by rfl) (pa_cons (pv 1) (pa_cons pe_str pa_nil))) (pa_cons (pe_c O_ascending hr (by rfl) (pa_cons (pv 1) (pa_cons pe_str pa_nil))) (pa_cons (pe_c O_ascending hr (by rfl) (pa_cons (pv 1) (pa_cons pe_str pa_nil))) pa_nil))))))), ?_⟩
  refine ⟨_, rfl, v, e, rfl, hAt, hd, by decide, fun p H1 us s1 np ep pa => ?_⟩
  refine ⟨_, rfl, p, "name", _, us, rfl, ep, pa, hfew _ (by decide +kernel), fun t1 H2 y1 s2 e1 w1 => ?_⟩
  refine ⟨_, rfl, p, "read", _, us, rfl, s2 _ _ ep, pa.tu (Same.tu s2), hfew _ (by decide +kernel), fun t2 H3 y2 s3 e2 w2 => ?_⟩
  refine ⟨_, rfl, p, "call", _, us, rfl, s3 _ _ (s2 _ _ ep), pa.tu (Same.tu (s2.trans s3)), hfew _ (by decide +kernel), fun t3 H4 y3 s4 e3 w3 => ⟨(by show 3 ≤ sizeLine; decide), fun t ht => ?_⟩⟩
  have s5 := same_new ht (.tup [.ref t1, .ref t2, .ref t3])
  exact q t t1 t2 t3 _ y1 y2 y3 (s1.trans (s2.trans (s3.trans (s4.trans s5)))) upd_same ((s3.trans (s4.trans s5)) _ _ e1) ((s4.trans s5) _ _ e2) (s5 _ _ e3) w1 w2 w3
end
end K02
namespace K02
open PySem L2 Vk
theorem map_get {α : Type} {f : α → V} {xs : List α} {i : Nat} {v : V} (h : (xs.map f)[i]? = some v) : ∃ x, xs[i]? = some x ∧ v = f x := by
  rw [List.getElem?_map] at h
  cases e : xs[i]? with
  | none => rw [e] at h; cases h
  | some x => rw [e] at h; cases h; exact ⟨x, rfl, rfl⟩
def spLW (K : PySem.W.Frag) : Sp := fun vs H Q _ => ∃ (p : Addr) (k : Str) (es : List Ex) (us : List V), vs = [.ref p, .str k] ∧ H p = some (.lst us) ∧ Ex.AtAll K H es us ∧ k ∈ kinds3 ∧ Few (es.flatMap use1) k ∧ ∀ (q : Addr) (H' : Hp) (ys : List Str), Same H H' → H' q = some (.lst (ys.map V.str)) → Wds (es.flatMap use1) k ys → Q (.ref q) H'
def spTriple (K : PySem.W.Frag) : Sp := fun vs H Q _ => ∃ (v : V) (e : Ex), vs = [v] ∧ e.At K H v ∧ e.dep ≤ 12 ∧ (∀ k ∈ kinds3, Few (uses e) k) ∧ ∀ (t t1 t2 t3 : Addr) (H' : Hp) (y1 y2 y3 : List Str), Same H H' → H' t = some (.lst [.ref t1, .ref t2, .ref t3]) → H' t1 = some (.lst (y1.map V.str)) → H' t2 = some (.lst (y2.map V.str)) → H' t3 = some (.lst (y3.map V.str)) → Wds (uses e) "name" y1 → Wds (uses e) "read" y2 → Wds (uses e) "call" y3 → Q (.ref t) H'
/-- tuples and lists of the same texts -/
def Alike (K : PySem.W.Frag) (H : Hp) (ts ds : List Addr) : Prop := ∀ i : Nat, i < 3 → ∃ (a b : Addr) (ys : List Str), ts[i]? = some a ∧ ds[i]? = some b ∧ H a = some (.tup (ys.map V.str)) ∧ SqL K H b (ys.map V.str) ∧ ys.length ≤ 60
def spSame (K : PySem.W.Frag) : Sp := fun vs H Q _ => ∃ (t d : Addr) (ts ds : List Addr), vs = [.ref t, .ref d] ∧ H t = some (.tup (ts.map V.ref)) ∧ SqL K H d (ds.map V.ref) ∧ ts.length = 3 ∧ ds.length = 3 ∧ Alike K H ts ds ∧ Q (.bl true) H
def spDrawn (K : PySem.W.Frag) : Sp := fun vs H Q _ => ∃ (n : Int) (c d : Addr) (ns as : List Str), vs = [.int n, .ref c, .ref d] ∧ Ws H c ns ∧ Ws H d as ∧ ∀ (v : V) (H' : Hp) (e : Ex), Same H H' → e.At K H' v → e.dep ≤ 12 → e.good ns as → Q v H'
section
variable {P : Program} {w : World} {K : PySem.W.Frag} {mg : Str → Option Value} {base : Heap}
theorem ok_law_words {f : Addr} {fd : FuncData} {k : Nat} (F : Fun K "_law_words" "_law_words" s_law_words f fd) (msorted : mg "sorted" = none) : FnOk P w K mg base CX0 (k + 1) f fd P_law_words (spLW K) := by
  refine F.ok sc_law_words (fun vs H Q E h => ?_) (fun cdv A outer s H vs Q E hr h => ?_)
  · obtain ⟨a, c, _, _, rfl, _⟩ := h
    rfl
  obtain ⟨p, kd, es, us, rfl, ep, au, hk, ⟨m, ml, hmem⟩, q⟩ := h
  refine ⟨_, (pss_cons (ps_set (i := 2) sc_law_words.nd rfl (Or.inl rfl) (pe_lst pa_nil))
    (pss_cons (ps_for PassesOwn.never rfl (pi_list (pv 0)) (pg_name (i := 3) sc_law_words.nd rfl (Or.inl rfl))
      (pss_one (ps_if (PW.pt (pw_and (pt_cmpR op_eq (pe_ix ix_tup (pv 3) pe_int (fun _ _ => rfl)) (pv 1) (nomark _)) (pw_and1 (pt_cmpR op_notIn_seq (pe_ix ix_tup (pv 3) pe_int (fun _ _ => rfl)) (pv 2) (by rfl)))))
        (pss_one (ps_expr (pe_bm PySem.F.plainAttrs_list PySem.F.slot_list_append PySem.F.type_list_append mt_append (pv 2) (pa_cons (pe_ix ix_tup (pv 3) pe_int (fun _ _ => rfl)) pa_nil))))
        pss_nil)))
    (pss_one (ps_ret (pe_callB cr_sortedS (by rfl) msorted (by decide +kernel) (pa_cons (pv 2) pa_nil)))))), ?_⟩
  refine ⟨(by show 0 ≤ sizeLine; decide), fun W hW => ⟨_, rfl, p, rfl, ⟨_, SqL.of (same_new hW (.lst []) _ _ ep)⟩, ?_⟩⟩
  have g1 := same_new hW (.lst [])
  have lenl := au.len
  have tk : ∀ {i : Nat} {e : Ex}, es[i]? = some e → (es.take (i + 1)).flatMap use1 = (es.take i).flatMap use1 ++ use1 e := fun {i e} h => by
    rw [List.take_add_one, h, List.flatMap_append]
    simp
  have sub : ∀ (i : Nat) (z : Str), (kd, z) ∈ (es.take i).flatMap use1 → (kd, z) ∈ es.flatMap use1 := fun i z h => by
    obtain ⟨e, he, h⟩ := List.mem_flatMap.mp h
    exact List.mem_flatMap.mpr ⟨e, List.mem_of_mem_take he, h⟩
  refine for_list (xs := us) (fun i σ H' => ∃ (ms : List Str) (y3 : Option V), σ = [some (.ref p), some (.str kd), some (.ref W), y3] ∧ Same H H' ∧ H' W = some (.lst (ms.map V.str)) ∧ ms.Nodup ∧ (∀ z, z ∈ ms ↔ (kd, z) ∈ (es.take i).flatMap use1))
    ⟨[], _, rfl, g1, upd_same, List.nodup_nil, fun z => by rw [List.take_zero]; exact ⟨fun h => (by cases h), fun h => (by cases h)⟩⟩ (fun i σ H' _ hv => ?_) (fun i x σ H' hx hv => ?_) (fun σ H' hv => ?_)
  · obtain ⟨ms, y3, rfl, sm, _⟩ := hv
    exact SqL.of (sm _ _ ep)
  · obtain ⟨ms, y3, rfl, sm, eW, nd, mem⟩ := hv
    obtain ⟨e, ge, at0⟩ := au.get hx
    have at1 := at0.tu (Same.tu (K := K) sm)
    obtain ⟨a, x1, r, rfl, hT, hu⟩ := head_at at1
    have few' : ms.length ≤ 60 := Nat.le_trans (few nd fun z hz => hmem z (sub i z ((mem z).1 hz))) ml
    have fin : (∀ z, (kd, z) ∉ use1 e ∨ z ∈ ms) → ∃ (ms' : List Str) (y3 : Option V), ([some (.ref p), some (.str kd), some (.ref W), some (.ref a)] : St) = [some (.ref p), some (.str kd), some (.ref W), y3] ∧ Same H H' ∧ H' W = some (.lst (ms'.map V.str)) ∧ ms'.Nodup ∧ (∀ z, z ∈ ms' ↔ (kd, z) ∈ (es.take (i + 1)).flatMap use1) := fun h =>
      ⟨ms, _, rfl, sm, eW, nd, fun z => by
        rw [tk ge, List.mem_append, ← mem z]
        exact ⟨.inl, fun y => y.elim id fun y => (h z).resolve_left fun n => n y⟩⟩
    refine ⟨_, rfl, _, _, _, _, rfl, rfl, hT, atI_nat (j := 0) rfl, _, rfl, rfl, _, rfl, ite2 (fun c => ?_) (fun c => ?_)⟩
    · have e1 : tag e = kd := V.str.inj (of_decide_eq_true c)
      rcases hu with ⟨_, nt⟩ | ⟨wd, rfl, u1, _⟩
      · rw [e1] at nt; exact absurd hk nt
      have at2 := hT
      refine ⟨_, rfl, _, _, _, _, rfl, rfl, hT, atI_nat (j := 1) rfl, _, rfl, W, ms.map V.str, rfl, .inl (SqL.of eW), rfl, flat_all, _, rfl, ?_⟩
      by_cases hin : wd ∈ ms
      · rw [show (if true = true then !inV (V.str wd) (ms.map V.str) else inV (V.str wd) (ms.map V.str)) = false from by rw [if_pos rfl, mem_inV hin]; rfl]
        refine iteF (fin fun z => ?_)
        by_cases e : z = wd
        · exact .inr (by rw [e]; exact hin)
        · refine .inl fun h => ?_
          rw [u1] at h
          exact e (Prod.mk.inj (List.mem_singleton.mp h)).2
      · rw [show (if true = true then !inV (V.str wd) (ms.map V.str) else inV (V.str wd) (ms.map V.str)) = true from by
          rw [if_pos rfl]
          cases q : inV (V.str wd) (ms.map V.str) with
          | false => rfl
          | true => exact absurd (inV_str q) hin]
        refine iteT ⟨_, rfl, .inl ⟨rfl, _, SqL.of eW⟩, _, rfl, _, _, _, _, rfl, rfl, hT, atI_nat (j := 1) rfl, W, _, _, rfl, rfl, eW, by rw [List.length_map]; exact small1000 (by omega), ?_⟩
        refine ⟨ms ++ [wd], _, rfl, same_put sm hW, by rw [upd_same, List.map_append]; rfl, ?_, fun z => ?_⟩
        · exact List.nodup_append.mpr ⟨nd, List.nodup_cons.mpr ⟨by simp, List.nodup_nil⟩, fun x hx y hy => by rw [List.mem_singleton.mp hy]; exact fun e => hin (e ▸ hx)⟩
        · rw [tk ge, List.mem_append, List.mem_append, ← mem z, u1, e1, List.mem_singleton, List.mem_singleton]
          exact ⟨fun h => h.imp id fun h => by rw [h], fun h => h.imp id fun h => (Prod.mk.inj h).2⟩
    · refine fin fun z => .inl fun h => ?_
      rcases hu with ⟨u0, _⟩ | ⟨wd, _, u1, _⟩
      · rw [u0] at h; cases h
      · rw [u1] at h
        exact c (decide_eq_true (by rw [(Prod.mk.inj (List.mem_singleton.mp h)).1]))
  · obtain ⟨ms, y3, rfl, sm, eW, nd, mem⟩ := hv
    rw [← lenl, List.take_length] at mem
    have few' : ms.length ≤ 60 := Nat.le_trans (few nd fun z hz => hmem z ((mem z).1 hz)) ml
    refine ⟨_, rfl, W, ms, rfl, SqL.of eW, by omega, fun ys q1 pm so hq1 => ?_⟩
    exact q q1 _ ys (sm.trans (same_new hq1 _)) upd_same ⟨sorted_lt so (pm.nodup_iff.mpr nd), fun z => by rw [pm.mem_iff, mem z]⟩
theorem ok_triple {f : Addr} {fd : FuncData} {k : Nat} (F : Fun K "_law_triple" "_law_triple" s_law_triple f fd) (O_law_subs : Ok P w K mg base k "_law_subs" P_law_subs (spSubs K 12)) (O_law_words : Ok P w K mg base k "_law_words" P_law_words (spLW K)) : FnOk P w K mg base CX0 (k + 1) f fd P_law_triple (spTriple K) := by
  refine F.ok sc_law_triple (fun vs H Q E h => ?_) (fun cdv A outer s H vs Q E hr h => ?_)
  · obtain ⟨a, c, rfl, _⟩ := h
    rfl
  obtain ⟨v, e, rfl, hAt, hd, hfew, q⟩ := h
  refine ⟨_, (pss_cons (ps_set (i := 1) sc_law_triple.nd rfl (Or.inl rfl) (pe_c O_law_subs hr (by rfl) (pa_cons (pv 0) pa_nil)))
    (pss_one (ps_ret (pe_lst (pa_cons (pe_c O_law_words hr (by rfl) (pa_cons (pv 1) (pa_cons pe_str pa_nil))) (pa_cons (pe_c O_law_words hr (by rfl) (pa_cons (pv 1) (pa_cons pe_str pa_nil))) (pa_cons (pe_c O_law_words hr (by rfl) (pa_cons (pv 1) (pa_cons pe_str pa_nil))) pa_nil))))))), ?_⟩
  refine ⟨_, rfl, v, e, rfl, hAt, hd, by decide, fun p H1 us s1 np ep pa => ?_⟩
  refine ⟨_, rfl, p, "name", _, us, rfl, ep, pa, by decide +kernel, hfew _ (by decide +kernel), fun t1 H2 y1 s2 e1 w1 => ?_⟩
  refine ⟨_, rfl, p, "read", _, us, rfl, s2 _ _ ep, pa.tu (Same.tu s2), by decide +kernel, hfew _ (by decide +kernel), fun t2 H3 y2 s3 e2 w2 => ?_⟩
  refine ⟨_, rfl, p, "call", _, us, rfl, s3 _ _ (s2 _ _ ep), pa.tu (Same.tu (s2.trans s3)), by decide +kernel, hfew _ (by decide +kernel), fun t3 H4 y3 s4 e3 w3 => ⟨(by show 3 ≤ sizeLine; decide), fun t ht => ?_⟩⟩
  have s5 := same_new ht (.lst [.ref t1, .ref t2, .ref t3])
  exact q t t1 t2 t3 _ y1 y2 y3 (s1.trans (s2.trans (s3.trans (s4.trans s5)))) upd_same ((s3.trans (s4.trans s5)) _ _ e1) ((s4.trans s5) _ _ e2) (s5 _ _ e3) w1 w2 w3
theorem ok_drawn {f : Addr} {fd : FuncData} {k : Nat} (F : Fun K "_law_drawn" "_law_drawn" s_law_drawn f fd) (O_law_feed : Ok P w K mg base k "_law_feed" P_law_feed spFeed) (O_law_take : Ok P w K mg base k "_law_take" P_law_take spTake) (O_law_deep : Ok P w K mg base k "_law_deep" P_law_deep spDeep) (O_law_tree : Ok P w K mg base k "_law_tree" P_law_tree (spTree K 12)) : FnOk P w K mg base CX0 (k + 1) f fd P_law_drawn (spDrawn K) := by
  refine F.ok sc_law_drawn (fun vs H Q E h => ?_) (fun cdv A outer s H vs Q E hr h => ?_)
  · obtain ⟨a, c, d, _, _, rfl, _⟩ := h
    rfl
  obtain ⟨n, c, d, ns, as, rfl, hc, hd, q⟩ := h
  refine ⟨_, (pss_cons (ps_set (i := 3) sc_law_drawn.nd rfl (Or.inl rfl) (pe_c O_law_feed hr (by rfl) (pa_cons (pv 0) pa_nil)))
    (pss_cons (ps_set (i := 4) sc_law_drawn.nd rfl (Or.inl rfl) (pe_lst (pa_cons (pe_ix ix_list (pe_lst (pa_cons pe_int (pa_cons pe_int (pa_cons pe_int (pa_cons pe_int pa_nil))))) (pe_c O_law_take hr (by rfl) (pa_cons (pv 3) (pa_cons pe_int pa_nil))) (fun _ _ => rfl)) pa_nil)))
    (pss_cons (ps_set (i := 5) sc_law_drawn.nd rfl (Or.inl rfl) (pe_lst (pa_cons pe_str (pa_cons pe_str (pa_cons pe_str (pa_cons pe_str (pa_cons pe_str (pa_cons pe_str (pa_cons pe_str pa_nil)))))))))
    (pss_one (ps_ret (pe_c O_law_tree hr (by rfl) (pa_cons (pv 3) (pa_cons (pv 4) (pa_cons (pe_c O_law_deep hr (by rfl) (pa_cons (pv 3) pa_nil)) (pa_cons pe_bl (pa_cons (pv 1) (pa_cons (pv 2) (pa_cons (pv 5) pa_nil))))))))))))), ?_⟩
  refine ⟨_, rfl, n, rfl, fun pG HG sG npG fG => ?_⟩
  refine ⟨(by show 4 ≤ sizeLine; decide), fun l9 h9 => rd_inI [16, 10, 40, 120] rfl fG h9 rfl (by decide) (by decide) fun rm0 Ha _ sa => ?_⟩
  refine ⟨(by show 1 ≤ sizeLine; decide), fun rm hrm => ⟨(by show 7 ≤ sizeLine; decide), fun mn hmn => ?_⟩⟩
  have ta := same_new hrm (.lst [.int rm0])
  have tb := same_new hmn (.lst ((["leaf", "read", "read", "op", "op", "op", "call"] : List Str).map V.str))
  have tab := ta.trans tb
  refine ⟨_, rfl, _, rfl, _, rfl, pG, rfl, sa.2.same tab, fun dp Hb dp0 dp1 sb => ?_⟩
  have rmpG : rm ≠ pG := by
    obtain ⟨x, y, z, e⟩ := sa.2
    exact (ne_of_none e hrm).symm
  have R9 : Rm Hb rm := ⟨rm0, sb.1 _ _ rmpG (tb _ _ upd_same)⟩
  have mnpG : mn ≠ pG := by
    obtain ⟨x, y, z, e⟩ := sa.2.same ta
    exact (ne_of_none e hmn).symm
  have sHb : Same H Hb := fun b o eb => sb.1 b o (ne_of_none eb npG) (tab _ _ (sa.1 b o (ne_of_none eb npG) (sG _ _ eb)))
  refine ⟨_, rfl, _, rfl, _, rfl, pG, rm, c, d, mn, dp, true, ns, as, _, rfl, sb.2, R9, ⟨sHb _ _ hc.1, hc.2, hc.3⟩, ⟨sHb _ _ hd.1, hd.2, hd.3⟩, (show Ws Hb mn ["leaf", "read", "read", "op", "op", "op", "call"] from ⟨sb.1 _ _ mnpG upd_same, by decide, by decide⟩), dp0, by omega, by omega, fun v Hc e sc te de ge => ?_⟩
  exact q v Hc e (fun b o eb => sc.1 b o (ne_of_none eb npG) (ne_of_none (sa.1 b o (ne_of_none eb npG) (sG _ _ eb)) hrm) (sHb _ _ eb)) te de ge
theorem ok_same {f : Addr} {fd : FuncData} {k : Nat} (F : Fun K "_law_same" "_law_same" s_law_same f fd) (misinstance : mg "isinstance" = none) (mtuple : mg "tuple" = none) (mstr : mg "str" = none) (mlen : mg "len" = none) (mrange : mg "range" = none) : FnOk P w K mg base CX0 (k + 1) f fd P_law_same (spSame K) := by
  refine F.ok sc_law_same (fun vs H Q E h => ?_) (fun cdv A outer s H vs Q E hr h => ?_)
  · obtain ⟨a, c, _, _, rfl, _⟩ := h
    rfl
  obtain ⟨t, d, ts, ds, rfl, hT, hD, lt, ld, hA, q⟩ := h
  refine ⟨_, (pss_cons (ps_if (PW.pt (pw_or (pt_not (pt_val (pe_callB call_isi (by rfl) misinstance (by decide +kernel) (pa_cons (pv 0) (pa_cons (pe_bltn (v := .ty "tuple") (by rfl) mtuple (by decide +kernel) rfl) pa_nil))))) (pw_or1 (pt_cmpR op_ne (pe_callB call_len_seq (by rfl) mlen (by decide +kernel) (pa_cons (pv 0) pa_nil)) pe_int (nomark _)))))
      (pss_one (ps_ret pe_bl))
      pss_nil)
    (pss_cons (ps_for PassesOwn.never rfl (pi_range1 (by rfl) mrange (pa_cons pe_int pa_nil)) (pg_name (i := 2) sc_law_same.nd rfl (Or.inl rfl))
      (pss_cons (ps_if (PW.pt (pw_or (pt_not (pt_val (pe_callB call_isi (by rfl) misinstance (by decide +kernel) (pa_cons (pe_ix ix_tup (pv 0) (pv 2) (fun _ _ => rfl)) (pa_cons (pe_bltn (v := .ty "tuple") (by rfl) mtuple (by decide +kernel) rfl) pa_nil))))) (pw_or1 (pt_cmpR op_ne (pe_callB call_len_seq (by rfl) mlen (by decide +kernel) (pa_cons (pe_ix ix_tup (pv 0) (pv 2) (fun _ _ => rfl)) pa_nil)) (pe_callB call_len_seq (by rfl) mlen (by decide +kernel) (pa_cons (pe_ix ix_list (pv 1) (pv 2) (fun _ _ => rfl)) pa_nil)) (nomark _)))))
        (pss_one (ps_ret pe_bl))
        pss_nil)
      (pss_one (ps_for PassesOwn.never rfl (pi_range1 (by rfl) mrange (pa_cons (pe_callB call_len_seq (by rfl) mlen (by decide +kernel) (pa_cons (pe_ix ix_list (pv 1) (pv 2) (fun _ _ => rfl)) pa_nil)) pa_nil)) (pg_name (i := 3) sc_law_same.nd rfl (Or.inl rfl))
        (pss_one (ps_if (PW.pt (pw_or (pt_not (pt_val (pe_callB call_isi (by rfl) misinstance (by decide +kernel) (pa_cons (pe_ix ix_tup (pe_ix ix_tup (pv 0) (pv 2) (fun _ _ => rfl)) (pv 3) (fun _ _ => rfl)) (pa_cons (pe_bltn (v := .ty "str") (by rfl) mstr (by decide +kernel) rfl) pa_nil))))) (pw_or1 (pt_cmpR op_ne (pe_ix ix_tup (pe_ix ix_tup (pv 0) (pv 2) (fun _ _ => rfl)) (pv 3) (fun _ _ => rfl)) (pe_ix ix_list (pe_ix ix_list (pv 1) (pv 2) (fun _ _ => rfl)) (pv 3) (fun _ _ => rfl)) (nomark _)))))
          (pss_one (ps_ret pe_bl))
          pss_nil))))))
    (pss_one (ps_ret pe_bl)))), ?_⟩
  have hT' := SqT.of (K := K) hT
  have neF : ∀ {x y : V} {A B : Prop}, x = y → B → if (!decide (x = y)) = true then A else B := fun {x y A B} e h => by rw [decide_eq_true e]; exact iteF h
  have zi : ∀ i : Nat, (0 : Int) + (i : Int) = ((i : Nat) : Int) := fun i => Int.zero_add _
  refine ⟨_, rfl, _, _, _, _, _, rfl, .ty _, .base (.tup hT), kit_ty (r := true) (by decide +kernel), _, rfl, iteF ⟨_, rfl, _, _, rfl, .inr hT', rfl, _, rfl, neF (by rw [List.length_map, lt]; rfl) ?_⟩⟩
  refine ⟨3, rfl, by decide, by decide, for_range (n := 3) (fun i σ H' => ∃ (y2 y3 : Option V), σ = [some (.ref t), some (.ref d), y2, y3] ∧ H' = H) ⟨_, _, rfl, rfl⟩ (fun i σ H' hi hv => ?_) (fun σ H' hv => ?_)⟩
  · obtain ⟨y2, y3, rfl, rfl⟩ := hv
    obtain ⟨a, b, ys, ga, gb, hTa, hLb, ly⟩ := hA i hi
    have hTa' := SqT.of (K := K) hTa
    have eva : atI (ts.map V.ref) (0 + (i : Int)) = some (.ref a) := by rw [zi]; exact atI_nat (by rw [List.getElem?_map, ga]; rfl)
    have evb : atI (ds.map V.ref) (0 + (i : Int)) = some (.ref b) := by rw [zi]; exact atI_nat (by rw [List.getElem?_map, gb]; rfl)
    refine ⟨_, rfl, _, rfl, _, _, _, _, rfl, rfl, hT', eva, _, _, _, _, _, rfl, .ty _, .base (.tup hTa), kit_ty (r := true) (by decide +kernel), _, rfl, iteF ?_⟩
    refine ⟨_, rfl, _, rfl, _, _, _, _, rfl, rfl, hT', eva, a, _, rfl, .inr hTa', _, rfl, _, rfl, _, _, _, _, rfl, rfl, hD, evb, b, _, rfl, .inl hLb, rfl, _, rfl, itYn ?_⟩
    refine ⟨_, rfl, _, rfl, _, _, _, _, rfl, rfl, hD, evb, b, _, rfl, .inl hLb, _, rfl, by rw [List.length_map]; omega, by rw [List.length_map]; omega, ?_⟩
    refine for_range (n := _) (fun j σ H2 => ∃ (y3 : Option V), σ = [some (.ref t), some (.ref d), some (.int (0 + i)), y3] ∧ H2 = H') ⟨_, rfl, rfl⟩ (fun j σ H2 hj hv => ?_) (fun σ H2 hv => ?_)
    · obtain ⟨y3, rfl, rfl⟩ := hv
      have hj2 : j < ys.length := by
        have h9 : j < (((ys.map V.str).length : Nat) : Int).toNat := hj
        rw [List.length_map] at h9
        omega
      have evj : atI (ys.map V.str) (0 + (j : Int)) = some (.str ys[j]) := by rw [zi]; exact atI_nat (by rw [List.getElem?_map, List.getElem?_eq_getElem hj2]; rfl)
      refine ⟨_, rfl, _, rfl, _, _, _, _, rfl, rfl, hT', eva, _, rfl, _, _, _, _, rfl, rfl, hTa', evj, _, _, _, _, _, rfl, .ty _, .base (.str _), kit_ty (r := true) (by decide +kernel), _, rfl, iteF ?_⟩
      exact ⟨_, rfl, _, rfl, _, _, _, _, rfl, rfl, hT', eva, _, rfl, _, _, _, _, rfl, rfl, hTa', evj, _, rfl, _, rfl, _, _, _, _, rfl, rfl, hD, evb, _, rfl, _, _, _, _, rfl, rfl, hLb, evj, rfl, _, rfl, itYn ⟨_, rfl, rfl⟩⟩
    · obtain ⟨y3, rfl, rfl⟩ := hv
      exact ⟨_, _, rfl, rfl⟩
  · obtain ⟨y2, y3, rfl, rfl⟩ := hv
    exact q
end
end K02
namespace K02
open PySem L2 Vk
def spLaw (K : PySem.W.Frag) : Sp := fun vs H Q _ => ∃ (a : Addr) (ns : List Int), vs = [.ref a] ∧ SqL K H a (ns.map V.int) ∧ ns.length ≤ 63 ∧ ∀ H', Q (.bl true) H'
theorem Wds.len {l : List (Str × Str)} {k : Str} {ys : List Str} (h : Wds l k ys) (f : Few l k) : ys.length ≤ 60 := by
  obtain ⟨m, ml, hm⟩ := f
  exact Nat.le_trans (few (h.1.imp fun {a b} g e => by rw [e] at g; exact ltT_irr b g) fun z hz => hm z ((h.2 z).1 hz)) ml
theorem alike_of {K : PySem.W.Frag} {H : Hp} {l : List (Str × Str)} {t1 t2 t3 d1 d2 d3 : Addr} {y1 y2 y3 z1 z2 z3 : List Str} (few : ∀ k ∈ kinds3, Few l k) (e1 : H t1 = some (.tup (y1.map V.str))) (e2 : H t2 = some (.tup (y2.map V.str))) (e3 : H t3 = some (.tup (y3.map V.str)))
    (f1 : H d1 = some (.lst (z1.map V.str))) (f2 : H d2 = some (.lst (z2.map V.str))) (f3 : H d3 = some (.lst (z3.map V.str))) (w1 : Wds l "name" y1) (w2 : Wds l "read" y2) (w3 : Wds l "call" y3) (v1 : Wds l "name" z1) (v2 : Wds l "read" z2) (v3 : Wds l "call" z3) : Alike K H [t1, t2, t3] [d1, d2, d3] := fun i hi => by
  match i, hi with
  | 0, _ => exact ⟨t1, d1, y1, rfl, rfl, e1, SqL.of (by rw [w1.one v1]; exact f1), w1.len (few _ (by decide +kernel))⟩
  | 1, _ => exact ⟨t2, d2, y2, rfl, rfl, e2, SqL.of (by rw [w2.one v2]; exact f2), w2.len (few _ (by decide +kernel))⟩
  | 2, _ => exact ⟨t3, d3, y3, rfl, rfl, e3, SqL.of (by rw [w3.one v3]; exact f3), w3.len (few _ (by decide +kernel))⟩
section
variable {P : Program} {w : World} {K : PySem.W.Frag} {mg : Str → Option Value} {base : Heap}
theorem ok_law {f : Addr} {fd : FuncData} {k : Nat} (F : Fun K "law" "law" s_law f fd) (O_law_cell : Ok P w K mg base k "_law_cell" P_law_cell (spCellv K)) (O_law_feed : Ok P w K mg base k "_law_feed" P_law_feed spFeed) (O_law_take : Ok P w K mg base k "_law_take" P_law_take spTake)
    (O_law_word_row : Ok P w K mg base k "_law_word_row" P_law_word_row spWordRow) (O_law_drawn : Ok P w K mg base k "_law_drawn" P_law_drawn (spDrawn K)) (O_law_subs : Ok P w K mg base k "_law_subs" P_law_subs (spSubs K 12)) (Owords_of : Ok P w K mg base k "words_of" P_words_of (spWords K))
    (O_law_triple : Ok P w K mg base k "_law_triple" P_law_triple (spTriple K)) (O_law_same : Ok P w K mg base k "_law_same" P_law_same (spSame K)) : FnOk P w K mg base CX0 (k + 1) f fd P_law (spLaw K) := by
  refine F.ok sc_law (fun vs H Q E h => ?_) (fun cdv A outer s H vs Q E hr h => ?_)
  · obtain ⟨a, ns, rfl, _⟩ := h
    rfl
  obtain ⟨a, ns, rfl, hS, _, q⟩ := h
  refine ⟨_, (pss_cons (ps_set (i := 1) sc_law.nd rfl (Or.inl rfl) (pe_c O_law_feed hr (by rfl) (pa_cons (pe_c O_law_cell hr (by rfl) (pa_cons (pv 0) (pa_cons pe_int pa_nil))) pa_nil)))
    (pss_cons (ps_set (i := 2) sc_law.nd rfl (Or.inl rfl) (pe_c O_law_word_row hr (by rfl) (pa_cons (pv 1) (pa_cons (pe_op op_add pe_int (pe_c O_law_take hr (by rfl) (pa_cons (pv 1) (pa_cons (pe_ix ix_list (pe_lst (pa_cons pe_int (pa_cons pe_int pa_nil))) (pe_c O_law_take hr (by rfl) (pa_cons (pv 1) (pa_cons pe_int pa_nil))) (fun _ _ => rfl)) pa_nil)))) pa_nil))))
    (pss_cons (ps_set (i := 3) sc_law.nd rfl (Or.inl rfl) (pe_c O_law_word_row hr (by rfl) (pa_cons (pv 1) (pa_cons (pe_op op_add pe_int (pe_c O_law_take hr (by rfl) (pa_cons (pv 1) (pa_cons (pe_ix ix_list (pe_lst (pa_cons pe_int (pa_cons pe_int pa_nil))) (pe_c O_law_take hr (by rfl) (pa_cons (pv 1) (pa_cons pe_int pa_nil))) (fun _ _ => rfl)) pa_nil)))) pa_nil))))
    (C8.pss_cut (ps_if (pt_cmpR op_eq (pe_c O_law_take hr (by rfl) (pa_cons (pv 1) (pa_cons pe_int pa_nil))) pe_int (nomark _))
      (pss_one (ps_expr (pe_bm PySem.F.plainAttrs_list PySem.F.slot_list_append PySem.F.type_list_append mt_append (pv 3) (pa_cons (pe_ix ix_list (pv 2) pe_int (fun _ _ => rfl)) pa_nil))))
      pss_nil)
    (pss_cons (ps_set (i := 4) sc_law.nd rfl (Or.inl rfl) (pe_c O_law_drawn hr (by rfl) (pa_cons (pe_c O_law_cell hr (by rfl) (pa_cons (pv 0) (pa_cons pe_int pa_nil))) (pa_cons (pv 2) (pa_cons (pv 3) pa_nil)))))
    (pss_cons (ps_set (i := 5) sc_law.nd rfl (Or.inl rfl) (pe_c O_law_drawn hr (by rfl) (pa_cons (pe_c O_law_cell hr (by rfl) (pa_cons (pv 0) (pa_cons pe_int pa_nil))) (pa_cons (pv 2) (pa_cons (pv 3) pa_nil)))))
    (pss_cons (ps_for PassesOwn.never rfl (pi_list (pe_c O_law_subs hr (by rfl) (pa_cons (pv 4) pa_nil))) (pg_name (i := 6) sc_law.nd rfl (Or.inl rfl))
      (pss_one (ps_if (pt_not (pt_val (pe_c O_law_same hr (by rfl) (pa_cons (pe_c Owords_of hr (by rfl) (pa_cons (pv 6) pa_nil)) (pa_cons (pe_c O_law_triple hr (by rfl) (pa_cons (pv 6) pa_nil)) pa_nil)))))
        (pss_one (ps_ret pe_bl))
        pss_nil)))
    (pss_one (ps_ret (pe_and (pe_c O_law_same hr (by rfl) (pa_cons (pe_c Owords_of hr (by rfl) (pa_cons (pv 5) pa_nil)) (pa_cons (pe_c O_law_triple hr (by rfl) (pa_cons (pv 5) pa_nil)) pa_nil))) (pe_one (pe_c O_law_same hr (by rfl) (pa_cons (pe_c Owords_of hr (by rfl) (pa_cons (pv 4) pa_nil)) (pa_cons (pe_c O_law_triple hr (by rfl) (pa_cons (pv 4) pa_nil)) pa_nil)))))))))))))), ?_⟩
  refine ⟨_, rfl, a, ns, 0, rfl, hS, by decide, by decide, fun n0 => ⟨n0, rfl, fun pf H1 s1 npf f1 => ?_⟩⟩
  have bd8 : ∀ z ∈ ([8, 30] : List Int), 0 < z ∧ z ≤ 30 := by decide
  have bd6 : ∀ z ∈ ([6, 12] : List Int), 0 < z ∧ z ≤ 12 := by decide
  -- names
  refine ⟨_, rfl, _, rfl, (by show 2 ≤ sizeLine; decide), fun l1 hl1 => rd_inI [8, 30] rfl f1 hl1 rfl (by decide) (by decide) fun z1 H2 zm1 s2 => ?_⟩
  have zb1 := bd8 z1 zm1
  refine ⟨pf, z1, rfl, s2.2, zb1.1, by omega, fun r1 H3 r10 r11 s3 => ⟨_, _, rfl, rfl, pf, 1 + r1, rfl, s3.2, by omega, by omega, fun W H4 ws s4 nW eW lw wo => ?_⟩⟩
  have Wf : W ≠ pf := by
    obtain ⟨x, y, z, e⟩ := s3.2
    exact (ne_of_none e nW).symm
  -- arrays
  refine ⟨_, rfl, _, rfl, (by show 2 ≤ sizeLine; decide), fun l2 hl2 => rd_inI [6, 12] rfl s4.2 hl2 rfl (by decide) (by decide) fun z2 H5 zm2 s5 => ?_⟩
  have zb2 := bd6 z2 zm2
  refine ⟨pf, z2, rfl, s5.2, zb2.1, by omega, fun r2 H6 r20 r21 s6 => ⟨_, _, rfl, rfl, pf, 1 + r2, rfl, s6.2, by omega, by omega, fun S H7 ss s7 nS eS lss wos => ?_⟩⟩
  have Sf : S ≠ pf := by
    obtain ⟨x, y, z, e⟩ := s6.2
    exact (ne_of_none e nS).symm
  have s14 := s2.trans (s3.trans s4)
  have s47 := s5.trans (s6.trans s7)
  have kH6 : Same H H6 := fun b o e => s6.1 b o (ne_of_none e npf) (s5.1 b o (ne_of_none e npf) (s14.1 b o (ne_of_none e npf) (s1 b o e)))
  have kH7 : Same H H7 := fun b o e => s7.1 b o (ne_of_none e npf) (kH6 b o e)
  have SH : H S = none := kH6.free nS
  have eW7 := s47.1 _ _ Wf eW
  have SW : S ≠ W := fun z => by rw [z, s6.1 _ _ Wf (s5.1 _ _ Wf eW)] at nS; cases nS
  refine ⟨fun σ8 H8 => ∃ (as : List Str), σ8 = [some (.ref a), some (.ref pf), some (.ref W), some (.ref S), none, none, none] ∧ Same H H8 ∧ H8 W = some (.lst (ws.map V.str)) ∧ H8 S = some (.lst (as.map V.str)) ∧ 1 ≤ as.length ∧ as.length ≤ 20, ?_, fun σ8 H8 hm => ?_⟩
  · refine rd_take rfl s7.2 (by decide) (by decide) fun r8 H8 _ _ s8 => ⟨rfl, _, rfl, ite2 (fun c => ?_) (fun c => ?_)⟩
    · have eS8 := s8.1 _ _ Sf eS
      have eW8 := s8.1 _ _ Wf eW7
      obtain ⟨w0, wr, rfl⟩ : ∃ x r, ws = x :: r := by
        cases ws with
        | nil => exfalso; simp at lw; omega
        | cons x r => exact ⟨x, r, rfl⟩
      refine ⟨_, rfl, .inl ⟨rfl, _, SqL.of eS8⟩, _, rfl, _, _, _, _, rfl, rfl, (SqL.of eW8), atI_nat (j := 0) rfl, S, _, _, rfl, rfl, eS8, ?_, ?_⟩
      · rw [List.length_map]
        exact small1000 (by omega)
      · refine ⟨ss ++ [w0], rfl, fun b o e => ?_, ?_, ?_, ?_, ?_⟩
        · rw [upd_ne (ne_of_none e SH)]
          exact s8.1 b o (ne_of_none e npf) (kH7 b o e)
        · rw [upd_ne SW.symm]; exact eW8
        · rw [upd_same, List.map_append]; rfl
        · rw [List.length_append]; show 1 ≤ _ + 1; omega
        · rw [List.length_append]; show _ + 1 ≤ 20; omega
    · exact ⟨ss, rfl, fun b o e => s8.1 b o (ne_of_none e npf) (kH7 b o e), s8.1 _ _ Wf eW7, s8.1 _ _ Sf eS, by omega, by omega⟩
  obtain ⟨as, rfl, k8, eW8, eS8, a1, a2⟩ := hm
  have wl : 1 ≤ ws.length ∧ ws.length ≤ 31 := by omega
  -- expr, other
  refine ⟨_, rfl, a, ns, 1, rfl, k8.seq hS, by decide, by decide, fun n1 => ⟨_, rfl, _, rfl, n1, W, S, ws, as, rfl, ⟨eW8, wl.1, by omega⟩, ⟨eS8, a1, by omega⟩, fun v H9 e s9 te de ge => ?_⟩⟩
  refine ⟨_, rfl, a, ns, 2, rfl, (k8.trans s9).seq hS, by decide, by decide, fun n2 => ⟨_, rfl, _, rfl, n2, W, S, ws, as, rfl, ⟨s9 _ _ eW8, wl.1, by omega⟩, ⟨s9 _ _ eS8, a1, by omega⟩, fun u Ha g sa tg dg gg => ?_⟩⟩
  have few1 : ∀ {f : Ex}, f.good ws as → ∀ k ∈ kinds3, Few (uses f) k := fun {f} gf k hk => few_uses gf (by omega) (by omega) hk
  have teA := te.tu (Same.tu sa)
  -- every part
  refine ⟨_, rfl, v, e, rfl, teA, de, by decide, fun pS Hf us sf npS eS2 au => ⟨pS, rfl, ⟨_, SqL.of eS2⟩, ?_⟩⟩
  refine for_list (xs := us) (fun i σ H' => ∃ (y6 : Option V), σ = [some (.ref a), some (.ref pf), some (.ref W), some (.ref S), some v, some u, y6] ∧ Same Hf H')
    ⟨_, rfl, Same.refl _⟩ (fun i σ H' _ hv => ?_) (fun i x σ H' hx hv => ?_) (fun σ H' hv => ?_)
  · obtain ⟨y6, rfl, sm⟩ := hv
    exact SqL.of (sm _ _ eS2)
  · obtain ⟨y6, rfl, sm⟩ := hv
    obtain ⟨ei, gi, ati⟩ := au.get hx
    have em := List.mem_of_getElem? gi
    have ai := ati.tu (Same.tu (K := K) sm)
    have di : ei.dep ≤ 12 := Ex.subs_all (p := fun e => e.dep ≤ 12) (fun _ _ m g => by have := Ex.kids_dep m; omega) de ei em
    have gi2 : ei.good ws as := Ex.subs_all (p := fun e => e.good ws as) (fun _ _ m g => Ex.kids_good m g) ge ei em
    exact ⟨_, rfl, x, ei, rfl, ai, di, few1 gi2, fun t t1 t2 t3 Hb y1 y2 y3 sb et e1 e2 e3 w1 w2 w3 => ⟨_, rfl, x, ei, rfl, ai.tu (Same.tu sb), di, few1 gi2, fun d d1 d2 d3 Hc z1 z2 z3 sc ed f1 f2 f3 v1 v2 v3 =>
      ⟨t, d, [t1, t2, t3], [d1, d2, d3], rfl, sc _ _ et, SqL.of ed, rfl, rfl, alike_of (few1 gi2) (sc _ _ e1) (sc _ _ e2) (sc _ _ e3) f1 f2 f3 w1 w2 w3 v1 v2 v3, ⟨_, rfl, iteF ⟨_, rfl, sm.trans (sb.trans sc)⟩⟩⟩⟩⟩
  obtain ⟨y6, rfl, sm⟩ := hv
  have sfm := sf.trans sm
  have tgF := tg.tu (Same.tu (K := K) sfm)
  have teF := teA.tu (Same.tu (K := K) sfm)
  exact ⟨_, rfl, u, g, rfl, tgF, dg, few1 gg, fun t t1 t2 t3 Hb y1 y2 y3 sb et e1 e2 e3 w1 w2 w3 => ⟨_, rfl, u, g, rfl, tgF.tu (Same.tu sb), dg, few1 gg, fun d d1 d2 d3 Hc z1 z2 z3 sc ed f1 f2 f3 v1 v2 v3 =>
    ⟨t, d, [t1, t2, t3], [d1, d2, d3], rfl, sc _ _ et, SqL.of ed, rfl, rfl, alike_of (few1 gg) (sc _ _ e1) (sc _ _ e2) (sc _ _ e3) f1 f2 f3 w1 w2 w3 v1 v2 v3, ⟨_, rfl, iteT
      ⟨_, rfl, v, e, rfl, teF.tu (Same.tu (sb.trans sc)), de, few1 ge, fun t t1 t2 t3 Hb y1 y2 y3 sb2 et e1 e2 e3 w1 w2 w3 => ⟨_, rfl, v, e, rfl, teF.tu (Same.tu (sb.trans (sc.trans sb2))), de, few1 ge, fun d d1 d2 d3 Hc z1 z2 z3 sc2 ed f1 f2 f3 v1 v2 v3 =>
        ⟨t, d, [t1, t2, t3], [d1, d2, d3], rfl, sc2 _ _ et, SqL.of ed, rfl, rfl, alike_of (few1 ge) (sc2 _ _ e1) (sc2 _ _ e2) (sc2 _ _ e3) f1 f2 f3 w1 w2 w3 v1 v2 v3, q _⟩⟩⟩⟩⟩⟩⟩
end
end K02
namespace K02
open PySem L2 Vk
theorem none_ok {P : Program} {w : World} {K : PySem.W.Frag} {mg : Str → Option Value} {base : Heap} {k : Nat} {f : Addr} {fd : FuncData} {ps : List Str} {sp : Sp} (no : ∀ vs H Q E, ¬ sp vs H Q E) : FnOk P w K mg base CX0 k f fd ps sp :=
  ⟨fun vs H Q E h => absurd h (no vs H Q E), fun A outer s H args us vs Q E _ _ _ _ h => absurd h (no vs H Q E)⟩
set_option maxHeartbeats 0 in
theorem all_mk {l : PySem.W.OpenLaw} {w : World} {K : PySem.W.Frag} {h : Heap} {mg : Str → Option Value} {fa f0 f1 f2 f3 f4 f5 f6 f7 f8 f9 f10 f11 f12 f13 f14 f15 f16 f17 f18 f19 f20 : Addr} (X : K.In h) (G : h.Ns mainGlobals mg) (hfa : mg "law" = some (.ref fa))
    {od0 an0 od1 an1 od2 an2 od3 an3 od4 an4 od5 an5 od6 an6 od7 an7 od8 an8 od9 an9 od10 an10 od11 an11 od12 an12 od13 an13 od14 an14 od15 an15 od16 an16 od17 an17 od18 an18 od19 an19 od20 an20 : Option Addr} {sl0 sl1 sl2 sl3 sl4 sl5 sl6 sl7 sl8 sl9 sl10 sl11 sl12 sl13 sl14 sl15 sl16 sl17 sl18 sl19 sl20 : Array (Option Value)} {oc0 kV0 dc0 pm0 cd0 ct0 oc1 kV1 dc1 pm1 cd1 ct1 oc2 kV2 dc2 pm2 cd2 ct2 oc3 kV3 dc3 pm3 cd3 ct3 oc4 kV4 dc4 pm4 cd4 ct4 oc5 kV5 dc5 pm5 cd5 ct5 oc6 kV6 dc6 pm6 cd6 ct6 oc7 kV7 dc7 pm7 cd7 ct7 oc8 kV8 dc8 pm8 cd8 ct8 oc9 kV9 dc9 pm9 cd9 ct9 oc10 kV10 dc10 pm10 cd10 ct10 oc11 kV11 dc11 pm11 cd11 ct11 oc12 kV12 dc12 pm12 cd12 ct12 oc13 kV13 dc13 pm13 cd13 ct13 oc14 kV14 dc14 pm14 cd14 ct14 oc15 kV15 dc15 pm15 cd15 ct15 oc16 kV16 dc16 pm16 cd16 ct16 oc17 kV17 dc17 pm17 cd17 ct17 oc18 kV18 dc18 pm18 cd18 ct18 oc19 kV19 dc19 pm19 cd19 ct19 oc20 kV20 dc20 pm20 cd20 ct20 : Value}
    (a0 : PySem.W.nsIn K mainGlobals "words_of" = some (some (.ref f0))) (l0 : K.lookup f0 = some ⟨oc0, od0, .func (PySem.W.fnOf "words_of" "words_of" (defArgs s_words_of) (defBody s_words_of) (defScope s_words_of) .none kV0 dc0 pm0 an0 cd0 ct0), sl0⟩) (c0 : PySem.W.codeIn K cd0 "words_of" = true) (k0 : PySem.W.keepIn K (.ref f0) = true)
    (a1 : PySem.W.nsIn K mainGlobals "operands_of" = some (some (.ref f1))) (l1 : K.lookup f1 = some ⟨oc1, od1, .func (PySem.W.fnOf "operands_of" "operands_of" (defArgs s_operands_of) (defBody s_operands_of) (defScope s_operands_of) .none kV1 dc1 pm1 an1 cd1 ct1), sl1⟩) (c1 : PySem.W.codeIn K cd1 "operands_of" = true) (k1 : PySem.W.keepIn K (.ref f1) = true)
    (a2 : PySem.W.nsIn K mainGlobals "uses_of" = some (some (.ref f2))) (l2 : K.lookup f2 = some ⟨oc2, od2, .func (PySem.W.fnOf "uses_of" "uses_of" (defArgs s_uses_of) (defBody s_uses_of) (defScope s_uses_of) .none kV2 dc2 pm2 an2 cd2 ct2), sl2⟩) (c2 : PySem.W.codeIn K cd2 "uses_of" = true) (k2 : PySem.W.keepIn K (.ref f2) = true)
    (a3 : PySem.W.nsIn K mainGlobals "_ascending" = some (some (.ref f3))) (l3 : K.lookup f3 = some ⟨oc3, od3, .func (PySem.W.fnOf "_ascending" "_ascending" (defArgs s_ascending) (defBody s_ascending) (defScope s_ascending) .none kV3 dc3 pm3 an3 cd3 ct3), sl3⟩) (c3 : PySem.W.codeIn K cd3 "_ascending" = true) (k3 : PySem.W.keepIn K (.ref f3) = true)
    (a4 : PySem.W.nsIn K mainGlobals "_law_cell" = some (some (.ref f4))) (l4 : K.lookup f4 = some ⟨oc4, od4, .func (PySem.W.fnOf "_law_cell" "_law_cell" (defArgs s_law_cell) (defBody s_law_cell) (defScope s_law_cell) .none kV4 dc4 pm4 an4 cd4 ct4), sl4⟩) (c4 : PySem.W.codeIn K cd4 "_law_cell" = true) (k4 : PySem.W.keepIn K (.ref f4) = true)
    (a5 : PySem.W.nsIn K mainGlobals "_law_feed" = some (some (.ref f5))) (l5 : K.lookup f5 = some ⟨oc5, od5, .func (PySem.W.fnOf "_law_feed" "_law_feed" (defArgs s_law_feed) (defBody s_law_feed) (defScope s_law_feed) .none kV5 dc5 pm5 an5 cd5 ct5), sl5⟩) (c5 : PySem.W.codeIn K cd5 "_law_feed" = true) (k5 : PySem.W.keepIn K (.ref f5) = true)
    (a6 : PySem.W.nsIn K mainGlobals "_law_take" = some (some (.ref f6))) (l6 : K.lookup f6 = some ⟨oc6, od6, .func (PySem.W.fnOf "_law_take" "_law_take" (defArgs s_law_take) (defBody s_law_take) (defScope s_law_take) .none kV6 dc6 pm6 an6 cd6 ct6), sl6⟩) (c6 : PySem.W.codeIn K cd6 "_law_take" = true) (k6 : PySem.W.keepIn K (.ref f6) = true)
    (a7 : PySem.W.nsIn K mainGlobals "_law_number" = some (some (.ref f7))) (l7 : K.lookup f7 = some ⟨oc7, od7, .func (PySem.W.fnOf "_law_number" "_law_number" (defArgs s_law_number) (defBody s_law_number) (defScope s_law_number) .none kV7 dc7 pm7 an7 cd7 ct7), sl7⟩) (c7 : PySem.W.codeIn K cd7 "_law_number" = true) (k7 : PySem.W.keepIn K (.ref f7) = true)
    (a8 : PySem.W.nsIn K mainGlobals "_law_word" = some (some (.ref f8))) (l8 : K.lookup f8 = some ⟨oc8, od8, .func (PySem.W.fnOf "_law_word" "_law_word" (defArgs s_law_word) (defBody s_law_word) (defScope s_law_word) .none kV8 dc8 pm8 an8 cd8 ct8), sl8⟩) (c8 : PySem.W.codeIn K cd8 "_law_word" = true) (k8 : PySem.W.keepIn K (.ref f8) = true)
    (a9 : PySem.W.nsIn K mainGlobals "_law_near" = some (some (.ref f9))) (l9 : K.lookup f9 = some ⟨oc9, od9, .func (PySem.W.fnOf "_law_near" "_law_near" (defArgs s_law_near) (defBody s_law_near) (defScope s_law_near) .none kV9 dc9 pm9 an9 cd9 ct9), sl9⟩) (c9 : PySem.W.codeIn K cd9 "_law_near" = true) (k9 : PySem.W.keepIn K (.ref f9) = true)
    (a10 : PySem.W.nsIn K mainGlobals "_law_word_row" = some (some (.ref f10))) (l10 : K.lookup f10 = some ⟨oc10, od10, .func (PySem.W.fnOf "_law_word_row" "_law_word_row" (defArgs s_law_word_row) (defBody s_law_word_row) (defScope s_law_word_row) .none kV10 dc10 pm10 an10 cd10 ct10), sl10⟩) (c10 : PySem.W.codeIn K cd10 "_law_word_row" = true) (k10 : PySem.W.keepIn K (.ref f10) = true)
    (a11 : PySem.W.nsIn K mainGlobals "_law_leaf" = some (some (.ref f11))) (l11 : K.lookup f11 = some ⟨oc11, od11, .func (PySem.W.fnOf "_law_leaf" "_law_leaf" (defArgs s_law_leaf) (defBody s_law_leaf) (defScope s_law_leaf) .none kV11 dc11 pm11 an11 cd11 ct11), sl11⟩) (c11 : PySem.W.codeIn K cd11 "_law_leaf" = true) (k11 : PySem.W.keepIn K (.ref f11) = true)
    (a12 : PySem.W.nsIn K mainGlobals "_law_tree" = some (some (.ref f12))) (l12 : K.lookup f12 = some ⟨oc12, od12, .func (PySem.W.fnOf "_law_tree" "_law_tree" (defArgs s_law_tree) (defBody s_law_tree) (defScope s_law_tree) .none kV12 dc12 pm12 an12 cd12 ct12), sl12⟩) (c12 : PySem.W.codeIn K cd12 "_law_tree" = true) (k12 : PySem.W.keepIn K (.ref f12) = true)
    (a13 : PySem.W.nsIn K mainGlobals "_law_deep" = some (some (.ref f13))) (l13 : K.lookup f13 = some ⟨oc13, od13, .func (PySem.W.fnOf "_law_deep" "_law_deep" (defArgs s_law_deep) (defBody s_law_deep) (defScope s_law_deep) .none kV13 dc13 pm13 an13 cd13 ct13), sl13⟩) (c13 : PySem.W.codeIn K cd13 "_law_deep" = true) (k13 : PySem.W.keepIn K (.ref f13) = true)
    (a14 : PySem.W.nsIn K mainGlobals "_law_parts" = some (some (.ref f14))) (l14 : K.lookup f14 = some ⟨oc14, od14, .func (PySem.W.fnOf "_law_parts" "_law_parts" (defArgs s_law_parts) (defBody s_law_parts) (defScope s_law_parts) .none kV14 dc14 pm14 an14 cd14 ct14), sl14⟩) (c14 : PySem.W.codeIn K cd14 "_law_parts" = true) (k14 : PySem.W.keepIn K (.ref f14) = true)
    (a15 : PySem.W.nsIn K mainGlobals "_law_subs" = some (some (.ref f15))) (l15 : K.lookup f15 = some ⟨oc15, od15, .func (PySem.W.fnOf "_law_subs" "_law_subs" (defArgs s_law_subs) (defBody s_law_subs) (defScope s_law_subs) .none kV15 dc15 pm15 an15 cd15 ct15), sl15⟩) (c15 : PySem.W.codeIn K cd15 "_law_subs" = true) (k15 : PySem.W.keepIn K (.ref f15) = true)
    (a16 : PySem.W.nsIn K mainGlobals "_law_same" = some (some (.ref f16))) (l16 : K.lookup f16 = some ⟨oc16, od16, .func (PySem.W.fnOf "_law_same" "_law_same" (defArgs s_law_same) (defBody s_law_same) (defScope s_law_same) .none kV16 dc16 pm16 an16 cd16 ct16), sl16⟩) (c16 : PySem.W.codeIn K cd16 "_law_same" = true) (k16 : PySem.W.keepIn K (.ref f16) = true)
    (a17 : PySem.W.nsIn K mainGlobals "_law_words" = some (some (.ref f17))) (l17 : K.lookup f17 = some ⟨oc17, od17, .func (PySem.W.fnOf "_law_words" "_law_words" (defArgs s_law_words) (defBody s_law_words) (defScope s_law_words) .none kV17 dc17 pm17 an17 cd17 ct17), sl17⟩) (c17 : PySem.W.codeIn K cd17 "_law_words" = true) (k17 : PySem.W.keepIn K (.ref f17) = true)
    (a18 : PySem.W.nsIn K mainGlobals "_law_triple" = some (some (.ref f18))) (l18 : K.lookup f18 = some ⟨oc18, od18, .func (PySem.W.fnOf "_law_triple" "_law_triple" (defArgs s_law_triple) (defBody s_law_triple) (defScope s_law_triple) .none kV18 dc18 pm18 an18 cd18 ct18), sl18⟩) (c18 : PySem.W.codeIn K cd18 "_law_triple" = true) (k18 : PySem.W.keepIn K (.ref f18) = true)
    (a19 : PySem.W.nsIn K mainGlobals "_law_drawn" = some (some (.ref f19))) (l19 : K.lookup f19 = some ⟨oc19, od19, .func (PySem.W.fnOf "_law_drawn" "_law_drawn" (defArgs s_law_drawn) (defBody s_law_drawn) (defScope s_law_drawn) .none kV19 dc19 pm19 an19 cd19 ct19), sl19⟩) (c19 : PySem.W.codeIn K cd19 "_law_drawn" = true) (k19 : PySem.W.keepIn K (.ref f19) = true)
    (a20 : PySem.W.nsIn K mainGlobals "law" = some (some (.ref f20))) (l20 : K.lookup f20 = some ⟨oc20, od20, .func (PySem.W.fnOf "law" "law" (defArgs s_law) (defBody s_law) (defScope s_law) .none kV20 dc20 pm20 an20 cd20 ct20), sl20⟩) (c20 : PySem.W.codeIn K cd20 "law" = true) (k20 : PySem.W.keepIn K (.ref f20) = true)
    (zlen : PySem.W.nsIn K mainGlobals "len" = some none) (zint : PySem.W.nsIn K mainGlobals "int" = some none) (zmin : PySem.W.nsIn K mainGlobals "min" = some none) (zlist : PySem.W.nsIn K mainGlobals "list" = some none) (ztuple : PySem.W.nsIn K mainGlobals "tuple" = some none) (zrange : PySem.W.nsIn K mainGlobals "range" = some none) (zisinstance : PySem.W.nsIn K mainGlobals "isinstance" = some none) (zstr : PySem.W.nsIn K mainGlobals "str" = some none) (zsorted : PySem.W.nsIn K mainGlobals "sorted" = some none) :
    ∃ fd : FuncData, (∀ (s : Shared) (v : Value), BindsTo s fd ⟨[v], []⟩ [("script", v)]) ∧ ∀ base : Heap, K.In base → base.Ns mainGlobals mg → FnOk l.prog w K mg base CX0 20 fa fd ["script"] (spLaw K) := by
  have e := hfa.symm.trans (PySem.W.mg_of X G a20)
  cases e
  have F_words_of := fun_mk (st := s_words_of) l0 c0 k0
  have b_words_of := F_words_of.binds (ps := P_words_of) fun _ _ _ _ _ _ us hl => match us, hl with | [_], _ => rfl
  have m_words_of := PySem.W.mg_of X G a0
  have F_operands_of := fun_mk (st := s_operands_of) l1 c1 k1
  have b_operands_of := F_operands_of.binds (ps := P_operands_of) fun _ _ _ _ _ _ us hl => match us, hl with | [_], _ => rfl
  have m_operands_of := PySem.W.mg_of X G a1
  have F_uses_of := fun_mk (st := s_uses_of) l2 c2 k2
  have b_uses_of := F_uses_of.binds (ps := P_uses_of) fun _ _ _ _ _ _ us hl => match us, hl with | [_], _ => rfl
  have m_uses_of := PySem.W.mg_of X G a2
  have F_ascending := fun_mk (st := s_ascending) l3 c3 k3
  have b_ascending := F_ascending.binds (ps := P_ascending) fun _ _ _ _ _ _ us hl => match us, hl with | [_, _], _ => rfl
  have m_ascending := PySem.W.mg_of X G a3
  have F_law_cell := fun_mk (st := s_law_cell) l4 c4 k4
  have b_law_cell := F_law_cell.binds (ps := P_law_cell) fun _ _ _ _ _ _ us hl => match us, hl with | [_, _], _ => rfl
  have m_law_cell := PySem.W.mg_of X G a4
  have F_law_feed := fun_mk (st := s_law_feed) l5 c5 k5
  have b_law_feed := F_law_feed.binds (ps := P_law_feed) fun _ _ _ _ _ _ us hl => match us, hl with | [_], _ => rfl
  have m_law_feed := PySem.W.mg_of X G a5
  have F_law_take := fun_mk (st := s_law_take) l6 c6 k6
  have b_law_take := F_law_take.binds (ps := P_law_take) fun _ _ _ _ _ _ us hl => match us, hl with | [_, _], _ => rfl
  have m_law_take := PySem.W.mg_of X G a6
  have F_law_number := fun_mk (st := s_law_number) l7 c7 k7
  have b_law_number := F_law_number.binds (ps := P_law_number) fun _ _ _ _ _ _ us hl => match us, hl with | [_], _ => rfl
  have m_law_number := PySem.W.mg_of X G a7
  have F_law_word := fun_mk (st := s_law_word) l8 c8 k8
  have b_law_word := F_law_word.binds (ps := P_law_word) fun _ _ _ _ _ _ us hl => match us, hl with | [_], _ => rfl
  have m_law_word := PySem.W.mg_of X G a8
  have F_law_near := fun_mk (st := s_law_near) l9 c9 k9
  have b_law_near := F_law_near.binds (ps := P_law_near) fun _ _ _ _ _ _ us hl => match us, hl with | [_, _], _ => rfl
  have m_law_near := PySem.W.mg_of X G a9
  have F_law_word_row := fun_mk (st := s_law_word_row) l10 c10 k10
  have b_law_word_row := F_law_word_row.binds (ps := P_law_word_row) fun _ _ _ _ _ _ us hl => match us, hl with | [_, _], _ => rfl
  have m_law_word_row := PySem.W.mg_of X G a10
  have F_law_leaf := fun_mk (st := s_law_leaf) l11 c11 k11
  have b_law_leaf := F_law_leaf.binds (ps := P_law_leaf) fun _ _ _ _ _ _ us hl => match us, hl with | [_, _], _ => rfl
  have m_law_leaf := PySem.W.mg_of X G a11
  have F_law_tree := fun_mk (st := s_law_tree) l12 c12 k12
  have b_law_tree := F_law_tree.binds (ps := P_law_tree) fun _ _ _ _ _ _ us hl => match us, hl with | [_, _, _, _, _, _, _], _ => rfl
  have m_law_tree := PySem.W.mg_of X G a12
  have F_law_deep := fun_mk (st := s_law_deep) l13 c13 k13
  have b_law_deep := F_law_deep.binds (ps := P_law_deep) fun _ _ _ _ _ _ us hl => match us, hl with | [_], _ => rfl
  have m_law_deep := PySem.W.mg_of X G a13
  have F_law_parts := fun_mk (st := s_law_parts) l14 c14 k14
  have b_law_parts := F_law_parts.binds (ps := P_law_parts) fun _ _ _ _ _ _ us hl => match us, hl with | [_], _ => rfl
  have m_law_parts := PySem.W.mg_of X G a14
  have F_law_subs := fun_mk (st := s_law_subs) l15 c15 k15
  have b_law_subs := F_law_subs.binds (ps := P_law_subs) fun _ _ _ _ _ _ us hl => match us, hl with | [_], _ => rfl
  have m_law_subs := PySem.W.mg_of X G a15
  have F_law_same := fun_mk (st := s_law_same) l16 c16 k16
  have b_law_same := F_law_same.binds (ps := P_law_same) fun _ _ _ _ _ _ us hl => match us, hl with | [_, _], _ => rfl
  have m_law_same := PySem.W.mg_of X G a16
  have F_law_words := fun_mk (st := s_law_words) l17 c17 k17
  have b_law_words := F_law_words.binds (ps := P_law_words) fun _ _ _ _ _ _ us hl => match us, hl with | [_, _], _ => rfl
  have m_law_words := PySem.W.mg_of X G a17
  have F_law_triple := fun_mk (st := s_law_triple) l18 c18 k18
  have b_law_triple := F_law_triple.binds (ps := P_law_triple) fun _ _ _ _ _ _ us hl => match us, hl with | [_], _ => rfl
  have m_law_triple := PySem.W.mg_of X G a18
  have F_law_drawn := fun_mk (st := s_law_drawn) l19 c19 k19
  have b_law_drawn := F_law_drawn.binds (ps := P_law_drawn) fun _ _ _ _ _ _ us hl => match us, hl with | [_, _, _], _ => rfl
  have m_law_drawn := PySem.W.mg_of X G a19
  have F_law := fun_mk (st := s_law) l20 c20 k20
  have b_law := F_law.binds (ps := P_law) fun _ _ _ _ _ _ us hl => match us, hl with | [_], _ => rfl
  have m_law := PySem.W.mg_of X G a20
  have mlen := PySem.W.mg_none_of X G zlen
  have mint := PySem.W.mg_none_of X G zint
  have mmin := PySem.W.mg_none_of X G zmin
  have mlist := PySem.W.mg_none_of X G zlist
  have mtuple := PySem.W.mg_none_of X G ztuple
  have mrange := PySem.W.mg_none_of X G zrange
  have misinstance := PySem.W.mg_none_of X G zisinstance
  have mstr := PySem.W.mg_none_of X G zstr
  have msorted := PySem.W.mg_none_of X G zsorted
  refine ⟨PySem.W.fnOf "law" "law" (defArgs s_law) (defBody s_law) (defScope s_law) .none kV20 dc20 pm20 an20 cd20 ct20, fun s v => .of_eq rfl, fun base _ _ => ?_⟩
  have T : Ok l.prog w K mg base 1 "_law_take" P_law_take spTake := ⟨_, _, ok_take (k := 0) F_law_take mint, b_law_take, k6, m_law_take⟩
  have FE : Ok l.prog w K mg base 1 "_law_feed" P_law_feed spFeed := ⟨_, _, ok_feed (k := 0) F_law_feed mint, b_law_feed, k5, m_law_feed⟩
  have CB : Ok l.prog w K mg base 1 "_law_cell" P_law_cell (spCellv K) := ⟨_, _, ok_cell (k := 0) F_law_cell mint mlen, b_law_cell, k4, m_law_cell⟩
  have NU : Ok l.prog w K mg base 2 "_law_number" P_law_number spNumber := ⟨_, _, ok_number F_law_number mmin T, b_law_number, k7, m_law_number⟩
  have DE : Ok l.prog w K mg base 2 "_law_deep" P_law_deep spDeep := ⟨_, _, ok_deep F_law_deep T, b_law_deep, k13, m_law_deep⟩
  have WO : Ok l.prog w K mg base 2 "_law_word" P_law_word spWord := ⟨_, _, ok_word F_law_word mrange T, b_law_word, k8, m_law_word⟩
  have NE : Ok l.prog w K mg base 2 "_law_near" P_law_near spNear := ⟨_, _, ok_near F_law_near mlen T, b_law_near, k9, m_law_near⟩
  have WR : Ok l.prog w K mg base 3 "_law_word_row" P_law_word_row spWordRow := ⟨_, _, ok_word_row F_law_word_row mrange (T.mono (by decide)) WO NE, b_law_word_row, k10, m_law_word_row⟩
  have LF : Ok l.prog w K mg base 3 "_law_leaf" P_law_leaf (spLeaf K) := ⟨_, _, ok_leaf F_law_leaf mlen (T.mono (by decide)) NU, b_law_leaf, k11, m_law_leaf⟩
  have TR : ∀ n : Nat, Ok l.prog w K mg base (3 + n) "_law_tree" P_law_tree (spTree K n) := fun n => by
    induction n with
    | zero => exact ⟨_, _, none_ok fun vs H Q E h => (by obtain ⟨a, b, c, d, g, n, tight, ns, as, ms, _, _, _, _, _, _, h1, h2, _⟩ := h; omega), b_law_tree, k12, m_law_tree⟩
    | succ n ih => exact ⟨_, _, ok_tree F_law_tree mlen mint mrange mtuple (T.mono (show 1 ≤ 3 + n by omega)) (LF.mono (show 3 ≤ 3 + n by omega)) ih, b_law_tree, k12, m_law_tree⟩
  have PA : Ok l.prog w K mg base 1 "_law_parts" P_law_parts (spParts K) := ⟨_, _, ok_parts (k := 0) F_law_parts mlist, b_law_parts, k14, m_law_parts⟩
  have SU : ∀ n : Nat, Ok l.prog w K mg base (1 + n) "_law_subs" P_law_subs (spSubs K n) := fun n => by
    induction n with
    | zero => exact ⟨_, _, none_ok fun vs H Q E h => (by obtain ⟨v, e, _, x, hd, _⟩ := h; have := Ex.dep1 e; omega), b_law_subs, k15, m_law_subs⟩
    | succ n ih => exact ⟨_, _, ok_subs F_law_subs (PA.mono (show 1 ≤ 1 + n by omega)) ih, b_law_subs, k15, m_law_subs⟩
  have OP : Ok l.prog w K mg base 1 "operands_of" P_operands_of (spOps K) := ⟨_, _, ok_ops (k := 0) F_operands_of, b_operands_of, k1, m_operands_of⟩
  have US : ∀ n : Nat, Ok l.prog w K mg base (1 + n) "uses_of" P_uses_of (spUses K n) := fun n => by
    induction n with
    | zero => exact ⟨_, _, none_ok fun vs H Q E h => (by obtain ⟨v, e, _, x, hd, _⟩ := h; have := Ex.dep1 e; omega), b_uses_of, k2, m_uses_of⟩
    | succ n ih => exact ⟨_, _, ok_uses F_uses_of (OP.mono (show 1 ≤ 1 + n by omega)) ih, b_uses_of, k2, m_uses_of⟩
  have AS : Ok l.prog w K mg base 1 "_ascending" P_ascending (spAsc K) := ⟨_, _, ok_asc (k := 0) F_ascending msorted mtuple, b_ascending, k3, m_ascending⟩
  have WD : Ok l.prog w K mg base 14 "words_of" P_words_of (spWords K) := ⟨_, _, ok_words_of F_words_of (US 12) (AS.mono (by decide)), b_words_of, k0, m_words_of⟩
  have LW : Ok l.prog w K mg base 1 "_law_words" P_law_words (spLW K) := ⟨_, _, ok_law_words (k := 0) F_law_words msorted, b_law_words, k17, m_law_words⟩
  have LT : Ok l.prog w K mg base 14 "_law_triple" P_law_triple (spTriple K) := ⟨_, _, ok_triple F_law_triple (SU 12) (LW.mono (by decide)), b_law_triple, k18, m_law_triple⟩
  have LD : Ok l.prog w K mg base 16 "_law_drawn" P_law_drawn (spDrawn K) := ⟨_, _, ok_drawn F_law_drawn (FE.mono (by decide)) (T.mono (by decide)) (DE.mono (by decide)) (TR 12), b_law_drawn, k19, m_law_drawn⟩
  have SA : Ok l.prog w K mg base 1 "_law_same" P_law_same (spSame K) := ⟨_, _, ok_same (k := 0) F_law_same misinstance mtuple mstr mlen mrange, b_law_same, k16, m_law_same⟩
  exact ok_law F_law (CB.mono (by decide)) (FE.mono (by decide)) (T.mono (by decide)) (WR.mono (by decide)) (LD.mono (by decide)) ((SU 12).mono (by decide)) (WD.mono (by decide)) (LT.mono (by decide)) (SA.mono (by decide))
end K02
open PySem PySem.W PyProof.Rows
set_option maxRecDepth 100000 in
set_option maxHeartbeats 0 in
theorem PySem.Challenge.cw_stillinstep_k02_words_of_expressions_holds : PySem.Challenge.rw_stillinstep_k02_words_of_expressions.Holds := by
  w_on; o_law; k_head; (case hw => w_witness2)
  k_fill
  refine L2.walk_of (l := PySem.Challenge.rw_stillinstep_k02_words_of_expressions) (n := 63) (k := 20) (x := "script") (CX := fun _ => L2.CX0) (sp := fun w => K02.spLaw _) rfl (by decide) rfl ⟨rfl, by decide, by decide⟩ (fun w h Y => PySem.W.kIn_of Y) ?F (fun _ _ a ns hl _ hS => ⟨a, ns, rfl, hS, hl, fun _ => rfl⟩) (fun _ _ _ _ _ h => h)
  case F =>
    intro w mg fa h KX G hmg
    refine' K02.all_mk KX G hmg ?a0 ?l0 ?c0 ?k0 ?a1 ?l1 ?c1 ?k1 ?a2 ?l2 ?c2 ?k2 ?a3 ?l3 ?c3 ?k3 ?a4 ?l4 ?c4 ?k4 ?a5 ?l5 ?c5 ?k5 ?a6 ?l6 ?c6 ?k6 ?a7 ?l7 ?c7 ?k7 ?a8 ?l8 ?c8 ?k8 ?a9 ?l9 ?c9 ?k9 ?a10 ?l10 ?c10 ?k10 ?a11 ?l11 ?c11 ?k11 ?a12 ?l12 ?c12 ?k12 ?a13 ?l13 ?c13 ?k13 ?a14 ?l14 ?c14 ?k14 ?a15 ?l15 ?c15 ?k15 ?a16 ?l16 ?c16 ?k16 ?a17 ?l17 ?c17 ?k17 ?a18 ?l18 ?c18 ?k18 ?a19 ?l19 ?c19 ?k19 ?a20 ?l20 ?c20 ?k20 ?zlen ?zint ?zmin ?zlist ?ztuple ?zrange ?zisinstance ?zstr ?zsorted
    (case a0 => k_is)
    (case l0 => k_is)
    (case c0 => k_is)
    (case k0 => k_is)
    (case a1 => k_is)
    (case l1 => k_is)
    (case c1 => k_is)
    (case k1 => k_is)
    (case a2 => k_is)
    (case l2 => k_is)
    (case c2 => k_is)
    (case k2 => k_is)
    (case a3 => k_is)
    (case l3 => k_is)
    (case c3 => k_is)
    (case k3 => k_is)
    (case a4 => k_is)
    (case l4 => k_is)
    (case c4 => k_is)
    (case k4 => k_is)
    (case a5 => k_is)
    (case l5 => k_is)
    (case c5 => k_is)
    (case k5 => k_is)
    (case a6 => k_is)
    (case l6 => k_is)
    (case c6 => k_is)
    (case k6 => k_is)
    (case a7 => k_is)
    (case l7 => k_is)
    (case c7 => k_is)
    (case k7 => k_is)
    (case a8 => k_is)
    (case l8 => k_is)
    (case c8 => k_is)
    (case k8 => k_is)
    (case a9 => k_is)
    (case l9 => k_is)
    (case c9 => k_is)
    (case k9 => k_is)
    (case a10 => k_is)
    (case l10 => k_is)
    (case c10 => k_is)
    (case k10 => k_is)
    (case a11 => k_is)
    (case l11 => k_is)
    (case c11 => k_is)
    (case k11 => k_is)
    (case a12 => k_is)
    (case l12 => k_is)
    (case c12 => k_is)
    (case k12 => k_is)
    (case a13 => k_is)
    (case l13 => k_is)
    (case c13 => k_is)
    (case k13 => k_is)
    (case a14 => k_is)
    (case l14 => k_is)
    (case c14 => k_is)
    (case k14 => k_is)
    (case a15 => k_is)
    (case l15 => k_is)
    (case c15 => k_is)
    (case k15 => k_is)
    (case a16 => k_is)
    (case l16 => k_is)
    (case c16 => k_is)
    (case k16 => k_is)
    (case a17 => k_is)
    (case l17 => k_is)
    (case c17 => k_is)
    (case k17 => k_is)
    (case a18 => k_is)
    (case l18 => k_is)
    (case c18 => k_is)
    (case k18 => k_is)
    (case a19 => k_is)
    (case l19 => k_is)
    (case c19 => k_is)
    (case k19 => k_is)
    (case a20 => k_is)
    (case l20 => k_is)
    (case c20 => k_is)
    (case k20 => k_is)
    (case zlen => k_is)
    (case zint => k_is)
    (case zmin => k_is)
    (case zlist => k_is)
    (case ztuple => k_is)
    (case zrange => k_is)
    (case zisinstance => k_is)
    (case zstr => k_is)
    (case zsorted => k_is)
