import PyProof.Rows.All
import Wide.All
import OpenK.AllK
import Wide.FinOn
import HandS.ForMost
import HandS.IsInst
import HandS.Codes
import PySem.Challenge.RW_stillinstep_k17_lines_of_places
set_option Elab.async false
set_option linter.all false
set_option maxRecDepth 100000
namespace Vk
open PySem L2
/-! ### a def that stands and keeps its promise, by its name -/
structure Ok (P : Program) (w : World) (K : PySem.W.Frag) (mg : Str → Option Value) (base : Heap) (k : Nat) (x : Str) (ps : List Str) (sp : Sp) : Prop where
  ex : ∃ (f : Addr) (fd : FuncData), FnOk P w K mg base CX0 k f fd ps sp ∧ Binds K fd ps [] ∧ PySem.W.keepIn K (.ref f) = true ∧ mg x = some (.ref f)
theorem Ok.mono {P w K mg base j k x ps sp} (O : Ok P w K mg base j x ps sp) (h : j ≤ k) : Ok P w K mg base k x ps sp := by
  obtain ⟨f, fd, F, r⟩ := O.ex
  exact ⟨f, fd, F.mono h, r⟩
theorem pe_c {X : Cx} {k : Nat} {ps : List Str} {sp : Sp} {x : Str} {p pos : Pos} {e : Expr} {es : List Expr} {t : TA} (O : Ok X.prog X.w X.K X.mg X.base k x ps sp) (hr : Room k X.A) (hg : Gl X x)
    (ha : PA X (e :: es) t) (hdb : (x == ("__debug__" : Str)) = false := by decide) (he : starEach (e :: es) X.env = (false, eval e X.env) :: starEach es X.env := by rfl) (hpl : (backTo pos (starEach es X.env)).any (·.1) = false := by rfl) :
    PE X (.Call (.Name x p) (e :: es) [] pos) (tCall sp [] E0 t) := by
  obtain ⟨f, fd, F, b, kp, m⟩ := O.ex
  exact pe_call F hr hg m kp b .nil pass0 ha hdb he hpl
/-- f(k = v, ..): keywords alone -/
theorem pe_kw0 {X : Cx} {k : Nat} {f : Addr} {fd : FuncData} {ps ks : List Str} {sp : Sp} {x : Str} {p pos : Pos} {kws : List Keyword} {tk : TA} {g : List Value → List Value → List Value} {gV : List V → List V → List V}
    (F : FnOk X.prog X.w X.K X.mg X.base CX0 k f fd ps sp) (hr : Room k X.A) (hg : Gl X x) (hm : X.mg x = some (.ref f)) (hk : PySem.W.keepIn X.K (.ref f) = true) (hb : KBinds X.K fd ps ks g gV) (hkw : PK X kws tk)
    (hall : (backToKw pos (keywordEach kws X.env)).all (·.1.isSome) = true := by rfl) (hks : (backToKw pos (keywordEach kws X.env)).filterMap (·.1) = ks := by rfl) (hdb : (x == ("__debug__" : Str)) = false := by decide)
    (hpl : ((backTo pos (starEach [] X.env)).any (·.1) || (backToKw pos (keywordEach kws X.env)).any (·.1.isNone)) = false := by rfl) :
    PE X (.Call (.Name x p) [] kws pos) (tCallK sp gV E0 tNil tk) := by
  refine ⟨fun pins s σ H Q I h => ?_⟩
  refine wpAny_Call_Name_kw (ld_glob I hg hm ?_ hdb)
  refine PySem.W.callWith_KW0 (h₀ := X.base) I.ok.mod.kin hk hall ?_ hpl
  refine thn (hkw.run pos pins s σ H _ I h) fun ws s2 ⟨zs, H2, I2, rz, q2⟩ => ⟨I2.kIn, ?_⟩
  rw [hks]
  exact run_fnk (us := []) (vs := []) F hr hb pass0 I2 .nil rz q2
/-- two keywords in the other order -/
def swapG {α : Type} : List α → List α → List α
  | [], [a, b] => [b, a]
  | _, _ => []
theorem kbinds_swap {K : PySem.W.Frag} {x qual a b : Str} {st : Stmt} {f : Addr} {fd : FuncData} (F : Fun K x qual st f fd)
    (h : ∀ (kV doc pm : Value) (an : Option Addr) (cdv ct : Value) (u v : Value), bindArgs (PySem.W.fnOf x qual (defArgs st) (defBody st) (defScope st) .none kV doc pm an cdv ct) ⟨[], [(b, u), (a, v)]⟩ = pure [(a, v), (b, u)]) : KBinds K fd [a, b] [b, a] swapG swapG := by
  obtain ⟨oc, od, kV, doc, pm, an, cdv, ct, osl, rfl, lk, hcd⟩ := F.ex
  refine ⟨fun s us ws _ hl => ?_, fun {vs us zs ws} r1 r2 => ?_⟩
  · match us, ws, hl with
    | [], [u, v], _ => exact .of_eq (h kV doc pm an cdv ct u v)
  · cases r1 with
    | nil =>
      cases r2 with
      | nil => exact .nil
      | cons x r3 =>
        cases r3 with
        | nil => exact .nil
        | cons y r4 =>
          cases r4 with
          | nil => exact .cons y (.cons x .nil)
          | cons z r5 => exact .nil
    | cons x r3 => exact .nil
/-! ### heaps -/
theorem same_new {H : Hp} {p : Addr} (h : H p = none) (o : HO) : Same H (upd H p o) := fun b u q => by rw [upd_ne (ne_of_none q h)]; exact q
theorem Same.tup {K : PySem.W.Frag} {H H' : Hp} {a : Addr} {xs : List V} (e : Same H H') (h : SqT K H a xs) : SqT K H' a xs := by
  rcases h with (h | ⟨o, h⟩) | h
  · exact .inl (.inl (e _ _ h))
  · exact .inl (.inr ⟨o, e _ _ h⟩)
  · exact .inr h
/-- a feed: a list of three ints -/
def Fd (H : Hp) (a : Addr) : Prop := ∃ x y z : Int, H a = some (.lst [.int x, .int y, .int z])
/-- all but the list at a is as it was -/
def Stp (a : Addr) (H H' : Hp) : Prop := (∀ b o, b ≠ a → H b = some o → H' b = some o) ∧ Fd H' a
theorem Stp.refl {a : Addr} {H : Hp} (h : Fd H a) : Stp a H H := ⟨fun _ _ _ q => q, h⟩
theorem Stp.trans {a : Addr} {H H1 H2 : Hp} (h : Stp a H H1) (g : Stp a H1 H2) : Stp a H H2 := ⟨fun b o n q => g.1 b o n (h.1 b o n q), g.2⟩
theorem Fd.same {a : Addr} {H H' : Hp} (h : Fd H a) (s : Same H H') : Fd H' a := by
  obtain ⟨x, y, z, e⟩ := h
  exact ⟨x, y, z, s _ _ e⟩
theorem Stp.same {a : Addr} {H H1 H2 : Hp} (h : Stp a H H1) (s : Same H1 H2) : Stp a H H2 := ⟨fun b o n q => s _ _ (h.1 b o n q), h.2.same s⟩
theorem Stp.of {a : Addr} {H H' : Hp} (h : Fd H a) (s : Same H H') : Stp a H H' := (Stp.refl h).same s
theorem Stp.tup {K : PySem.W.Frag} {a b : Addr} {H H' : Hp} {xs : List V} (h : Fd H a) (s : Stp a H H') (q : SqT K H b xs) : SqT K H' b xs := by
  obtain ⟨x, y, z, e⟩ := h
  rcases q with (q | ⟨o, q⟩) | q
  · exact .inl (.inl (s.1 _ _ (ne_of q e (by intro z; cases z)) q))
  · exact .inl (.inr ⟨o, s.1 _ _ (ne_of q e (by intro z; cases z)) q⟩)
  · exact .inr q
/-- tuples stay -/
def Tu (K : PySem.W.Frag) (H H' : Hp) : Prop := ∀ b xs, SqT K H b xs → SqT K H' b xs
theorem Same.tu {K : PySem.W.Frag} {H H' : Hp} (e : Same H H') : Tu K H H' := fun _ _ h => Vk.Same.tup e h
theorem Stp.tu {K : PySem.W.Frag} {a : Addr} {H H' : Hp} (s : Stp a H H') (h : Fd H a) : Tu K H H' := fun _ _ q => s.tup h q
theorem Tu.trans {K : PySem.W.Frag} {H H1 H2 : Hp} (a : Tu K H H1) (b : Tu K H1 H2) : Tu K H H2 := fun _ _ q => b _ _ (a _ _ q)
theorem Tu.refl {K : PySem.W.Frag} {H : Hp} : Tu K H H := fun _ _ q => q
/-! ### places -/
theorem atI_in {α : Type} {xs : List α} {i : Int} (h0 : 0 ≤ i) (h : i < xs.length) : ∃ v, v ∈ xs ∧ atI xs i = some v := by
  have hk : i.toNat < xs.length := by omega
  have ek : ((i.toNat : Nat) : Int) = i := by omega
  have q : atI xs ((i.toNat : Nat) : Int) = some (xs[i.toNat]) := atI_nat (List.getElem?_eq_getElem hk)
  rw [ek] at q
  exact ⟨xs[i.toNat], List.getElem_mem hk, q⟩
/-! ### the draws -/
def spTake : Sp := fun vs H Q _ => ∃ (a : Addr) (n : Int), vs = [.ref a, .int n] ∧ Fd H a ∧ 0 < n ∧ n < 1073741824 ∧ ∀ r H', 0 ≤ r → r < n → Stp a H H' → Q (.int r) H'
def spFeed : Sp := fun vs H Q _ => ∃ (n : Int), vs = [.int n] ∧ ∀ p H', Same H H' → H p = none → Fd H' p → Q (.ref p) H'
def spCell (K : PySem.W.Frag) : Sp := fun vs H Q _ => ∃ (a : Addr) (ns : List Int) (k : Int), vs = [.ref a, .int k] ∧ SqL K H a (ns.map V.int) ∧ 0 ≤ k ∧ k < 1000 ∧ ∀ n : Int, Q (.int n) H
theorem fmod_lo {a b : Int} (h : 0 < b) : 0 ≤ a.fmod b := Int.fmod_nonneg_of_pos a h
theorem fmod_hi {a b : Int} (h : 0 < b) : a.fmod b < b := Int.fmod_lt_of_pos a h
theorem ite2' {c A B : Prop} [Decidable c] (h1 : c → A) (h2 : ¬ c → B) : if decide c = true then A else B := ite2 (fun h => h1 (of_decide_eq_true h)) (fun h => h2 (fun z => h (decide_eq_true z)))
theorem execs_app (xs ys : List Stmt) (env : Env) : execs (xs ++ ys) env = (execs xs env >>= fun f => match f with | .next => execs ys env | f => pure f) := by
  induction xs with
  | nil =>
    show execs ys env = (pure Flow.next >>= _)
    rw [pure_bind]
  | cons st rest ih =>
    show (exec st env >>= fun f => match f with | .next => execs (rest ++ ys) env | f => pure f) = ((exec st env >>= fun f => match f with | .next => execs rest env | f => pure f) >>= _)
    rw [bind_assoc]
    refine congrArg _ (funext fun f => ?_)
    cases f with
    | next => exact ih
    | ret v => exact (pure_bind _ _).symm
    | brk => exact (pure_bind _ _).symm
    | cont => exact (pure_bind _ _).symm
/-- a block cut behind its first n statements: what follows is shown once, from Mid -/
theorem pss_cutAt {X : Cx} {l : List Stmt} {t u : TS} (n : Nat) (h1 : PSs X (l.take n) t) (h2 : PSs X (l.drop n) u) : PSs X l (C8.tCut t u) := by
  refine ⟨fun pins s σ H D I h => ?_⟩
  obtain ⟨Mid, hm, hu⟩ := h
  rw [← List.take_append_drop n l, execs_app]
  refine wpAny_bind (thn (h1.run pins s σ H { D with nx := Mid } I hm) fun f s1 q => ?_)
  cases f with
  | next =>
    obtain ⟨σ', H', I', q⟩ := q
    exact h2.run pins s1 σ' H' D I' (hu σ' H' q)
  | ret v => exact wpAny_pure q
  | brk => exact wpAny_pure q
  | cont => exact wpAny_pure q
/-! ### tests whose answer is known -/
theorem itY {A B : Prop} {x : V} (h : A) : if decide (x = x) = true then A else B := by rw [decide_eq_true rfl]; exact iteT h
theorem itN {A B : Prop} {x y : V} (n : x ≠ y) (h : B) : if decide (x = y) = true then A else B := by rw [decide_eq_false n]; exact iteF h
theorem itYn {A B : Prop} {x : V} (h : B) : if (!decide (x = x)) = true then A else B := by rw [decide_eq_true rfl]; exact iteF h
theorem itNn {A B : Prop} {x y : V} (n : x ≠ y) (h : A) : if (!decide (x = y)) = true then A else B := by rw [decide_eq_false n]; exact iteT h
theorem strNe {x y : Str} (h : x ≠ y) : V.str x ≠ V.str y := fun z => h (V.str.inj z)
end Vk
namespace Vk
open PySem L2
/-- expressions -/
inductive Ex where
  | num (n : Int) | nam (w : Str) | op (s : Str) (l r : Ex) | rd (w : Str) (l : Ex)
  | c1 (w : Str) (a : Ex) | c2 (w : Str) (a b : Ex) | c3 (w : Str) (a b c : Ex)
abbrev okW (w : Str) : Prop := PyData.canLay0 (.str w) = true
namespace Ex
def dep : Ex → Nat
  | num _ => 1 | nam _ => 1
  | op _ l r => max l.dep r.dep + 1
  | rd _ l => l.dep + 1
  | c1 _ a => a.dep + 1
  | c2 _ a b => max a.dep b.dep + 1
  | c3 _ a b c => max a.dep (max b.dep c.dep) + 1
def ok : Ex → Prop
  | num _ => True | nam w => okW w
  | op s l r => okW s ∧ l.ok ∧ r.ok
  | rd w l => okW w ∧ l.ok
  | c1 w a => okW w ∧ a.ok
  | c2 w a b => okW w ∧ a.ok ∧ b.ok
  | c3 w a b c => okW w ∧ a.ok ∧ b.ok ∧ c.ok
def data : Ex → PyData
  | num n => .tuple [.str "number", .int n]
  | nam w => .tuple [.str "name", .str w]
  | op s l r => .tuple [.str "op", .str s, l.data, r.data]
  | rd w l => .tuple [.str "read", .str w, l.data]
  | c1 w a => .tuple [.str "call", .str w, .tuple [a.data]]
  | c2 w a b => .tuple [.str "call", .str w, .tuple [a.data, b.data]]
  | c3 w a b c => .tuple [.str "call", .str w, .tuple [a.data, b.data, c.data]]
/-- it stands there -/
def At (K : PySem.W.Frag) (H : Hp) : Ex → V → Prop
  | num n, v => ∃ a, v = .ref a ∧ SqT K H a [.str "number", .int n]
  | nam w, v => ∃ a, v = .ref a ∧ SqT K H a [.str "name", .str w]
  | op s l r, v => ∃ a x y, v = .ref a ∧ SqT K H a [.str "op", .str s, x, y] ∧ l.At K H x ∧ r.At K H y
  | rd w l, v => ∃ a x, v = .ref a ∧ SqT K H a [.str "read", .str w, x] ∧ l.At K H x
  | c1 w l, v => ∃ a t x, v = .ref a ∧ SqT K H a [.str "call", .str w, .ref t] ∧ SqT K H t [x] ∧ l.At K H x
  | c2 w l r, v => ∃ a t x y, v = .ref a ∧ SqT K H a [.str "call", .str w, .ref t] ∧ SqT K H t [x, y] ∧ l.At K H x ∧ r.At K H y
  | c3 w l r q, v => ∃ a t x y z, v = .ref a ∧ SqT K H a [.str "call", .str w, .ref t] ∧ SqT K H t [x, y, z] ∧ l.At K H x ∧ r.At K H y ∧ q.At K H z
theorem At.tu {K : PySem.W.Frag} {H H' : Hp} (t : Tu K H H') : ∀ {e : Ex} {v : V}, e.At K H v → e.At K H' v
  | num _, _, ⟨a, e, h⟩ => ⟨a, e, t _ _ h⟩
  | nam _, _, ⟨a, e, h⟩ => ⟨a, e, t _ _ h⟩
  | op _ _ _, _, ⟨a, x, y, e, h, h1, h2⟩ => ⟨a, x, y, e, t _ _ h, At.tu t h1, At.tu t h2⟩
  | rd _ _, _, ⟨a, x, e, h, h1⟩ => ⟨a, x, e, t _ _ h, At.tu t h1⟩
  | c1 _ _, _, ⟨a, p, x, e, h, h', h1⟩ => ⟨a, p, x, e, t _ _ h, t _ _ h', At.tu t h1⟩
  | c2 _ _ _, _, ⟨a, p, x, y, e, h, h', h1, h2⟩ => ⟨a, p, x, y, e, t _ _ h, t _ _ h', At.tu t h1, At.tu t h2⟩
  | c3 _ _ _ _, _, ⟨a, p, x, y, z, e, h, h', h1, h2, h3⟩ => ⟨a, p, x, y, z, e, t _ _ h, t _ _ h', At.tu t h1, At.tu t h2, At.tu t h3⟩
theorem At.dp {K : PySem.W.Frag} {H : Hp} : ∀ {e : Ex} {v : V}, e.At K H v → Dp K H v e.data
  | num _, _, ⟨a, e, h⟩ => by subst e; exact .tup h (.cons (.str _) (.cons (.int _) .nil))
  | nam _, _, ⟨a, e, h⟩ => by subst e; exact .tup h (.cons (.str _) (.cons (.str _) .nil))
  | op _ _ _, _, ⟨a, x, y, e, h, h1, h2⟩ => by subst e; exact .tup h (.cons (.str _) (.cons (.str _) (.cons (At.dp h1) (.cons (At.dp h2) .nil))))
  | rd _ _, _, ⟨a, x, e, h, h1⟩ => by subst e; exact .tup h (.cons (.str _) (.cons (.str _) (.cons (At.dp h1) .nil)))
  | c1 _ _, _, ⟨a, p, x, e, h, h', h1⟩ => by subst e; exact .tup h (.cons (.str _) (.cons (.str _) (.cons (.tup h' (.cons (At.dp h1) .nil)) .nil)))
  | c2 _ _ _, _, ⟨a, p, x, y, e, h, h', h1, h2⟩ => by subst e; exact .tup h (.cons (.str _) (.cons (.str _) (.cons (.tup h' (.cons (At.dp h1) (.cons (At.dp h2) .nil))) .nil)))
  | c3 _ _ _ _, _, ⟨a, p, x, y, z, e, h, h', h1, h2, h3⟩ => by subst e; exact .tup h (.cons (.str _) (.cons (.str _) (.cons (.tup h' (.cons (At.dp h1) (.cons (At.dp h2) (.cons (At.dp h3) .nil)))) .nil)))
theorem can : ∀ {e : Ex}, e.ok → e.data.canLay0 = true
  | num _, _ => by simp only [data, PyData.canLay0, PyData.canLayAll0]; decide +kernel
  | nam w, h => by
    have h1 : okW w := h
    have h0 : okW "name" := by decide +kernel
    show (PyData.canLay0 (.str "name") && (PyData.canLay0 (.str w) && true)) = true
    rw [h0, h1]; rfl
  | op s l r, h => by
    have h0 : okW "op" := by decide +kernel
    show (PyData.canLay0 (.str "op") && (PyData.canLay0 (.str s) && (l.data.canLay0 && (r.data.canLay0 && true)))) = true
    rw [h0, h.1, can h.2.1, can h.2.2]; rfl
  | rd w l, h => by
    have h0 : okW "read" := by decide +kernel
    show (PyData.canLay0 (.str "read") && (PyData.canLay0 (.str w) && (l.data.canLay0 && true))) = true
    rw [h0, h.1, can h.2]; rfl
  | c1 w a, h => by
    have h0 : okW "call" := by decide +kernel
    show (PyData.canLay0 (.str "call") && (PyData.canLay0 (.str w) && ((a.data.canLay0 && true) && true))) = true
    rw [h0, h.1, can h.2]; rfl
  | c2 w a b, h => by
    have h0 : okW "call" := by decide +kernel
    show (PyData.canLay0 (.str "call") && (PyData.canLay0 (.str w) && ((a.data.canLay0 && (b.data.canLay0 && true)) && true))) = true
    rw [h0, h.1, can h.2.1, can h.2.2]; rfl
  | c3 w a b c, h => by
    have h0 : okW "call" := by decide +kernel
    show (PyData.canLay0 (.str "call") && (PyData.canLay0 (.str w) && ((a.data.canLay0 && (b.data.canLay0 && (c.data.canLay0 && true))) && true))) = true
    rw [h0, h.1, can h.2.1, can h.2.2.1, can h.2.2.2]; rfl
theorem ddep : ∀ e : Ex, e.data.depth ≤ 2 * e.dep
  | num _ => by show max 0 (max 0 0) + 1 ≤ 2 * 1; decide
  | nam _ => by show max 0 (max 0 0) + 1 ≤ 2 * 1; decide
  | op _ l r => by
    have := ddep l; have := ddep r
    show max 0 (max 0 (max l.data.depth (max r.data.depth 0))) + 1 ≤ 2 * (max l.dep r.dep + 1); omega
  | rd _ l => by
    have := ddep l
    show max 0 (max 0 (max l.data.depth 0)) + 1 ≤ 2 * (l.dep + 1); omega
  | c1 _ l => by
    have := ddep l
    show max 0 (max 0 (max (max l.data.depth 0 + 1) 0)) + 1 ≤ 2 * (l.dep + 1); omega
  | c2 _ l r => by
    have := ddep l; have := ddep r
    show max 0 (max 0 (max (max l.data.depth (max r.data.depth 0) + 1) 0)) + 1 ≤ 2 * (max l.dep r.dep + 1); omega
  | c3 _ l r q => by
    have := ddep l; have := ddep r; have := ddep q
    show max 0 (max 0 (max (max l.data.depth (max r.data.depth (max q.data.depth 0)) + 1) 0)) + 1 ≤ 2 * (max l.dep (max r.dep q.dep) + 1); omega
theorem shaped {e : Ex} (h : e.ok) (d : e.dep ≤ 32) : SeqAt.shaped e.data = true := by
  have := ddep e
  unfold SeqAt.shaped
  rw [can h, decide_eq_true (show e.data.depth ≤ 64 by omega)]
  rfl
end Ex
end Vk
namespace Vk
open PySem L2
/-- one of a written list, drawn -/
theorem rd_menu {K : PySem.W.Frag} {σ : St} {H : Hp} {Q : VK} {a : Addr} {n : Int} {i : Nat} {tl : TE} (xs : List V) (hσ : σ[i]? = some (some (.ref a))) (hF : Fd H a) (hn : (xs.length : Int) = n) (n0 : 0 < n) (n1 : n < 1000)
    (hl : tl σ H = fun Q => xs.length ≤ sizeLine ∧ ∀ l, H l = none → Q (.ref l) (upd H l (.lst xs))) (q : ∀ v H', v ∈ xs → Stp a H H' → Q v H') :
    tOp (rIxL K) tl (tCall spTake [] E0 (tCons (tVar i) (tCons (tC (.int n)) tNil))) σ H Q := by
  show tl σ H _
  rw [hl]
  refine ⟨Nat.le_of_lt (small1000 (by omega)), fun l el => ?_⟩
  refine ⟨_, hσ, a, n, rfl, hF.same (same_new el _), n0, by omega, fun r H' r0 r1 s => ?_⟩
  obtain ⟨v, vm, ev⟩ := atI_in (xs := xs) r0 (by omega)
  have na : l ≠ a := by
    obtain ⟨x, y, z, e⟩ := hF
    exact (ne_of_none e el).symm
  refine ⟨_, _, _, _, rfl, rfl, SqL.of (s.1 _ _ na upd_same), ev, q v H' vm ?_⟩
  exact (Stp.of hF (same_new el _)).trans s
theorem rd_menuS {K : PySem.W.Frag} {σ : St} {H : Hp} {Q : VK} {a : Addr} {n : Int} {i : Nat} {tl : TE} (ws : List Str) (hσ : σ[i]? = some (some (.ref a))) (hF : Fd H a) (hn : ((ws.map V.str).length : Int) = n) (n0 : 0 < n) (n1 : n < 1000)
    (hl : tl σ H = fun Q => (ws.map V.str).length ≤ sizeLine ∧ ∀ l, H l = none → Q (.ref l) (upd H l (.lst (ws.map V.str)))) (hk : ∀ w ∈ ws, okW w) (q : ∀ w H', w ∈ ws → okW w → Stp a H H' → Q (.str w) H') :
    tOp (rIxL K) tl (tCall spTake [] E0 (tCons (tVar i) (tCons (tC (.int n)) tNil))) σ H Q := by
  refine rd_menu (ws.map V.str) hσ hF hn n0 n1 hl fun v H' vm s => ?_
  obtain ⟨w, wm, rfl⟩ := List.mem_map.mp vm
  exact q w H' wm (hk w wm) s
theorem rd_menuI {K : PySem.W.Frag} {σ : St} {H : Hp} {Q : VK} {a : Addr} {n : Int} {i : Nat} {tl : TE} (ws : List Int) (hσ : σ[i]? = some (some (.ref a))) (hF : Fd H a) (hn : ((ws.map V.int).length : Int) = n) (n0 : 0 < n) (n1 : n < 1000)
    (hl : tl σ H = fun Q => (ws.map V.int).length ≤ sizeLine ∧ ∀ l, H l = none → Q (.ref l) (upd H l (.lst (ws.map V.int)))) (q : ∀ w H', w ∈ ws → Stp a H H' → Q (.int w) H') :
    tOp (rIxL K) tl (tCall spTake [] E0 (tCons (tVar i) (tCons (tC (.int n)) tNil))) σ H Q := by
  refine rd_menu (ws.map V.int) hσ hF hn n0 n1 hl fun v H' vm s => ?_
  obtain ⟨w, wm, rfl⟩ := List.mem_map.mp vm
  exact q w H' wm s
/-- behind the making of a written list: a draw from it -/
theorem rd_in {K : PySem.W.Frag} {σ : St} {H : Hp} {Q : VK} {a l : Addr} {n : Int} {i : Nat} (xs : List V) (hσ : σ[i]? = some (some (.ref a))) (hF : Fd H a) (el : H l = none) (hn : (xs.length : Int) = n) (n0 : 0 < n) (n1 : n < 1000)
    (q : ∀ v H', v ∈ xs → Stp a H H' → Q v H') :
    tCall spTake [] E0 (tCons (tVar i) (tCons (tC (.int n)) tNil)) σ (upd H l (.lst xs)) (fun y H2 => rIxL K (.ref l) y H2 Q) := by
  refine ⟨_, hσ, a, n, rfl, hF.same (same_new el _), n0, by omega, fun r H' r0 r1 s => ?_⟩
  obtain ⟨v, vm, ev⟩ := atI_in (xs := xs) r0 (by omega)
  have na : l ≠ a := by
    obtain ⟨x, y, z, e⟩ := hF
    exact (ne_of_none e el).symm
  refine ⟨_, _, _, _, rfl, rfl, SqL.of (s.1 _ _ na upd_same), ev, q v H' vm ?_⟩
  exact (Stp.of hF (same_new el _)).trans s
theorem rd_inS {K : PySem.W.Frag} {σ : St} {H : Hp} {Q : VK} {a l : Addr} {n : Int} {i : Nat} (ws : List Str) (hσ : σ[i]? = some (some (.ref a))) (hF : Fd H a) (el : H l = none) (hn : ((ws.map V.str).length : Int) = n) (n0 : 0 < n) (n1 : n < 1000)
    (hk : ∀ w ∈ ws, okW w) (q : ∀ w H', w ∈ ws → okW w → Stp a H H' → Q (.str w) H') :
    tCall spTake [] E0 (tCons (tVar i) (tCons (tC (.int n)) tNil)) σ (upd H l (.lst (ws.map V.str))) (fun y H2 => rIxL K (.ref l) y H2 Q) := by
  refine rd_in (ws.map V.str) hσ hF el hn n0 n1 fun v H' vm s => ?_
  obtain ⟨w, wm, rfl⟩ := List.mem_map.mp vm
  exact q w H' wm (hk w wm) s
theorem rd_inI {K : PySem.W.Frag} {σ : St} {H : Hp} {Q : VK} {a l : Addr} {n : Int} {i : Nat} (ws : List Int) (hσ : σ[i]? = some (some (.ref a))) (hF : Fd H a) (el : H l = none) (hn : ((ws.map V.int).length : Int) = n) (n0 : 0 < n) (n1 : n < 1000)
    (q : ∀ w H', w ∈ ws → Stp a H H' → Q (.int w) H') :
    tCall spTake [] E0 (tCons (tVar i) (tCons (tC (.int n)) tNil)) σ (upd H l (.lst (ws.map V.int))) (fun y H2 => rIxL K (.ref l) y H2 Q) := by
  refine rd_in (ws.map V.int) hσ hF el hn n0 n1 fun v H' vm s => ?_
  obtain ⟨w, wm, rfl⟩ := List.mem_map.mp vm
  exact q w H' wm s
/-- a draw -/
theorem rd_take {σ : St} {H : Hp} {Q : VK} {a : Addr} {n : Int} {i : Nat} (hσ : σ[i]? = some (some (.ref a))) (hF : Fd H a) (n0 : 0 < n) (n1 : n < 1073741824) (q : ∀ r H', 0 ≤ r → r < n → Stp a H H' → Q (.int r) H') :
    tCall spTake [] E0 (tCons (tVar i) (tCons (tC (.int n)) tNil)) σ H Q := ⟨_, hσ, a, n, rfl, hF, n0, n1, q⟩
/-- what is wanted of an expression that is made with the feed at a -/
def XQ (K : PySem.W.Frag) (a : Addr) (N : Nat) (H : Hp) (Q : VK) : Prop := ∀ (v : V) (H' : Hp) (e : Ex), Stp a H H' → e.At K H' v → e.dep ≤ N → e.ok → Q v H'
theorem XQ.after {K : PySem.W.Frag} {a : Addr} {N : Nat} {H H1 : Hp} {Q : VK} (q : XQ K a N H Q) (s : Stp a H H1) : XQ K a N H1 Q := fun v H' e s' h1 h2 h3 => q v H' e (s.trans s') h1 h2 h3
theorem XQ.num {K : PySem.W.Frag} {a : Addr} {N : Nat} {H : Hp} {Q : VK} (q : XQ K a N H Q) (hF : Fd H a) (h : 1 ≤ N) (n : Int) {t : Addr} (ht : H t = none) : Q (.ref t) (upd H t (.tup [.str "number", .int n])) :=
  q _ _ (.num n) (Stp.of hF (same_new ht _)) ⟨t, rfl, SqT.of upd_same⟩ h trivial
theorem XQ.nam {K : PySem.W.Frag} {a : Addr} {N : Nat} {H : Hp} {Q : VK} (q : XQ K a N H Q) (hF : Fd H a) (h : 1 ≤ N) {w : Str} (hw : okW w) {t : Addr} (ht : H t = none) : Q (.ref t) (upd H t (.tup [.str "name", .str w])) :=
  q _ _ (.nam w) (Stp.of hF (same_new ht _)) ⟨t, rfl, SqT.of upd_same⟩ h hw
theorem XQ.op {K : PySem.W.Frag} {a : Addr} {N : Nat} {H : Hp} {Q : VK} (q : XQ K a N H Q) (hF : Fd H a) {w : Str} {x y : V} {l r : Ex} (hl : l.At K H x) (hr : r.At K H y) (h : max l.dep r.dep + 1 ≤ N) (hw : okW w) (kl : l.ok) (kr : r.ok) {t : Addr} (ht : H t = none) : Q (.ref t) (upd H t (.tup [.str "op", .str w, x, y])) :=
  q _ _ (.op w l r) (Stp.of hF (same_new ht _)) ⟨t, x, y, rfl, SqT.of upd_same, hl.tu (Same.tu (same_new ht _)), hr.tu (Same.tu (same_new ht _))⟩ h ⟨hw, kl, kr⟩
theorem XQ.rd {K : PySem.W.Frag} {a : Addr} {N : Nat} {H : Hp} {Q : VK} (q : XQ K a N H Q) (hF : Fd H a) {w : Str} {x : V} {l : Ex} (hl : l.At K H x) (h : l.dep + 1 ≤ N) (hw : okW w) (kl : l.ok) {t : Addr} (ht : H t = none) : Q (.ref t) (upd H t (.tup [.str "read", .str w, x])) :=
  q _ _ (.rd w l) (Stp.of hF (same_new ht _)) ⟨t, x, rfl, SqT.of upd_same, hl.tu (Same.tu (same_new ht _))⟩ h ⟨hw, kl⟩
end Vk
namespace K17
open PySem L2 Vk
def topS (i : Nat) : Stmt := PySem.Challenge.pw_stillinstep_k17_lines_of_places.main.body.getD i (.Pass ⟨0, 0, 0, 0⟩)
abbrev s_clip : Stmt := topS 2
abbrev N_clip : List Str := ["number"]
abbrev P_clip : List Str := ["number"]
theorem sc_clip : FnScope N_clip P_clip (defScope s_clip) := ⟨rfl, rfl, rfl, by decide +kernel, rfl, by decide +kernel, by decide +kernel⟩
abbrev s_value_of : Stmt := topS 4
abbrev N_value_of : List Str := ["expression", "names", "arrays", "kind", "values", "part"]
abbrev P_value_of : List Str := ["expression", "names", "arrays"]
theorem sc_value_of : FnScope N_value_of P_value_of (defScope s_value_of) := ⟨rfl, rfl, rfl, by decide +kernel, rfl, by decide +kernel, by decide +kernel⟩
abbrev s_operands_of : Stmt := topS 5
abbrev N_operands_of : List Str := ["expression", "kind"]
abbrev P_operands_of : List Str := ["expression"]
theorem sc_operands_of : FnScope N_operands_of P_operands_of (defScope s_operands_of) := ⟨rfl, rfl, rfl, by decide +kernel, rfl, by decide +kernel, by decide +kernel⟩
abbrev s_cell_of : Stmt := topS 6
abbrev N_cell_of : List Str := ["array", "at"]
abbrev P_cell_of : List Str := ["array", "at"]
theorem sc_cell_of : FnScope N_cell_of P_cell_of (defScope s_cell_of) := ⟨rfl, rfl, rfl, by decide +kernel, rfl, by decide +kernel, by decide +kernel⟩
abbrev s_joined_value : Stmt := topS 7
abbrev N_joined_value : List Str := ["sign", "left", "right"]
abbrev P_joined_value : List Str := ["sign", "left", "right"]
theorem sc_joined_value : FnScope N_joined_value P_joined_value (defScope s_joined_value) := ⟨rfl, rfl, rfl, by decide +kernel, rfl, by decide +kernel, by decide +kernel⟩
abbrev s_holds : Stmt := topS 8
abbrev N_holds : List Str := ["sign", "left", "right"]
abbrev P_holds : List Str := ["sign", "left", "right"]
theorem sc_holds : FnScope N_holds P_holds (defScope s_holds) := ⟨rfl, rfl, rfl, by decide +kernel, rfl, by decide +kernel, by decide +kernel⟩
abbrev s_called_value : Stmt := topS 9
abbrev N_called_value : List Str := ["word", "values", "arrays"]
abbrev P_called_value : List Str := ["word", "values", "arrays"]
theorem sc_called_value : FnScope N_called_value P_called_value (defScope s_called_value) := ⟨rfl, rfl, rfl, by decide +kernel, rfl, by decide +kernel, by decide +kernel⟩
abbrev s_index_of_zero : Stmt := topS 10
abbrev N_index_of_zero : List Str := ["array", "number", "zeros", "at", "cell"]
abbrev P_index_of_zero : List Str := ["array", "number"]
theorem sc_index_of_zero : FnScope N_index_of_zero P_index_of_zero (defScope s_index_of_zero) := ⟨rfl, rfl, rfl, by decide +kernel, rfl, by decide +kernel, by decide +kernel⟩
abbrev s_line_of : Stmt := topS 13
abbrev N_line_of : List Str := ["expression", "lanes", "kind", "line", "left", "right"]
abbrev P_line_of : List Str := ["expression", "lanes"]
theorem sc_line_of : FnScope N_line_of P_line_of (defScope s_line_of) := ⟨rfl, rfl, rfl, by decide +kernel, rfl, by decide +kernel, by decide +kernel⟩
abbrev s_joined_line : Stmt := topS 14
abbrev N_joined_line : List Str := ["sign", "left", "right"]
abbrev P_joined_line : List Str := ["sign", "left", "right"]
theorem sc_joined_line : FnScope N_joined_line P_joined_line (defScope s_joined_line) := ⟨rfl, rfl, rfl, by decide +kernel, rfl, by decide +kernel, by decide +kernel⟩
abbrev s_law_whole : Stmt := topS 16
abbrev N_law_whole : List Str := ["value"]
abbrev P_law_whole : List Str := ["value"]
theorem sc_law_whole : FnScope N_law_whole P_law_whole (defScope s_law_whole) := ⟨rfl, rfl, rfl, by decide +kernel, rfl, by decide +kernel, by decide +kernel⟩
abbrev s_law_cell : Stmt := topS 17
abbrev N_law_cell : List Str := ["script", "k", "seed", "cell"]
abbrev P_law_cell : List Str := ["script", "k"]
theorem sc_law_cell : FnScope N_law_cell P_law_cell (defScope s_law_cell) := ⟨rfl, rfl, rfl, by decide +kernel, rfl, by decide +kernel, by decide +kernel⟩
abbrev s_law_feed : Stmt := topS 18
abbrev N_law_feed : List Str := ["cell", "rest"]
abbrev P_law_feed : List Str := ["cell"]
theorem sc_law_feed : FnScope N_law_feed P_law_feed (defScope s_law_feed) := ⟨rfl, rfl, rfl, by decide +kernel, rfl, by decide +kernel, by decide +kernel⟩
abbrev s_law_take : Stmt := topS 19
abbrev N_law_take : List Str := ["feed", "size", "digit", "twice"]
abbrev P_law_take : List Str := ["feed", "size"]
theorem sc_law_take : FnScope N_law_take P_law_take (defScope s_law_take) := ⟨rfl, rfl, rfl, by decide +kernel, rfl, by decide +kernel, by decide +kernel⟩
abbrev s_law_leaf : Stmt := topS 20
abbrev N_law_leaf : List Str := ["feed", "odd", "kind", "greater"]
abbrev P_law_leaf : List Str := ["feed", "odd"]
theorem sc_law_leaf : FnScope N_law_leaf P_law_leaf (defScope s_law_leaf) := ⟨rfl, rfl, rfl, by decide +kernel, rfl, by decide +kernel, by decide +kernel⟩
abbrev s_law_level_side : Stmt := topS 21
abbrev N_law_level_side : List Str := ["feed", "depth", "sign", "left"]
abbrev P_law_level_side : List Str := ["feed", "depth"]
theorem sc_law_level_side : FnScope N_law_level_side P_law_level_side (defScope s_law_level_side) := ⟨rfl, rfl, rfl, by decide +kernel, rfl, by decide +kernel, by decide +kernel⟩
abbrev s_law_odd_one : Stmt := topS 22
abbrev N_law_odd_one : List Str := ["feed", "left", "right", "kind"]
abbrev P_law_odd_one : List Str := ["feed", "left", "right"]
theorem sc_law_odd_one : FnScope N_law_odd_one P_law_odd_one (defScope s_law_odd_one) := ⟨rfl, rfl, rfl, by decide +kernel, rfl, by decide +kernel, by decide +kernel⟩
abbrev s_law_joined : Stmt := topS 23
abbrev N_law_joined : List Str := ["feed", "left", "right", "odd", "kind"]
abbrev P_law_joined : List Str := ["feed", "left", "right", "odd"]
theorem sc_law_joined : FnScope N_law_joined P_law_joined (defScope s_law_joined) := ⟨rfl, rfl, rfl, by decide +kernel, rfl, by decide +kernel, by decide +kernel⟩
abbrev s_law_tree : Stmt := topS 24
abbrev N_law_tree : List Str := ["feed", "depth", "odd", "kind", "side", "other", "left"]
abbrev P_law_tree : List Str := ["feed", "depth", "odd"]
theorem sc_law_tree : FnScope N_law_tree P_law_tree (defScope s_law_tree) := ⟨rfl, rfl, rfl, by decide +kernel, rfl, by decide +kernel, by decide +kernel⟩
abbrev s_law_tall : Stmt := topS 25
abbrev N_law_tall : List Str := ["feed", "odd", "expr", "k", "side"]
abbrev P_law_tall : List Str := ["feed", "odd"]
theorem sc_law_tall : FnScope N_law_tall P_law_tall (defScope s_law_tall) := ⟨rfl, rfl, rfl, by decide +kernel, rfl, by decide +kernel, by decide +kernel⟩
abbrev s_law_line : Stmt := topS 26
abbrev N_law_line : List Str := ["expr", "width", "pair", "left", "right"]
abbrev P_law_line : List Str := ["expr", "width"]
theorem sc_law_line : FnScope N_law_line P_law_line (defScope s_law_line) := ⟨rfl, rfl, rfl, by decide +kernel, rfl, by decide +kernel, by decide +kernel⟩
abbrev s_law_pushed : Stmt := topS 27
abbrev N_law_pushed : List Str := ["expr", "pair", "side", "goal", "gap", "k", "part", "term"]
abbrev P_law_pushed : List Str := ["expr", "pair", "side", "goal"]
theorem sc_law_pushed : FnScope N_law_pushed P_law_pushed (defScope s_law_pushed) := ⟨rfl, rfl, rfl, by decide +kernel, rfl, by decide +kernel, by decide +kernel⟩
abbrev s_law_wrapped : Stmt := topS 28
abbrev N_law_wrapped : List Str := ["feed", "expr", "kind"]
abbrev P_law_wrapped : List Str := ["feed", "expr"]
theorem sc_law_wrapped : FnScope N_law_wrapped P_law_wrapped (defScope s_law_wrapped) := ⟨rfl, rfl, rfl, by decide +kernel, rfl, by decide +kernel, by decide +kernel⟩
abbrev s_law_drawn_line : Stmt := topS 29
abbrev N_law_drawn_line : List Str := ["feed", "width", "odd", "expr", "pair", "side", "k"]
abbrev P_law_drawn_line : List Str := ["feed", "width"]
theorem sc_law_drawn_line : FnScope N_law_drawn_line P_law_drawn_line (defScope s_law_drawn_line) := ⟨rfl, rfl, rfl, by decide +kernel, rfl, by decide +kernel, by decide +kernel⟩
abbrev s_law_sure_line : Stmt := topS 30
abbrev N_law_sure_line : List Str := ["feed", "steep", "slant"]
abbrev P_law_sure_line : List Str := ["feed"]
theorem sc_law_sure_line : FnScope N_law_sure_line P_law_sure_line (defScope s_law_sure_line) := ⟨rfl, rfl, rfl, by decide +kernel, rfl, by decide +kernel, by decide +kernel⟩
abbrev s_law_line_right : Stmt := topS 31
abbrev N_law_line_right : List Str := ["actual", "expr", "width", "due", "lane", "value"]
abbrev P_law_line_right : List Str := ["actual", "expr", "width"]
theorem sc_law_line_right : FnScope N_law_line_right P_law_line_right (defScope s_law_line_right) := ⟨rfl, rfl, rfl, by decide +kernel, rfl, by decide +kernel, by decide +kernel⟩
abbrev s_law : Stmt := topS 32
abbrev N_law : List Str := ["script", "feed", "width", "other", "expr", "sure"]
abbrev P_law : List Str := ["script"]
theorem sc_law : FnScope N_law P_law (defScope s_law) := ⟨rfl, rfl, rfl, by decide +kernel, rfl, by decide +kernel, by decide +kernel⟩
end K17
namespace K17
open PySem L2 Vk
section
variable {P : Program} {w : World} {K : PySem.W.Frag} {mg : Str → Option Value} {base : Heap}
theorem ok_take {f : Addr} {fd : FuncData} {k : Nat} (F : Fun K "_law_take" "_law_take" s_law_take f fd) (mint : mg "int" = none) : FnOk P w K mg base CX0 (k + 1) f fd P_law_take spTake := by
  refine F.ok sc_law_take (fun vs H Q E h => ?_) (fun cdv A outer s H vs Q E hr h => ?_)
  · obtain ⟨a, n, rfl, _⟩ := h
    rfl
  obtain ⟨a, n, rfl, ⟨x, y, z, e⟩, n0, n1, q⟩ := h
  refine ⟨_, (pss_cons (ps_asg (pe_op op_add (pe_ix ix_list (pv 0) pe_int (fun _ _ => rfl)) pe_int) (pg_sub (pv 0) pe_int set_list))
    (C8.pss_cut (ps_if (PW.pt (pw_and (pt_cmpR op_eq (pe_ix ix_list (pv 0) pe_int (fun _ _ => rfl)) pe_int (nomark _)) (pw_and1 (pt_cmpR op_eq (pe_ix ix_list (pv 0) pe_int (fun _ _ => rfl)) pe_int (nomark _)))))
      (pss_cons (ps_asg pe_int (pg_sub (pv 0) pe_int set_list))
      (pss_one (ps_asg (pe_op op_add pe_int (pe_ix ix_list (pv 0) pe_int (fun _ _ => rfl))) (pg_sub (pv 0) pe_int set_list))))
      pss_nil)
    (pss_cons (ps_if (pt_cmpR op_eq (pe_ix ix_list (pv 0) pe_int (fun _ _ => rfl)) pe_int (nomark _))
      (pss_cons (ps_set (i := 2) sc_law_take.nd rfl (Or.inl rfl) (pe_op op_modN (pe_callTy call_int1 (by rfl) mint (by decide +kernel) (pa_cons (pe_ix ix_list (pv 0) pe_int (fun _ _ => rfl)) pa_nil)) (pv 1)))
      (pss_cons (ps_asg (pe_op op_fdivN (pe_callTy call_int1 (by rfl) mint (by decide +kernel) (pa_cons (pe_ix ix_list (pv 0) pe_int (fun _ _ => rfl)) pa_nil)) (pv 1)) (pg_sub (pv 0) pe_int set_list))
      (pss_one (ps_ret (pv 2)))))
      pss_nil)
    (pss_cons (ps_asg (pe_op op_modN (pe_callTy call_int1 (by rfl) mint (by decide +kernel) (pa_cons (pe_op op_add (pe_op op_add (pe_op op_mul (pe_ix ix_list (pv 0) pe_int (fun _ _ => rfl)) pe_int) (pe_op op_mul pe_int (pe_ix ix_list (pv 0) pe_int (fun _ _ => rfl)))) pe_int) pa_nil)) pe_int) (pg_sub (pv 0) pe_int set_list))
    (pss_cons (ps_set (i := 3) sc_law_take.nd rfl (Or.inl rfl) (pe_op op_modN (pe_callTy call_int1 (by rfl) mint (by decide +kernel) (pa_cons (pe_op op_mul (pe_ix ix_list (pv 0) pe_int (fun _ _ => rfl)) (pe_op op_add (pe_op op_fdivN (pe_ix ix_list (pv 0) pe_int (fun _ _ => rfl)) pe_int) pe_int)) pa_nil)) pe_int))
    (pss_one (ps_ret (pe_op op_modN (pe_op op_fdivN (pv 3) pe_int) (pv 1))))))))), ?_⟩
  -- feed[2] = feed[2] + 1
  refine ⟨_, rfl, _, _, _, _, rfl, rfl, SqL.of e, atI_nat (j := 2) rfl, _, _, rfl, rfl, _, rfl, _, _, _, _, rfl, rfl, e, rfl, ?_⟩
  have e1 : (upd H a (.lst [.int x, .int y, .int (z + 1)])) a = some (.lst [.int x, .int y, .int (z + 1)]) := upd_same
  have g1 : ∀ b o, b ≠ a → H b = some o → (upd H a (.lst [.int x, .int y, .int (z + 1)])) b = some o := fun b o nb eb => by rw [upd_ne nb]; exact eb
  refine ⟨fun σ' H' => ∃ x y z : Int, σ' = [some (.ref a), some (.int n), none, none] ∧ H' a = some (.lst [.int x, .int y, .int z]) ∧ (∀ b o, b ≠ a → H b = some o → H' b = some o), ?_, fun σ' H' hm => ?_⟩
  · refine ⟨_, rfl, _, _, _, _, rfl, rfl, SqL.of e1, atI_nat (j := 0) rfl, rfl, _, rfl, ite2 (fun c => ?_) (fun c => ?_)⟩
    · refine ⟨_, rfl, _, _, _, _, rfl, rfl, SqL.of e1, atI_nat (j := 1) rfl, rfl, _, rfl, ite2 (fun c => ?_) (fun c => ?_)⟩
      · refine ⟨_, rfl, _, _, _, _, rfl, rfl, e1, rfl, ?_⟩
        refine ⟨_, rfl, _, _, _, _, rfl, rfl, SqL.of upd_same, atI_nat (j := 2) rfl, _, _, rfl, rfl, _, rfl, _, _, _, _, rfl, rfl, upd_same, rfl, ?_⟩
        exact ⟨_, _, _, rfl, upd_same, fun b o nb eb => by rw [upd_ne nb, upd_ne nb]; exact g1 b o nb eb⟩
      · exact ⟨_, _, _, rfl, e1, g1⟩
    · exact ⟨_, _, _, rfl, e1, g1⟩
  obtain ⟨x, y, z, rfl, e2, g2⟩ := hm
  refine ⟨_, rfl, _, _, _, _, rfl, rfl, SqL.of e2, atI_nat (j := 0) rfl, rfl, _, rfl, ite2 (fun c => ?_) (fun c => ?_)⟩
  · refine ⟨_, rfl, _, _, _, _, rfl, rfl, SqL.of e2, atI_nat (j := 1) rfl, .inl ⟨_, rfl, _, rfl, _, _, rfl, rfl, by omega, ?_⟩⟩
    refine ⟨_, rfl, _, _, _, _, rfl, rfl, SqL.of e2, atI_nat (j := 1) rfl, .inl ⟨_, rfl, _, rfl, _, _, rfl, rfl, ⟨by omega, by omega⟩, ?_⟩⟩
    refine ⟨_, rfl, _, _, _, _, rfl, rfl, e2, rfl, ?_⟩
    refine ⟨_, rfl, ?_⟩
    exact q _ _ (fmod_lo n0) (fmod_hi n0) ⟨fun b o nb eb => by rw [upd_ne nb]; exact g2 b o nb eb, ⟨_, _, _, upd_same⟩⟩
  · refine ⟨_, rfl, _, _, _, _, rfl, rfl, SqL.of e2, atI_nat (j := 1) rfl, _, _, rfl, rfl, .inr ⟨by decide, by decide⟩, ?_⟩
    refine ⟨_, rfl, _, _, _, _, rfl, rfl, SqL.of e2, atI_nat (j := 2) rfl, _, _, rfl, rfl, .inl ⟨by decide, by decide⟩, _, _, rfl, rfl, _, _, rfl, rfl, .inl ⟨_, rfl, _, _, rfl, rfl, by omega, ?_⟩⟩
    refine ⟨_, rfl, _, _, _, _, rfl, rfl, e2, rfl, ?_⟩
    have b0 := fmod_lo (a := y * 48271 + 974711 * z + 12345) (b := 2147483647) (by decide)
    have b1 := fmod_hi (a := y * 48271 + 974711 * z + 12345) (b := 2147483647) (by decide)
    refine ⟨_, rfl, _, _, _, _, rfl, rfl, SqL.of upd_same, atI_nat (j := 1) rfl, _, rfl, _, _, _, _, rfl, rfl, SqL.of upd_same, atI_nat (j := 1) rfl, _, _, rfl, rfl, ⟨by decide, by decide⟩, _, _, rfl, rfl, _, _, rfl, rfl, .inl ⟨by omega, by omega⟩, .inl ⟨_, rfl, _, _, rfl, rfl, by omega, ?_⟩⟩
    refine ⟨_, rfl, _, _, rfl, rfl, ⟨by decide, by decide⟩, _, rfl, _, _, rfl, rfl, by omega, ?_⟩
    exact q _ _ (fmod_lo n0) (fmod_hi n0) ⟨fun b o nb eb => by rw [upd_ne nb]; exact g2 b o nb eb, ⟨_, _, _, upd_same⟩⟩
theorem ok_feed {f : Addr} {fd : FuncData} {k : Nat} (F : Fun K "_law_feed" "_law_feed" s_law_feed f fd) (mint : mg "int" = none) : FnOk P w K mg base CX0 (k + 1) f fd P_law_feed spFeed := by
  refine F.ok sc_law_feed (fun vs H Q E h => ?_) (fun cdv A outer s H vs Q E hr h => ?_)
  · obtain ⟨n, rfl, _⟩ := h
    rfl
  obtain ⟨n, rfl, q⟩ := h
  refine ⟨_, (pss_cons (ps_set (i := 1) sc_law_feed.nd rfl (Or.inl rfl) (pe_callTy call_int1 (by rfl) mint (by decide +kernel) (pa_cons (pv 0) pa_nil)))
    (pss_cons (ps_if (pt_cmpR op_ge (pv 1) (pe_op op_pow pe_int pe_int) (nomark _))
      (pss_one (ps_ret (pe_lst (pa_cons pe_int (pa_cons (pe_op op_sub (pv 1) (pe_op op_pow pe_int pe_int)) (pa_cons pe_int pa_nil))))))
      pss_nil)
    (pss_one (ps_ret (pe_lst (pa_cons pe_int (pa_cons (pe_op op_modN (pe_callTy call_int1 (by rfl) mint (by decide +kernel) (pa_cons (pv 1) pa_nil)) pe_int) (pa_cons pe_int pa_nil)))))))), ?_⟩
  refine ⟨_, rfl, .inl ⟨_, rfl, ?_⟩⟩
  refine ⟨_, rfl, _, _, rfl, rfl, ⟨by decide, by decide, by decide⟩, _, _, rfl, rfl, _, rfl, ite2 (fun c => ?_) (fun c => ?_)⟩
  · refine ⟨_, rfl, _, _, rfl, rfl, ⟨by decide, by decide, by decide⟩, _, _, rfl, rfl, (by show 3 ≤ sizeLine; decide), fun p hp => ?_⟩
    exact q _ _ (same_new hp _) hp ⟨_, _, _, upd_same⟩
  · refine ⟨_, rfl, .inl ⟨_, rfl, _, _, rfl, rfl, by omega, (by show 3 ≤ sizeLine; decide), fun p hp => ?_⟩⟩
    exact q _ _ (same_new hp _) hp ⟨_, _, _, upd_same⟩
theorem ok_cell {f : Addr} {fd : FuncData} {k : Nat} (F : Fun K "_law_cell" "_law_cell" s_law_cell f fd) (mint : mg "int" = none) (mlen : mg "len" = none) : FnOk P w K mg base CX0 (k + 1) f fd P_law_cell (spCell K) := by
  refine F.ok sc_law_cell (fun vs H Q E h => ?_) (fun cdv A outer s H vs Q E hr h => ?_)
  · obtain ⟨a, ns, j, rfl, _⟩ := h
    rfl
  obtain ⟨a, ns, j, rfl, hS, j0, j1, q⟩ := h
  refine ⟨_, (pss_cons (ps_if (pt_cmpR op_lt (pv 1) (pe_callB call_len_seq (by rfl) mlen (by decide +kernel) (pa_cons (pv 0) pa_nil)) (nomark _))
      (pss_one (ps_ret (pe_ix ix_list (pv 0) (pv 1) (fun _ _ => rfl))))
      pss_nil)
    (pss_cons (ps_set (i := 2) sc_law_cell.nd rfl (Or.inl rfl) pe_int)
    (pss_cons (ps_for PassesOwn.never rfl (pi_list (pv 0)) (pg_name (i := 3) sc_law_cell.nd rfl (Or.inl rfl))
      (pss_one (ps_set (i := 2) sc_law_cell.nd rfl (Or.inl rfl) (pe_op op_modN (pe_callTy call_int1 (by rfl) mint (by decide +kernel) (pa_cons (pe_op op_add (pe_op op_mul (pv 2) pe_int) (pe_op op_modN (pe_callTy call_int1 (by rfl) mint (by decide +kernel) (pa_cons (pv 3) pa_nil)) pe_int)) pa_nil)) pe_int))))
    (pss_one (ps_ret (pe_op op_modN (pe_callTy call_int1 (by rfl) mint (by decide +kernel) (pa_cons (pe_op op_mul (pe_op op_mul (pe_op op_add (pv 2) pe_int) (pe_op op_add (pv 1) pe_int)) pe_int) pa_nil)) pe_int)))))), ?_⟩
  refine ⟨_, rfl, _, rfl, _, _, rfl, .inl hS, _, _, rfl, rfl, _, rfl, ite2' (fun c => ?_) (fun c => ?_)⟩
  · obtain ⟨v, vm, ev⟩ := atI_in (xs := ns.map V.int) j0 c
    obtain ⟨n, _, rfl⟩ := List.mem_map.mp vm
    exact ⟨_, rfl, _, rfl, _, _, _, _, rfl, rfl, hS, ev, q n⟩
  · refine ⟨_, rfl, a, rfl, ⟨_, hS⟩, ?_⟩
    refine for_list (xs := ns.map V.int) (fun i σ H' => ∃ (sd : Int) (y : Option V), σ = [some (.ref a), some (.int j), some (.int sd), y] ∧ 0 ≤ sd ∧ sd < 1000003 ∧ H' = H) ⟨_, _, rfl, by decide, by decide, rfl⟩ (fun i σ H' _ hp => ?_) (fun i x σ H' hx hp => ?_) (fun σ H' hp => ?_)
    · obtain ⟨sd, y, _, _, _, rfl⟩ := hp
      exact hS
    · obtain ⟨sd, y, rfl, b0, b1, rfl⟩ := hp
      obtain ⟨n, _, rfl⟩ := List.mem_map.mp (List.mem_of_getElem? hx)
      refine ⟨_, rfl, _, _, rfl, rfl, .inl ⟨by omega, by omega⟩, _, rfl, .inl ⟨_, rfl, _, _, rfl, rfl, by omega, _, _, rfl, rfl, .inl ⟨_, rfl, _, _, rfl, rfl, by omega, ?_⟩⟩⟩
      exact ⟨_, _, rfl, fmod_lo (by decide), fmod_hi (by decide), rfl⟩
    · obtain ⟨sd, y, rfl, b0, b1, rfl⟩ := hp
      refine ⟨_, rfl, _, _, rfl, rfl, _, rfl, _, _, rfl, rfl, _, _, rfl, rfl, .inl ⟨by omega, by omega⟩, _, _, rfl, rfl, .inr ⟨by decide, by decide⟩, .inl ⟨_, rfl, _, _, rfl, rfl, by omega, ?_⟩⟩
      exact q _
end
end K17
namespace K17
open PySem L2 Vk
def spLeaf (K : PySem.W.Frag) : Sp := fun vs H Q _ => ∃ (a : Addr) (odd : Bool), vs = [.ref a, .bl odd] ∧ Fd H a ∧ XQ K a 1 H Q
section
variable {P : Program} {w : World} {K : PySem.W.Frag} {mg : Str → Option Value} {base : Heap}
theorem ok_leaf {f : Addr} {fd : FuncData} {k : Nat} (F : Fun K "_law_leaf" "_law_leaf" s_law_leaf f fd) (O_law_take : Ok P w K mg base k "_law_take" P_law_take spTake) : FnOk P w K mg base CX0 (k + 1) f fd P_law_leaf (spLeaf K) := by
  refine F.ok sc_law_leaf (fun vs H Q E h => ?_) (fun cdv A outer s H vs Q E hr h => ?_)
  · obtain ⟨a, n, rfl, _⟩ := h
    rfl
  obtain ⟨a, odd, rfl, hF, q⟩ := h
  refine ⟨_, (pss_cons (ps_set (i := 2) sc_law_leaf.nd rfl (Or.inl rfl) (pe_c O_law_take hr (by rfl) (pa_cons (pv 0) (pa_cons pe_int pa_nil))))
    (pss_cons (ps_if (PW.pt (pw_and (pt_val (pv 1)) (pw_and1 (pt_cmpR op_eq (pv 2) pe_int (nomark _)))))
      (pss_one (ps_ret (pe_tup (pa_cons pe_str (pa_cons (pe_ix ix_list (pe_lst (pa_cons pe_str (pa_cons pe_str (pa_cons pe_str (pa_cons pe_str (pa_cons pe_str (pa_cons pe_str pa_nil))))))) (pe_c O_law_take hr (by rfl) (pa_cons (pv 0) (pa_cons pe_int pa_nil))) (fun _ _ => rfl)) pa_nil)))))
      pss_nil)
    (pss_cons (ps_if (pt_cmpR op_lt (pv 2) pe_int (nomark _))
      (pss_one (ps_ret (pe_tup (pa_cons pe_str (pa_cons pe_str pa_nil)))))
      pss_nil)
    (pss_cons (ps_if (pt_cmpR op_lt (pv 2) pe_int (nomark _))
      (pss_one (ps_ret (pe_tup (pa_cons pe_str (pa_cons pe_str pa_nil)))))
      pss_nil)
    (pss_cons (ps_if (pt_cmpR op_eq (pv 2) pe_int (nomark _))
      (pss_cons (ps_set (i := 3) sc_law_leaf.nd rfl (Or.inl rfl) (pe_lst (pa_cons pe_int (pa_cons pe_int (pa_cons pe_int (pa_cons pe_int (pa_cons pe_int (pa_cons pe_int (pa_cons pe_int (pa_cons pe_int (pa_cons pe_int (pa_cons pe_int (pa_cons pe_int (pa_cons (pe_op op_pow pe_int pe_int) pa_nil))))))))))))))
      (pss_one (ps_ret (pe_tup (pa_cons pe_str (pa_cons (pe_ix ix_list (pv 3) (pe_c O_law_take hr (by rfl) (pa_cons (pv 0) (pa_cons pe_int pa_nil))) (fun _ _ => rfl)) pa_nil))))))
      pss_nil)
    (pss_one (ps_ret (pe_tup (pa_cons pe_str (pa_cons (pe_c O_law_take hr (by rfl) (pa_cons (pv 0) (pa_cons pe_int pa_nil))) pa_nil)))))))))), ?_⟩
  refine rd_take rfl hF (by decide) (by decide) fun kind H1 k0 k1 s1 => ?_
  have q1 := q.after s1
  have tail : ∀ Q' : Prop, Q' → Q' := fun _ h => h
  refine ⟨_, rfl, odd, rfl, ite2 (fun c => ⟨_, rfl, rfl, _, rfl, ite2 (fun c => ?_) (fun c => ?_)⟩) (fun c => ?_)⟩
  · refine rd_menuS ["m", "me2", "lane", "lanes_", "mee", "d"] rfl s1.2 rfl (by decide) (by decide) (by rfl) (by decide +kernel) fun w H2 wm wk s2 => ?_
    exact ⟨(by show 2 ≤ sizeLine; decide), fun t ht => (q1.after s2).nam s2.2 (by decide) wk ht⟩
  all_goals
    refine ⟨_, rfl, _, _, rfl, rfl, _, rfl, ite2 (fun c => ?_) (fun c => ?_)⟩
    · exact ⟨(by show 2 ≤ sizeLine; decide), fun t ht => q1.nam s1.2 (by decide) (by decide +kernel) ht⟩
    refine ⟨_, rfl, _, _, rfl, rfl, _, rfl, ite2 (fun c => ?_) (fun c => ?_)⟩
    · exact ⟨(by show 2 ≤ sizeLine; decide), fun t ht => q1.nam s1.2 (by decide) (by decide +kernel) ht⟩
    refine ⟨_, rfl, rfl, _, rfl, ite2 (fun c => ?_) (fun c => ?_)⟩
    · refine ⟨_, _, rfl, rfl, ⟨by decide, by decide, by decide⟩, (by show 12 ≤ sizeLine; decide), fun l hl => ⟨_, rfl, ?_⟩⟩
      refine rd_take rfl (s1.2.same (same_new hl _)) (by decide) (by decide) fun r H2 r0 r1 s2 => ?_
      obtain ⟨v, vm, ev⟩ := atI_in (xs := ([31, 32, 33, 100, 333, 499, 500, 501, 999, 1000, 1001, 10 ^ 12] : List Int).map V.int) r0 r1
      obtain ⟨n, _, rfl⟩ := List.mem_map.mp vm
      have na : l ≠ a := by
        obtain ⟨x, y, z, e⟩ := s1.2
        exact (ne_of_none e hl).symm
      have s3 := (Stp.of s1.2 (same_new hl _)).trans s2
      refine ⟨_, _, _, _, rfl, rfl, SqL.of (s2.1 _ _ na upd_same), ev, ?_⟩
      exact ⟨(by show 2 ≤ sizeLine; decide), fun t ht => (q1.after s3).num s2.2 (by decide) n ht⟩
    · refine rd_take rfl s1.2 (by decide) (by decide) fun n H2 n0 n1 s2 => ?_
      exact ⟨(by show 2 ≤ sizeLine; decide), fun t ht => (q1.after s2).num s2.2 (by decide) n ht⟩
/-! level side -/
def spLevel (K : PySem.W.Frag) (m : Nat) : Sp := fun vs H Q _ => ∃ (a : Addr) (d : Int), vs = [.ref a, .int d] ∧ Fd H a ∧ 1 ≤ d ∧ d ≤ m ∧ XQ K a m H Q
theorem ok_level {f : Addr} {fd : FuncData} {k m : Nat} (F : Fun K "_law_level_side" "_law_level_side" s_law_level_side f fd) (O_law_take : Ok P w K mg base k "_law_take" P_law_take spTake)
    (O_law_level_side : Ok P w K mg base k "_law_level_side" P_law_level_side (spLevel K m)) : FnOk P w K mg base CX0 (k + 1) f fd P_law_level_side (spLevel K (m + 1)) := by
  refine F.ok sc_law_level_side (fun vs H Q E h => ?_) (fun cdv A outer s H vs Q E hr h => ?_)
  · obtain ⟨a, n, rfl, _⟩ := h
    rfl
  obtain ⟨a, d, rfl, hF, d0, d1, q⟩ := h
  refine ⟨_, (pss_cons (ps_if (PW.pt (pw_or (pt_cmpR op_le (pv 1) pe_int (nomark _)) (pw_or1 (pt_cmpR op_eq (pe_c O_law_take hr (by rfl) (pa_cons (pv 0) (pa_cons pe_int pa_nil))) pe_int (nomark _)))))
      (pss_one (ps_ret (pe_ix ix_list (pe_lst (pa_cons (pe_tup (pa_cons pe_str (pa_cons pe_str pa_nil))) (pa_cons (pe_tup (pa_cons pe_str (pa_cons (pe_c O_law_take hr (by rfl) (pa_cons (pv 0) (pa_cons pe_int pa_nil))) pa_nil))) (pa_cons (pe_tup (pa_cons pe_str (pa_cons (pe_op op_add pe_int (pe_c O_law_take hr (by rfl) (pa_cons (pv 0) (pa_cons pe_int pa_nil)))) pa_nil))) pa_nil)))) (pe_c O_law_take hr (by rfl) (pa_cons (pv 0) (pa_cons pe_int pa_nil))) (fun _ _ => rfl))))
      pss_nil)
    (pss_cons (ps_set (i := 2) sc_law_level_side.nd rfl (Or.inl rfl) (pe_ix ix_list (pe_lst (pa_cons pe_str (pa_cons pe_str (pa_cons pe_str (pa_cons pe_str pa_nil))))) (pe_c O_law_take hr (by rfl) (pa_cons (pv 0) (pa_cons pe_int pa_nil))) (fun _ _ => rfl)))
    (pss_cons (ps_set (i := 3) sc_law_level_side.nd rfl (Or.inl rfl) (pe_c O_law_level_side hr (by rfl) (pa_cons (pv 0) (pa_cons (pe_op op_sub (pv 1) pe_int) pa_nil))))
    (pss_one (ps_ret (pe_tup (pa_cons pe_str (pa_cons (pv 2) (pa_cons (pv 3) (pa_cons (pe_c O_law_level_side hr (by rfl) (pa_cons (pv 0) (pa_cons (pe_op op_sub (pv 1) pe_int) pa_nil))) pa_nil)))))))))), ?_⟩
  refine ⟨_, rfl, _, _, rfl, rfl, _, rfl, ite2' (fun c => ?_) (fun c => rd_take rfl hF (by decide) (by decide) fun r0 H1 r00 r01 s1 => ⟨rfl, _, rfl, ite2 (fun c2 => ?_) (fun c2 => ?_)⟩)⟩
  rotate_left 2
  · refine ⟨(by show 4 ≤ sizeLine; decide), fun l0 hl0 => rd_inS ["+", "-", "*", "-"] rfl s1.2 hl0 rfl (by decide) (by decide) (by decide +kernel) fun w H2 wm wk s2 => ?_⟩
    refine ⟨_, rfl, _, rfl, _, _, rfl, rfl, a, d - 1, rfl, s2.2, by omega, by omega, fun v1 H3 e1 s3 t1 p1 k1 => ?_⟩
    refine ⟨_, rfl, _, rfl, _, rfl, _, rfl, _, _, rfl, rfl, a, d - 1, rfl, s3.2, by omega, by omega, fun v2 H4 e2 s4 t2 p2 k2 => ?_⟩
    refine ⟨(by show 4 ≤ sizeLine; decide), fun t ht => ?_⟩
    exact (((q.after s1).after s2).after (s3.trans s4)).op s4.2 (t1.tu (s4.tu s3.2)) t2 (by omega) wk k1 k2 ht
  all_goals
    have q' := q
    first | have q' := q'.after s1 | skip
    first | have hF := s1.2 | skip
    refine ⟨(by show 2 ≤ sizeLine; decide), fun t1 h1 => ?_⟩
    have f1 := hF.same (same_new h1 (.tup [.str "name", .str "lanes"]))
    refine rd_take rfl f1 (by decide) (by decide) fun n2 H2 _ _ s2 => ?_
    refine ⟨(by show 2 ≤ sizeLine; decide), fun t2 h2 => ?_⟩
    have f2 := s2.2.same (same_new h2 (.tup [.str "number", .int n2]))
    refine rd_take rfl f2 (by decide) (by decide) fun n3 H3 _ _ s3 => ⟨_, _, rfl, rfl, ?_⟩
    refine ⟨(by show 2 ≤ sizeLine; decide), fun t3 h3 => ?_⟩
    have f3 := s3.2.same (same_new h3 (.tup [.str "number", .int (1 + n3)]))
    refine ⟨(by show 3 ≤ sizeLine; decide), fun l hl => ?_⟩
    have f4 := f3.same (same_new hl (.lst [.ref t1, .ref t2, .ref t3]))
    refine rd_take rfl f4 (by decide) (by decide) fun n5 H5 n50 n51 s5 => ?_
    obtain ⟨v, vm, ev⟩ := atI_in (xs := [V.ref t1, .ref t2, .ref t3]) n50 n51
    have na : l ≠ a := by
      obtain ⟨x, y, z, e⟩ := f3
      exact (ne_of_none e hl).symm
    refine ⟨_, _, _, _, rfl, rfl, SqL.of (s5.1 _ _ na upd_same), ev, ?_⟩
    have g1 := Stp.of hF (same_new h1 (.tup [.str "name", .str "lanes"]))
    have g2 := Stp.of s2.2 (same_new h2 (.tup [.str "number", .int n2]))
    have g3 := Stp.of s3.2 (same_new h3 (.tup [.str "number", .int (1 + n3)]))
    have g4 := Stp.of f3 (same_new hl (.lst [.ref t1, .ref t2, .ref t3]))
    have g45 := g4.trans s5
    have g345 := g3.trans g45
    have all := g1.trans (s2.trans (g2.trans (s3.trans g345)))
    simp only [List.mem_cons, List.not_mem_nil, or_false] at vm
    rcases vm with rfl | rfl | rfl
    · exact q' _ _ (.nam "lanes") all ⟨t1, rfl, (s2.trans (g2.trans (s3.trans g345))).tup f1 (SqT.of upd_same)⟩ (by show 1 ≤ m + 1; omega) (show okW "lanes" by decide +kernel)
    · exact q' _ _ (.num n2) all ⟨t2, rfl, (s3.trans g345).tup f2 (SqT.of upd_same)⟩ (by show 1 ≤ m + 1; omega) trivial
    · exact q' _ _ (.num (1 + n3)) all ⟨t3, rfl, g45.tup f3 (SqT.of upd_same)⟩ (by show 1 ≤ m + 1; omega) trivial
end
end K17
namespace K17
open PySem L2 Vk
def spOdd (K : PySem.W.Frag) : Sp := fun vs H Q _ => ∃ (a : Addr) (x y : V) (l r : Ex) (N : Nat), vs = [.ref a, x, y] ∧ Fd H a ∧ l.At K H x ∧ r.At K H y ∧ l.ok ∧ r.ok ∧ max l.dep r.dep + 1 ≤ N ∧ XQ K a N H Q
def spJoined (K : PySem.W.Frag) : Sp := fun vs H Q _ => ∃ (a : Addr) (x y : V) (odd : Bool) (l r : Ex) (N : Nat), vs = [.ref a, x, y, .bl odd] ∧ Fd H a ∧ l.At K H x ∧ r.At K H y ∧ l.ok ∧ r.ok ∧ max l.dep r.dep + 1 ≤ N ∧ XQ K a N H Q
def spTree (K : PySem.W.Frag) (m : Nat) : Sp := fun vs H Q _ => ∃ (a : Addr) (d : Int) (odd : Bool), vs = [.ref a, .int d, .bl odd] ∧ Fd H a ∧ 1 ≤ d ∧ d ≤ m ∧ XQ K a (m + 2) H Q
def spTall (K : PySem.W.Frag) : Sp := fun vs H Q _ => ∃ (a : Addr) (odd : Bool), vs = [.ref a, .bl odd] ∧ Fd H a ∧ XQ K a 7 H Q
section
variable {P : Program} {w : World} {K : PySem.W.Frag} {mg : Str → Option Value} {base : Heap}
theorem ok_odd {f : Addr} {fd : FuncData} {k : Nat} (F : Fun K "_law_odd_one" "_law_odd_one" s_law_odd_one f fd) (O_law_take : Ok P w K mg base k "_law_take" P_law_take spTake) : FnOk P w K mg base CX0 (k + 1) f fd P_law_odd_one (spOdd K) := by
  refine F.ok sc_law_odd_one (fun vs H Q E h => ?_) (fun cdv A outer s H vs Q E hr h => ?_)
  · obtain ⟨a, x, y, l, r, N, rfl, _⟩ := h
    rfl
  obtain ⟨a, x, y, el, er, N, rfl, hF, hl0, hr0, kl, kr, hN, q⟩ := h
  refine ⟨_, (pss_cons (ps_set (i := 3) sc_law_odd_one.nd rfl (Or.inl rfl) (pe_c O_law_take hr (by rfl) (pa_cons (pv 0) (pa_cons pe_int pa_nil))))
    (pss_cons (ps_if (pt_cmpR op_eq (pv 3) pe_int (nomark _))
      (pss_one (ps_ret (pe_tup (pa_cons pe_str (pa_cons pe_str (pa_cons (pv 1) pa_nil))))))
      pss_nil)
    (pss_cons (ps_if (pt_cmpR op_eq (pv 3) pe_int (nomark _))
      (pss_one (ps_ret (pe_tup (pa_cons pe_str (pa_cons (pe_ix ix_list (pe_lst (pa_cons pe_str (pa_cons pe_str pa_nil))) (pe_c O_law_take hr (by rfl) (pa_cons (pv 0) (pa_cons pe_int pa_nil))) (fun _ _ => rfl)) (pa_cons (pe_tup (pa_cons (pv 1) (pa_cons (pv 2) pa_nil))) pa_nil))))))
      pss_nil)
    (pss_cons (ps_if (pt_cmpR op_eq (pv 3) pe_int (nomark _))
      (pss_one (ps_ret (pe_ix ix_list (pe_lst (pa_cons (pe_tup (pa_cons pe_str (pa_cons pe_str (pa_cons (pe_tup (pa_cons (pv 1) pa_nil)) pa_nil)))) (pa_cons (pe_tup (pa_cons pe_str (pa_cons pe_str (pa_cons (pe_tup (pa_cons (pv 1) (pa_cons (pv 2) (pa_cons (pv 2) pa_nil)))) pa_nil)))) pa_nil))) (pe_c O_law_take hr (by rfl) (pa_cons (pv 0) (pa_cons pe_int pa_nil))) (fun _ _ => rfl))))
      pss_nil)
    (pss_one (ps_ret (pe_tup (pa_cons pe_str (pa_cons (pe_ix ix_list (pe_lst (pa_cons pe_str (pa_cons pe_str (pa_cons pe_str (pa_cons pe_str (pa_cons pe_str (pa_cons pe_str (pa_cons pe_str (pa_cons pe_str pa_nil))))))))) (pe_c O_law_take hr (by rfl) (pa_cons (pv 0) (pa_cons pe_int pa_nil))) (fun _ _ => rfl)) (pa_cons (pv 1) (pa_cons (pv 2) pa_nil))))))))))), ?_⟩
  refine rd_take rfl hF (by decide) (by decide) fun kind H1 k0 k1 s1 => ?_
  have q1 := q.after s1
  have hl := hl0.tu (s1.tu hF)
  have hr1 := hr0.tu (s1.tu hF)
  refine ⟨_, rfl, rfl, _, rfl, ite2 (fun c => ?_) (fun c => ?_)⟩
  · exact ⟨_, rfl, (by show 3 ≤ sizeLine; decide), fun t ht => q1.rd s1.2 hl (by omega) (by decide +kernel) kl ht⟩
  refine ⟨_, rfl, rfl, _, rfl, ite2 (fun c => ?_) (fun c => ?_)⟩
  · refine ⟨(by show 2 ≤ sizeLine; decide), fun l hl0 => rd_inS ["min", "max"] rfl s1.2 hl0 rfl (by decide) (by decide) (by decide +kernel) fun w H2 wm wk s2 => ?_⟩
    refine ⟨_, rfl, _, rfl, (by show 2 ≤ sizeLine; decide), fun t1 h1 => ⟨(by show 3 ≤ sizeLine; decide), fun t ht => ?_⟩⟩
    have g1 := same_new h1 (.tup [x, y])
    have g2 := same_new ht (.tup [.str "call", .str w, .ref t1])
    exact (q1.after s2) _ _ (.c2 w el er) (Stp.of s2.2 (g1.trans g2)) ⟨t, t1, x, y, rfl, SqT.of upd_same, Same.tup g2 (SqT.of upd_same), (hl.tu (s2.tu s1.2)).tu (Same.tu (g1.trans g2)), (hr1.tu (s2.tu s1.2)).tu (Same.tu (g1.trans g2))⟩ (by show max el.dep er.dep + 1 ≤ N; omega) ⟨wk, kl, kr⟩
  refine ⟨_, rfl, rfl, _, rfl, ite2 (fun c => ?_) (fun c => ?_)⟩
  · refine ⟨_, rfl, (by show 1 ≤ sizeLine; decide), fun t1 h1 => ⟨(by show 3 ≤ sizeLine; decide), fun t2 h2 => ?_⟩⟩
    refine ⟨_, rfl, _, rfl, _, rfl, (by show 3 ≤ sizeLine; decide), fun t3 h3 => ⟨(by show 3 ≤ sizeLine; decide), fun t4 h4 => ?_⟩⟩
    have g1 := same_new h1 (.tup [x])
    have g2 := same_new h2 (.tup [.str "call", .str "nth", .ref t1])
    have g3 := same_new h3 (.tup [x, y, y])
    have g4 := same_new h4 (.tup [.str "call", .str "pick", .ref t3])
    have ga := g1.trans (g2.trans (g3.trans g4))
    refine ⟨(by show 2 ≤ sizeLine; decide), fun l hl0 => rd_in [.ref t2, .ref t4] rfl (s1.2.same ga) hl0 rfl (by decide) (by decide) fun v H2 vm s2 => ?_⟩
    have gs := (Stp.of s1.2 ga).trans s2
    have f4 := s1.2.same ga
    simp only [List.mem_cons, List.not_mem_nil, or_false] at vm
    rcases vm with rfl | rfl
    · exact q1 _ _ (.c1 "nth" el) gs ⟨t2, t1, x, rfl, s2.tup f4 (Same.tup (g3.trans g4) (SqT.of upd_same)), s2.tup f4 (Same.tup (g2.trans (g3.trans g4)) (SqT.of upd_same)), hl.tu (gs.tu s1.2)⟩ (by show el.dep + 1 ≤ N; omega) ⟨(by decide +kernel), kl⟩
    · exact q1 _ _ (.c3 "pick" el er er) gs ⟨t4, t3, x, y, y, rfl, s2.tup f4 (SqT.of upd_same), s2.tup f4 (Same.tup g4 (SqT.of upd_same)), hl.tu (gs.tu s1.2), hr1.tu (gs.tu s1.2), hr1.tu (gs.tu s1.2)⟩ (by show max el.dep (max er.dep er.dep) + 1 ≤ N; omega) ⟨(by decide +kernel), kl, kr, kr⟩
  · refine ⟨(by show 8 ≤ sizeLine; decide), fun l hl0 => rd_inS ["div", "mod", "<", "<=", ">", ">=", "=", "!="] rfl s1.2 hl0 rfl (by decide) (by decide) (by decide +kernel) fun w H2 wm wk s2 => ?_⟩
    exact ⟨_, rfl, _, rfl, (by show 4 ≤ sizeLine; decide), fun t ht => (q1.after s2).op s2.2 (hl.tu (s2.tu s1.2)) (hr1.tu (s2.tu s1.2)) hN wk kl kr ht⟩
theorem ok_joined {f : Addr} {fd : FuncData} {k : Nat} (F : Fun K "_law_joined" "_law_joined" s_law_joined f fd) (O_law_take : Ok P w K mg base k "_law_take" P_law_take spTake) (O_law_odd_one : Ok P w K mg base k "_law_odd_one" P_law_odd_one (spOdd K)) : FnOk P w K mg base CX0 (k + 1) f fd P_law_joined (spJoined K) := by
  refine F.ok sc_law_joined (fun vs H Q E h => ?_) (fun cdv A outer s H vs Q E hr h => ?_)
  · obtain ⟨a, x, y, o, l, r, N, rfl, _⟩ := h
    rfl
  obtain ⟨a, x, y, odd, el, er, N, rfl, hF, hl0, hr0, kl, kr, hN, q⟩ := h
  refine ⟨_, (pss_cons (ps_set (i := 4) sc_law_joined.nd rfl (Or.inl rfl) (pe_c O_law_take hr (by rfl) (pa_cons (pv 0) (pa_cons pe_int pa_nil))))
    (pss_cons (ps_if (PW.pt (pw_and (pt_val (pv 3)) (pw_and1 (pt_cmpR op_eq (pe_c O_law_take hr (by rfl) (pa_cons (pv 0) (pa_cons pe_int pa_nil))) pe_int (nomark _)))))
      (pss_one (ps_ret (pe_c O_law_odd_one hr (by rfl) (pa_cons (pv 0) (pa_cons (pv 1) (pa_cons (pv 2) pa_nil))))))
      pss_nil)
    (pss_cons (ps_if (pt_cmpR op_lt (pv 4) pe_int (nomark _))
      (pss_one (ps_ret (pe_tup (pa_cons pe_str (pa_cons pe_str (pa_cons (pv 1) (pa_cons (pv 2) pa_nil)))))))
      pss_nil)
    (pss_cons (ps_if (pt_cmpR op_lt (pv 4) pe_int (nomark _))
      (pss_one (ps_ret (pe_tup (pa_cons pe_str (pa_cons pe_str (pa_cons (pv 1) (pa_cons (pv 2) pa_nil)))))))
      pss_nil)
    (pss_one (ps_ret (pe_tup (pa_cons pe_str (pa_cons pe_str (pa_cons (pv 1) (pa_cons (pv 2) pa_nil))))))))))), ?_⟩
  refine rd_take rfl hF (by decide) (by decide) fun kind H1 k0 k1 s1 => ?_
  have rest : ∀ H2, Stp a H1 H2 → XQ K a N H2 Q ∧ el.At K H2 x ∧ er.At K H2 y ∧ Fd H2 a := fun H2 s2 => ⟨q.after (s1.trans s2), hl0.tu ((s1.trans s2).tu hF), hr0.tu ((s1.trans s2).tu hF), s2.2⟩
  refine ⟨_, rfl, odd, rfl, ite2 (fun c => rd_take rfl s1.2 (by decide) (by decide) fun r2 H2 _ _ s2 => ⟨rfl, _, rfl, ite2 (fun c => ?_) (fun c => ?_)⟩) (fun c => ?_)⟩
  · obtain ⟨q2, hl, hr1, f2⟩ := rest H2 s2
    exact ⟨_, rfl, _, rfl, _, rfl, a, x, y, el, er, N, rfl, f2, hl, hr1, kl, kr, hN, q2⟩
  · obtain ⟨q2, hl, hr1, f2⟩ := rest _ s2
    refine ⟨_, rfl, _, _, rfl, rfl, _, rfl, ite2 (fun c => ?_) (fun c => ?_)⟩
    · exact ⟨_, rfl, _, rfl, (by show 4 ≤ sizeLine; decide), fun t ht => q2.op f2 hl hr1 hN (by decide +kernel) kl kr ht⟩
    refine ⟨_, rfl, _, _, rfl, rfl, _, rfl, ite2 (fun c => ?_) (fun c => ?_)⟩
    · exact ⟨_, rfl, _, rfl, (by show 4 ≤ sizeLine; decide), fun t ht => q2.op f2 hl hr1 hN (by decide +kernel) kl kr ht⟩
    · exact ⟨_, rfl, _, rfl, (by show 4 ≤ sizeLine; decide), fun t ht => q2.op f2 hl hr1 hN (by decide +kernel) kl kr ht⟩
  · obtain ⟨q2, hl, hr1, f2⟩ := rest _ (Stp.refl s1.2)
    refine ⟨_, rfl, _, _, rfl, rfl, _, rfl, ite2 (fun c => ?_) (fun c => ?_)⟩
    · exact ⟨_, rfl, _, rfl, (by show 4 ≤ sizeLine; decide), fun t ht => q2.op f2 hl hr1 hN (by decide +kernel) kl kr ht⟩
    refine ⟨_, rfl, _, _, rfl, rfl, _, rfl, ite2 (fun c => ?_) (fun c => ?_)⟩
    · exact ⟨_, rfl, _, rfl, (by show 4 ≤ sizeLine; decide), fun t ht => q2.op f2 hl hr1 hN (by decide +kernel) kl kr ht⟩
    · exact ⟨_, rfl, _, rfl, (by show 4 ≤ sizeLine; decide), fun t ht => q2.op f2 hl hr1 hN (by decide +kernel) kl kr ht⟩
theorem ok_tree {f : Addr} {fd : FuncData} {k m : Nat} (F : Fun K "_law_tree" "_law_tree" s_law_tree f fd) (mmin : mg "min" = none) (O_law_take : Ok P w K mg base k "_law_take" P_law_take spTake) (O_law_leaf : Ok P w K mg base k "_law_leaf" P_law_leaf (spLeaf K))
    (O_law_level_side : Ok P w K mg base k "_law_level_side" P_law_level_side (spLevel K 2)) (O_law_joined : Ok P w K mg base k "_law_joined" P_law_joined (spJoined K)) (O_law_tree : Ok P w K mg base k "_law_tree" P_law_tree (spTree K m)) : FnOk P w K mg base CX0 (k + 1) f fd P_law_tree (spTree K (m + 1)) := by
  refine F.ok sc_law_tree (fun vs H Q E h => ?_) (fun cdv A outer s H vs Q E hr h => ?_)
  · obtain ⟨a, d, o, rfl, _⟩ := h
    rfl
  obtain ⟨a, d, odd, rfl, hF, d0, d1, q⟩ := h
  refine ⟨_, (pss_cons (ps_set (i := 3) sc_law_tree.nd rfl (Or.inl rfl) (pe_c O_law_take hr (by rfl) (pa_cons (pv 0) (pa_cons pe_int pa_nil))))
    (pss_cons (ps_if (PW.pt (pw_or (pt_cmpR op_le (pv 1) pe_int (nomark _)) (pw_or1 (pt_cmpR op_eq (pv 3) pe_int (nomark _)))))
      (pss_one (ps_ret (pe_c O_law_leaf hr (by rfl) (pa_cons (pv 0) (pa_cons (pv 2) pa_nil)))))
      pss_nil)
    (pss_cons (ps_if (pt_cmpR op_lt (pv 3) pe_int (nomark _))
      (pss_cons (ps_set (i := 4) sc_law_tree.nd rfl (Or.inl rfl) (pe_c O_law_level_side hr (by rfl) (pa_cons (pv 0) (pa_cons (pe_callB (call_min2 rfl) (by rfl) mmin (by decide +kernel) (pa_cons pe_int (pa_cons (pe_op op_sub (pv 1) pe_int) pa_nil))) pa_nil))))
      (pss_cons (ps_set (i := 5) sc_law_tree.nd rfl (Or.inl rfl) (pe_c O_law_tree hr (by rfl) (pa_cons (pv 0) (pa_cons (pe_op op_sub (pv 1) pe_int) (pa_cons (pv 2) pa_nil)))))
      (pss_cons (ps_if (pt_cmpR op_eq (pe_c O_law_take hr (by rfl) (pa_cons (pv 0) (pa_cons pe_int pa_nil))) pe_int (nomark _))
        (pss_one (ps_ret (pe_tup (pa_cons pe_str (pa_cons pe_str (pa_cons (pv 4) (pa_cons (pv 5) pa_nil)))))))
        pss_nil)
      (pss_one (ps_ret (pe_tup (pa_cons pe_str (pa_cons pe_str (pa_cons (pv 5) (pa_cons (pv 4) pa_nil))))))))))
      pss_nil)
    (pss_cons (ps_set (i := 6) sc_law_tree.nd rfl (Or.inl rfl) (pe_c O_law_tree hr (by rfl) (pa_cons (pv 0) (pa_cons (pe_op op_sub (pv 1) pe_int) (pa_cons (pv 2) pa_nil)))))
    (pss_one (ps_ret (pe_c O_law_joined hr (by rfl) (pa_cons (pv 0) (pa_cons (pv 6) (pa_cons (pe_c O_law_tree hr (by rfl) (pa_cons (pv 0) (pa_cons (pe_op op_sub (pv 1) pe_int) (pa_cons (pv 2) pa_nil)))) (pa_cons (pv 2) pa_nil))))))))))), ?_⟩
  refine rd_take rfl hF (by decide) (by decide) fun kind H1 k0 k1 s1 => ?_
  have q1 := q.after s1
  have leaf : XQ K a 1 H1 Q := fun v H' e s h1 h2 h3 => q1 v H' e s h1 (by omega) h3
  refine ⟨_, rfl, _, _, rfl, rfl, _, rfl, ite2' (fun c => ⟨_, rfl, _, rfl, a, odd, rfl, s1.2, leaf⟩) (fun c => ⟨_, rfl, rfl, _, rfl, ite2 (fun c2 => ⟨_, rfl, _, rfl, a, odd, rfl, s1.2, leaf⟩) (fun c2 => ?_)⟩)⟩
  refine ⟨_, rfl, _, _, rfl, rfl, _, rfl, ite2 (fun c3 => ?_) (fun c3 => ?_)⟩
  · refine ⟨_, rfl, _, rfl, _, _, rfl, rfl, _, _, rfl, a, _, rfl, s1.2, ?_, ?_, fun vs' H2 es s2 t1 p1 o1 => ?_⟩
    · show (1 : Int) ≤ if d - 1 < 2 then d - 1 else 2
      split <;> omega
    · show (if d - 1 < 2 then d - 1 else 2) ≤ (2 : Int)
      split <;> omega
    refine ⟨_, rfl, _, rfl, _, _, rfl, rfl, _, rfl, a, d - 1, odd, rfl, s2.2, by omega, by omega, fun vo H3 eo s3 t2 p2 o2 => ?_⟩
    refine rd_take rfl s3.2 (by decide) (by decide) fun r4 H4 _ _ s4 => ⟨rfl, _, rfl, ite2 (fun c => ?_) (fun c => ?_)⟩
    · exact ⟨_, rfl, _, rfl, (by show 4 ≤ sizeLine; decide), fun t ht => (q1.after (s2.trans (s3.trans s4))).op s4.2 (t1.tu ((s3.trans s4).tu s2.2)) (t2.tu (s4.tu s3.2)) (by omega) (by decide +kernel) o1 o2 ht⟩
    · exact ⟨_, rfl, _, rfl, (by show 4 ≤ sizeLine; decide), fun t ht => (q1.after (s2.trans (s3.trans s4))).op s4.2 (t2.tu (s4.tu s3.2)) (t1.tu ((s3.trans s4).tu s2.2)) (by omega) (by decide +kernel) o2 o1 ht⟩
  · refine ⟨_, rfl, _, rfl, _, _, rfl, rfl, _, rfl, a, d - 1, odd, rfl, s1.2, by omega, by omega, fun vl H2 e1 s2 t1 p1 o1 => ?_⟩
    refine ⟨_, rfl, _, rfl, _, rfl, _, rfl, _, _, rfl, rfl, _, rfl, a, d - 1, odd, rfl, s2.2, by omega, by omega, fun vo H3 e2 s3 t2 p2 o2 => ?_⟩
    exact ⟨_, rfl, a, vl, vo, odd, e1, e2, m + 1 + 2, rfl, s3.2, t1.tu (s3.tu s2.2), t2, o1, o2, by omega, q1.after (s2.trans s3)⟩
theorem ok_tall {f : Addr} {fd : FuncData} {k : Nat} (F : Fun K "_law_tall" "_law_tall" s_law_tall f fd) (mrange : mg "range" = none) (O_law_take : Ok P w K mg base k "_law_take" P_law_take spTake) (O_law_leaf : Ok P w K mg base k "_law_leaf" P_law_leaf (spLeaf K))
    (O_law_joined : Ok P w K mg base k "_law_joined" P_law_joined (spJoined K)) : FnOk P w K mg base CX0 (k + 1) f fd P_law_tall (spTall K) := by
  refine F.ok sc_law_tall (fun vs H Q E h => ?_) (fun cdv A outer s H vs Q E hr h => ?_)
  · obtain ⟨a, o, rfl, _⟩ := h
    rfl
  obtain ⟨a, odd, rfl, hF, q⟩ := h
  refine ⟨_, (pss_cons (ps_set (i := 2) sc_law_tall.nd rfl (Or.inl rfl) (pe_c O_law_leaf hr (by rfl) (pa_cons (pv 0) (pa_cons (pv 1) pa_nil))))
    (pss_cons (ps_for PassesOwn.never rfl (pi_range1 (by rfl) mrange (pa_cons (pe_c O_law_take hr (by rfl) (pa_cons (pv 0) (pa_cons pe_int pa_nil))) pa_nil)) (pg_name (i := 3) sc_law_tall.nd rfl (Or.inl rfl))
      (pss_cons (ps_set (i := 4) sc_law_tall.nd rfl (Or.inl rfl) (pe_c O_law_leaf hr (by rfl) (pa_cons (pv 0) (pa_cons (pv 1) pa_nil))))
      (pss_one (ps_if (pt_cmpR op_eq (pe_c O_law_take hr (by rfl) (pa_cons (pv 0) (pa_cons pe_int pa_nil))) pe_int (nomark _))
        (pss_one (ps_set (i := 2) sc_law_tall.nd rfl (Or.inl rfl) (pe_c O_law_joined hr (by rfl) (pa_cons (pv 0) (pa_cons (pv 2) (pa_cons (pv 4) (pa_cons (pv 1) pa_nil)))))))
        (pss_one (ps_set (i := 2) sc_law_tall.nd rfl (Or.inl rfl) (pe_c O_law_joined hr (by rfl) (pa_cons (pv 0) (pa_cons (pv 4) (pa_cons (pv 2) (pa_cons (pv 1) pa_nil)))))))))))
    (pss_one (ps_ret (pv 2))))), ?_⟩
  refine ⟨_, rfl, _, rfl, a, odd, rfl, hF, fun v0 H1 e0 s1 t0 p0 o0 => ?_⟩
  refine rd_take rfl s1.2 (by decide) (by decide) fun n H2 n0 n1 s2 => ?_
  refine ⟨n, rfl, by omega, by omega, for_range (n := n.toNat) (fun i σ H' => ∃ (v : V) (e : Ex) (y3 y4 : Option V), σ = [some (.ref a), some (.bl odd), some v, y3, y4] ∧ Stp a H H' ∧ e.At K H' v ∧ e.dep ≤ 1 + i ∧ e.ok) ⟨v0, e0, _, _, rfl, s1.trans s2, t0.tu (s2.tu s1.2), by omega, o0⟩ (fun i σ H' hi hp => ?_) (fun σ H' hp => ?_)⟩
  · obtain ⟨v, e, y3, y4, rfl, g, t, p, o⟩ := hp
    refine ⟨_, rfl, _, rfl, a, odd, rfl, g.2, fun vs' H3 es s3 t3 p3 o3 => ?_⟩
    refine rd_take rfl s3.2 (by decide) (by decide) fun r4 H4 _ _ s4 => ⟨rfl, _, rfl, ite2 (fun c => ?_) (fun c => ?_)⟩
    · refine ⟨_, rfl, _, rfl, _, rfl, _, rfl, a, v, vs', odd, e, es, 2 + i, rfl, s4.2, t.tu ((s3.trans s4).tu g.2), t3.tu (s4.tu s3.2), o, o3, by omega, fun v5 H5 e5 s5 t5 p5 o5 => ?_⟩
      exact ⟨v5, e5, _, _, rfl, g.trans ((s3.trans s4).trans s5), t5, by omega, o5⟩
    · refine ⟨_, rfl, _, rfl, _, rfl, _, rfl, a, vs', v, odd, es, e, 2 + i, rfl, s4.2, t3.tu (s4.tu s3.2), t.tu ((s3.trans s4).tu g.2), o3, o, by omega, fun v5 H5 e5 s5 t5 p5 o5 => ?_⟩
      exact ⟨v5, e5, _, _, rfl, g.trans ((s3.trans s4).trans s5), t5, by omega, o5⟩
  · obtain ⟨v, e, y3, y4, rfl, g, t, p, o⟩ := hp
    exact ⟨_, rfl, q v H' e g t (by omega) o⟩
end
end K17
namespace K17
open PySem L2 Vk
/-! the mathematics of lines -/
def pab (i : Int) : Int := if i < 0 then -i else i
def pmx (i j : Int) : Int := if j > i then j else i
def chk (p : Int × Int) : Option (Int × Int) := if pmx (pab p.1) (pab p.2) > 1000 then none else some p
def joinL (s : Str) (a b : Int × Int) : Option (Int × Int) :=
  if s = "+" then some (a.1 + b.1, a.2 + b.2) else if s = "-" then some (a.1 - b.1, a.2 - b.2) else if s = "*" then (if a.1 = 0 then some (a.2 * b.1, a.2 * b.2) else if b.1 = 0 then some (a.1 * b.2, a.2 * b.2) else none) else none
theorem joinL_add {a b : Int × Int} : joinL "+" a b = some (a.1 + b.1, a.2 + b.2) := if_pos rfl
theorem joinL_sub {a b : Int × Int} : joinL "-" a b = some (a.1 - b.1, a.2 - b.2) := by unfold joinL; rw [if_neg (by decide +kernel), if_pos rfl]
theorem joinL_mul {a b : Int × Int} : joinL "*" a b = if a.1 = 0 then some (a.2 * b.1, a.2 * b.2) else if b.1 = 0 then some (a.1 * b.2, a.2 * b.2) else none := by unfold joinL; rw [if_neg (by decide +kernel), if_neg (by decide +kernel), if_pos rfl]
theorem joinL_oth {s : Str} {a b : Int × Int} (h1 : s ≠ "+") (h2 : s ≠ "-") (h3 : s ≠ "*") : joinL s a b = none := by unfold joinL; rw [if_neg h1, if_neg h2, if_neg h3]
def rawE (w : Int) : Ex → Option (Int × Int)
  | .num n => some (0, n)
  | .nam x => if x = "me" then some (1, 0) else if x = "lanes" then some (0, w) else none
  | .op s l r => match (rawE w l).bind chk, (rawE w r).bind chk with
    | some a, some b => joinL s a b
    | _, _ => none
  | _ => none
def lineE (w : Int) (e : Ex) : Option (Int × Int) := (rawE w e).bind chk
theorem rawE_op (w : Int) (s : Str) (l r : Ex) : rawE w (.op s l r) = match lineE w l, lineE w r with
    | some a, some b => joinL s a b
    | _, _ => none := rfl
theorem chk_some {p q : Int × Int} (h : chk p = some q) : p = q ∧ -1000 ≤ q.1 ∧ q.1 ≤ 1000 ∧ -1000 ≤ q.2 ∧ q.2 ≤ 1000 := by
  unfold chk at h
  split at h
  · cases h
  · rename_i c
    cases h
    unfold pmx pab at c
    refine ⟨rfl, ?_⟩
    split at c <;> split at c <;> split at c <;> omega
theorem lineE_some {w : Int} {e : Ex} {q : Int × Int} (h : lineE w e = some q) : rawE w e = some q ∧ -1000 ≤ q.1 ∧ q.1 ≤ 1000 ∧ -1000 ≤ q.2 ∧ q.2 ≤ 1000 := by
  unfold lineE at h
  cases e0 : rawE w e with
  | none => rw [e0] at h; cases h
  | some p =>
    rw [e0] at h
    have c := chk_some (p := p) h
    exact ⟨by rw [c.1], c.2⟩
def LRes (mk : List V → HO) (H : Hp) : Option (Int × Int) → V → Prop
  | none, r => r = .non
  | some p, r => ∃ a, r = .ref a ∧ H a = some (mk [.int p.1, .int p.2])
theorem LRes.same {mk : List V → HO} {H H' : Hp} (s : Same H H') : ∀ {o : Option (Int × Int)} {r : V}, LRes mk H o r → LRes mk H' o r
  | none, _, h => h
  | some _, _, ⟨a, e, h⟩ => ⟨a, e, s _ _ h⟩
def spLL (K : PySem.W.Frag) (mk : List V → HO) (n : Nat) : Sp := fun vs H Q _ => ∃ (v : V) (e : Ex) (w : Int), vs = [v, .int w] ∧ e.At K H v ∧ e.ok ∧ e.dep ≤ n ∧ n ≤ 32 ∧ ∀ r H', Same H H' → LRes mk H' (lineE w e) r → Q r H'
section
variable {P : Program} {w : World} {K : PySem.W.Frag} {mg : Str → Option Value} {base : Heap}
theorem ok_law_line {f : Addr} {fd : FuncData} {k n : Nat} (F : Fun K "_law_line" "_law_line" s_law_line f fd) (mabs : mg "abs" = none) (mmax : mg "max" = none)
    (O_law_line : Ok P w K mg base k "_law_line" P_law_line (spLL K .lst n)) : FnOk P w K mg base CX0 (k + 1) f fd P_law_line (spLL K .lst (n + 1)) := by
  refine F.ok sc_law_line (fun vs H Q E h => ?_) (fun cdv A outer s H vs Q E hr h => ?_)
  · obtain ⟨v, e, x, rfl, _⟩ := h
    rfl
  obtain ⟨v, e, wd, rfl, hAt, hok, hdep, hn, q⟩ := h
  refine ⟨_, (pss_cutAt 5 (pss_cons (ps_set (i := 2) sc_law_line.nd rfl (Or.inl rfl) pe_non)
    (pss_cons (ps_if (pt_cmpR op_eq (pe_ix ix_tup (pv 0) pe_int (fun _ _ => rfl)) pe_str (nomark _))
      (pss_one (ps_set (i := 2) sc_law_line.nd rfl (Or.inl rfl) (pe_lst (pa_cons pe_int (pa_cons (pe_ix ix_tup (pv 0) pe_int (fun _ _ => rfl)) pa_nil)))))
      pss_nil)
    (pss_cons (ps_if (PW.pt (pw_and (pt_cmpR op_eq (pe_ix ix_tup (pv 0) pe_int (fun _ _ => rfl)) pe_str (nomark _)) (pw_and1 (pt_cmpR op_eq (pe_ix ix_tup (pv 0) pe_int (fun _ _ => rfl)) pe_str (nomark _)))))
      (pss_one (ps_set (i := 2) sc_law_line.nd rfl (Or.inl rfl) (pe_lst (pa_cons pe_int (pa_cons pe_int pa_nil)))))
      pss_nil)
    (pss_cons (ps_if (PW.pt (pw_and (pt_cmpR op_eq (pe_ix ix_tup (pv 0) pe_int (fun _ _ => rfl)) pe_str (nomark _)) (pw_and1 (pt_cmpR op_eq (pe_ix ix_tup (pv 0) pe_int (fun _ _ => rfl)) pe_str (nomark _)))))
      (pss_one (ps_set (i := 2) sc_law_line.nd rfl (Or.inl rfl) (pe_lst (pa_cons pe_int (pa_cons (pv 1) pa_nil)))))
      pss_nil)
    (pss_one (ps_if (pt_cmpR op_eq (pe_ix ix_tup (pv 0) pe_int (fun _ _ => rfl)) pe_str (nomark _))
      (pss_cons (ps_set (i := 3) sc_law_line.nd rfl (Or.inl rfl) (pe_c O_law_line hr (by rfl) (pa_cons (pe_ix ix_tup (pv 0) pe_int (fun _ _ => rfl)) (pa_cons (pv 1) pa_nil))))
      (pss_cons (ps_set (i := 4) sc_law_line.nd rfl (Or.inl rfl) (pe_c O_law_line hr (by rfl) (pa_cons (pe_ix ix_tup (pv 0) pe_int (fun _ _ => rfl)) (pa_cons (pv 1) pa_nil))))
      (pss_one (ps_if (PW.pt (pw_and (pt_cmpR op_notN (pv 3) pe_non (nomark _)) (pw_and1 (pt_cmpR op_notN (pv 4) pe_non (nomark _)))))
        (pss_cons (ps_if (pt_cmpR op_eq (pe_ix ix_tup (pv 0) pe_int (fun _ _ => rfl)) pe_str (nomark _))
          (pss_one (ps_set (i := 2) sc_law_line.nd rfl (Or.inl rfl) (pe_lst (pa_cons (pe_op op_add (pe_ix ix_list (pv 3) pe_int (fun _ _ => rfl)) (pe_ix ix_list (pv 4) pe_int (fun _ _ => rfl))) (pa_cons (pe_op op_add (pe_ix ix_list (pv 3) pe_int (fun _ _ => rfl)) (pe_ix ix_list (pv 4) pe_int (fun _ _ => rfl))) pa_nil)))))
          pss_nil)
        (pss_cons (ps_if (pt_cmpR op_eq (pe_ix ix_tup (pv 0) pe_int (fun _ _ => rfl)) pe_str (nomark _))
          (pss_one (ps_set (i := 2) sc_law_line.nd rfl (Or.inl rfl) (pe_lst (pa_cons (pe_op op_sub (pe_ix ix_list (pv 3) pe_int (fun _ _ => rfl)) (pe_ix ix_list (pv 4) pe_int (fun _ _ => rfl))) (pa_cons (pe_op op_sub (pe_ix ix_list (pv 3) pe_int (fun _ _ => rfl)) (pe_ix ix_list (pv 4) pe_int (fun _ _ => rfl))) pa_nil)))))
          pss_nil)
        (pss_cons (ps_if (PW.pt (pw_and (pt_cmpR op_eq (pe_ix ix_tup (pv 0) pe_int (fun _ _ => rfl)) pe_str (nomark _)) (pw_and1 (pt_cmpR op_eq (pe_ix ix_list (pv 4) pe_int (fun _ _ => rfl)) pe_int (nomark _)))))
          (pss_one (ps_set (i := 2) sc_law_line.nd rfl (Or.inl rfl) (pe_lst (pa_cons (pe_op op_mul (pe_ix ix_list (pv 3) pe_int (fun _ _ => rfl)) (pe_ix ix_list (pv 4) pe_int (fun _ _ => rfl))) (pa_cons (pe_op op_mul (pe_ix ix_list (pv 3) pe_int (fun _ _ => rfl)) (pe_ix ix_list (pv 4) pe_int (fun _ _ => rfl))) pa_nil)))))
          pss_nil)
        (pss_one (ps_if (PW.pt (pw_and (pt_cmpR op_eq (pe_ix ix_tup (pv 0) pe_int (fun _ _ => rfl)) pe_str (nomark _)) (pw_and1 (pt_cmpR op_eq (pe_ix ix_list (pv 3) pe_int (fun _ _ => rfl)) pe_int (nomark _)))))
          (pss_one (ps_set (i := 2) sc_law_line.nd rfl (Or.inl rfl) (pe_lst (pa_cons (pe_op op_mul (pe_ix ix_list (pv 4) pe_int (fun _ _ => rfl)) (pe_ix ix_list (pv 3) pe_int (fun _ _ => rfl))) (pa_cons (pe_op op_mul (pe_ix ix_list (pv 4) pe_int (fun _ _ => rfl)) (pe_ix ix_list (pv 3) pe_int (fun _ _ => rfl))) pa_nil)))))
          pss_nil)))))
        pss_nil))))
      pss_nil))))))
    (pss_cons (ps_if (PW.pt (pw_or (pt_cmpR op_isN (pv 2) pe_non (nomark _)) (pw_or1 (pt_cmpR op_gt (pe_callB (call_max2 rfl) (by rfl) mmax (by decide +kernel) (pa_cons (pe_callB call_abs (by rfl) mabs (by decide +kernel) (pa_cons (pe_ix ix_list (pv 2) pe_int (fun _ _ => rfl)) pa_nil)) (pa_cons (pe_callB call_abs (by rfl) mabs (by decide +kernel) (pa_cons (pe_ix ix_list (pv 2) pe_int (fun _ _ => rfl)) pa_nil)) pa_nil))) pe_int (nomark _)))))
      (pss_one (ps_ret pe_non))
      pss_nil)
    (pss_one (ps_ret (pv 2))))), ?_⟩
  refine ⟨fun σ' H' => ∃ r y3 y4, σ' = [some v, some (.int wd), some r, y3, y4] ∧ Same H H' ∧ LRes .lst H' (rawE wd e) r, ?_, fun σ' H' hm => ?_⟩
  · cases e with
    | num m =>
      obtain ⟨a, rfl, hT⟩ := hAt
      refine ⟨_, rfl, _, _, _, _, rfl, rfl, hT, atI_nat (j := 0) rfl, rfl, _, rfl, itY ?_⟩
      refine ⟨_, rfl, _, _, _, _, rfl, rfl, hT, atI_nat (j := 1) rfl, (by show 2 ≤ sizeLine; decide), fun l hl => ?_⟩
      have s1 := same_new hl (.lst [.int 0, .int m])
      have hT1 := Same.tup s1 hT
      refine ⟨_, rfl, _, _, _, _, rfl, rfl, hT1, atI_nat (j := 0) rfl, rfl, _, rfl, itN (by decide +kernel) ?_⟩
      refine ⟨_, rfl, _, _, _, _, rfl, rfl, hT1, atI_nat (j := 0) rfl, rfl, _, rfl, itN (by decide +kernel) ?_⟩
      refine ⟨_, rfl, _, _, _, _, rfl, rfl, hT1, atI_nat (j := 0) rfl, rfl, _, rfl, itN (by decide +kernel) ?_⟩
      exact ⟨_, _, _, rfl, s1, l, rfl, upd_same⟩
    | nam x =>
      obtain ⟨a, rfl, hT⟩ := hAt
      refine ⟨_, rfl, _, _, _, _, rfl, rfl, hT, atI_nat (j := 0) rfl, rfl, _, rfl, itN (by decide +kernel) ?_⟩
      by_cases h1 : x = "me"
      · subst h1
        refine ⟨_, rfl, _, _, _, _, rfl, rfl, hT, atI_nat (j := 0) rfl, rfl, _, rfl, itY ⟨_, rfl, _, _, _, _, rfl, rfl, hT, atI_nat (j := 1) rfl, rfl, _, rfl, itY ?_⟩⟩
        refine ⟨(by show 2 ≤ sizeLine; decide), fun l hl => ?_⟩
        have s1 := same_new hl (.lst [.int 1, .int 0])
        have hT1 := Same.tup s1 hT
        refine ⟨_, rfl, _, _, _, _, rfl, rfl, hT1, atI_nat (j := 0) rfl, rfl, _, rfl, itY ⟨_, rfl, _, _, _, _, rfl, rfl, hT1, atI_nat (j := 1) rfl, rfl, _, rfl, itN (by decide +kernel) ?_⟩⟩
        refine ⟨_, rfl, _, _, _, _, rfl, rfl, hT1, atI_nat (j := 0) rfl, rfl, _, rfl, itN (by decide +kernel) ?_⟩
        refine ⟨_, _, _, rfl, s1, ?_⟩
        have : rawE wd (.nam "me") = some (1, 0) := rfl
        rw [this]
        exact ⟨l, rfl, upd_same⟩
      · refine ⟨_, rfl, _, _, _, _, rfl, rfl, hT, atI_nat (j := 0) rfl, rfl, _, rfl, itY ⟨_, rfl, _, _, _, _, rfl, rfl, hT, atI_nat (j := 1) rfl, rfl, _, rfl, itN (strNe h1) ?_⟩⟩
        by_cases h2 : x = "lanes"
        · subst h2
          refine ⟨_, rfl, _, _, _, _, rfl, rfl, hT, atI_nat (j := 0) rfl, rfl, _, rfl, itY ⟨_, rfl, _, _, _, _, rfl, rfl, hT, atI_nat (j := 1) rfl, rfl, _, rfl, itY ?_⟩⟩
          refine ⟨_, rfl, (by show 2 ≤ sizeLine; decide), fun l hl => ?_⟩
          have s1 := same_new hl (.lst [.int 0, .int wd])
          have hT1 := Same.tup s1 hT
          refine ⟨_, rfl, _, _, _, _, rfl, rfl, hT1, atI_nat (j := 0) rfl, rfl, _, rfl, itN (by decide +kernel) ?_⟩
          refine ⟨_, _, _, rfl, s1, ?_⟩
          have : rawE wd (.nam "lanes") = some (0, wd) := by
            show (if _ then _ else _) = _
            rw [if_neg h1, if_pos rfl]
          rw [this]
          exact ⟨l, rfl, upd_same⟩
        · refine ⟨_, rfl, _, _, _, _, rfl, rfl, hT, atI_nat (j := 0) rfl, rfl, _, rfl, itY ⟨_, rfl, _, _, _, _, rfl, rfl, hT, atI_nat (j := 1) rfl, rfl, _, rfl, itN (strNe h2) ?_⟩⟩
          refine ⟨_, rfl, _, _, _, _, rfl, rfl, hT, atI_nat (j := 0) rfl, rfl, _, rfl, itN (by decide +kernel) ?_⟩
          refine ⟨_, _, _, rfl, Same.refl _, ?_⟩
          have : rawE wd (.nam x) = none := by
            show (if _ then _ else _) = _
            rw [if_neg h1, if_neg h2]
          rw [this]
          rfl
    | op sg el er =>
      obtain ⟨a, x, y, rfl, hT, hl, hr1⟩ := hAt
      obtain ⟨kw, kl, kr⟩ := hok
      have d1 : max el.dep er.dep + 1 ≤ n + 1 := hdep
      refine ⟨_, rfl, _, _, _, _, rfl, rfl, hT, atI_nat (j := 0) rfl, rfl, _, rfl, itN (by decide +kernel) ?_⟩
      refine ⟨_, rfl, _, _, _, _, rfl, rfl, hT, atI_nat (j := 0) rfl, rfl, _, rfl, itN (by decide +kernel) ?_⟩
      refine ⟨_, rfl, _, _, _, _, rfl, rfl, hT, atI_nat (j := 0) rfl, rfl, _, rfl, itN (by decide +kernel) ?_⟩
      refine ⟨_, rfl, _, _, _, _, rfl, rfl, hT, atI_nat (j := 0) rfl, rfl, _, rfl, itY ?_⟩
      refine ⟨_, rfl, _, _, _, _, rfl, rfl, hT, atI_nat (j := 2) rfl, _, rfl, x, el, wd, rfl, hl, kl, by omega, by omega, fun rl H1 s1 t1 => ?_⟩
      refine ⟨_, rfl, _, _, _, _, rfl, rfl, Same.tup s1 hT, atI_nat (j := 3) rfl, _, rfl, y, er, wd, rfl, hr1.tu (Same.tu s1), kr, by omega, by omega, fun rr H2 s2 t2 => ?_⟩
      have t1' := t1.same s2
      have hT2 := Same.tup (s1.trans s2) hT
      rw [rawE_op]
      cases e1 : lineE wd el with
      | none =>
        rw [e1] at t1
        have : rl = .non := t1
        subst this
        exact ⟨_, rfl, rfl, _, rfl, itYn ⟨_, _, _, rfl, s1.trans s2, rfl⟩⟩
      | some pl =>
        rw [e1] at t1'
        obtain ⟨al, rfl, hal⟩ := t1'
        refine ⟨_, rfl, rfl, _, rfl, itNn (by intro z; cases z) ?_⟩
        cases e2 : lineE wd er with
        | none =>
          rw [e2] at t2
          have : rr = .non := t2
          subst this
          exact ⟨_, rfl, rfl, _, rfl, itYn ⟨_, _, _, rfl, s1.trans s2, rfl⟩⟩
        | some pr =>
          rw [e2] at t2
          obtain ⟨ar, rfl, har⟩ := t2
          refine ⟨_, rfl, rfl, _, rfl, itNn (by intro z; cases z) ?_⟩
          have b1 := (lineE_some e1).2
          have b2 := (lineE_some e2).2
          have s12 := s1.trans s2
          by_cases h1 : sg = "+"
          · subst h1
            refine ⟨_, rfl, _, _, _, _, rfl, rfl, hT2, atI_nat (j := 1) rfl, rfl, _, rfl, itY ?_⟩
            refine ⟨_, rfl, _, _, _, _, rfl, rfl, (SqL.of hal), atI_nat (j := 0) rfl, _, rfl, _, _, _, _, rfl, rfl, (SqL.of har), atI_nat (j := 0) rfl, _, _, rfl, rfl, _, rfl, _, _, _, _, rfl, rfl, (SqL.of hal), atI_nat (j := 1) rfl, _, rfl, _, _, _, _, rfl, rfl, (SqL.of har), atI_nat (j := 1) rfl, _, _, rfl, rfl, (by show 2 ≤ sizeLine; decide), fun l hl => ?_⟩
            have s3 := same_new hl (.lst [.int (pl.1 + pr.1), .int (pl.2 + pr.2)])
            have hT3 := Same.tup s3 hT2
            refine ⟨_, rfl, _, _, _, _, rfl, rfl, hT3, atI_nat (j := 1) rfl, rfl, _, rfl, itN (by decide +kernel) ⟨_, rfl, _, _, _, _, rfl, rfl, hT3, atI_nat (j := 1) rfl, rfl, _, rfl, itN (by decide +kernel) ⟨_, rfl, _, _, _, _, rfl, rfl, hT3, atI_nat (j := 1) rfl, rfl, _, rfl, itN (by decide +kernel) ?_⟩⟩⟩
            refine ⟨_, _, _, rfl, s12.trans s3, ?_⟩
            show LRes _ _ (joinL _ pl pr) _
            rw [joinL_add]
            exact ⟨l, rfl, upd_same⟩
          by_cases h2 : sg = "-"
          · subst h2
            refine ⟨_, rfl, _, _, _, _, rfl, rfl, hT2, atI_nat (j := 1) rfl, rfl, _, rfl, itN (strNe h1) ⟨_, rfl, _, _, _, _, rfl, rfl, hT2, atI_nat (j := 1) rfl, rfl, _, rfl, itY ?_⟩⟩
            refine ⟨_, rfl, _, _, _, _, rfl, rfl, (SqL.of hal), atI_nat (j := 0) rfl, _, rfl, _, _, _, _, rfl, rfl, (SqL.of har), atI_nat (j := 0) rfl, _, _, rfl, rfl, _, rfl, _, _, _, _, rfl, rfl, (SqL.of hal), atI_nat (j := 1) rfl, _, rfl, _, _, _, _, rfl, rfl, (SqL.of har), atI_nat (j := 1) rfl, _, _, rfl, rfl, (by show 2 ≤ sizeLine; decide), fun l hl => ?_⟩
            have s3 := same_new hl (.lst [.int (pl.1 - pr.1), .int (pl.2 - pr.2)])
            have hT3 := Same.tup s3 hT2
            refine ⟨_, rfl, _, _, _, _, rfl, rfl, hT3, atI_nat (j := 1) rfl, rfl, _, rfl, itN (by decide +kernel) ⟨_, rfl, _, _, _, _, rfl, rfl, hT3, atI_nat (j := 1) rfl, rfl, _, rfl, itN (by decide +kernel) ?_⟩⟩
            refine ⟨_, _, _, rfl, s12.trans s3, ?_⟩
            show LRes _ _ (joinL _ pl pr) _
            rw [joinL_sub]
            exact ⟨l, rfl, upd_same⟩
          by_cases h3 : sg = "*"
          · subst h3
            refine ⟨_, rfl, _, _, _, _, rfl, rfl, hT2, atI_nat (j := 1) rfl, rfl, _, rfl, itN (strNe h1) ⟨_, rfl, _, _, _, _, rfl, rfl, hT2, atI_nat (j := 1) rfl, rfl, _, rfl, itN (strNe h2) ?_⟩⟩
            refine ⟨_, rfl, _, _, _, _, rfl, rfl, hT2, atI_nat (j := 1) rfl, rfl, _, rfl, itY ⟨_, rfl, _, _, _, _, rfl, rfl, (SqL.of har), atI_nat (j := 0) rfl, rfl, _, rfl, ?_⟩⟩
            refine ite2 (fun c => ?_) (fun c => ?_)
            · have c0 : pr.1 = 0 := V.int.inj (of_decide_eq_true c)
              refine ⟨_, rfl, _, _, _, _, rfl, rfl, (SqL.of hal), atI_nat (j := 0) rfl, _, rfl, _, _, _, _, rfl, rfl, (SqL.of har), atI_nat (j := 1) rfl, _, _, rfl, rfl, .inl ⟨by omega, by omega⟩, _, rfl, _, _, _, _, rfl, rfl, (SqL.of hal), atI_nat (j := 1) rfl, _, rfl, _, _, _, _, rfl, rfl, (SqL.of har), atI_nat (j := 1) rfl, _, _, rfl, rfl, .inl ⟨by omega, by omega⟩, (by show 2 ≤ sizeLine; decide), fun l hl => ?_⟩
              have s3 := same_new hl (.lst [.int (pl.1 * pr.2), .int (pl.2 * pr.2)])
              have hT3 := Same.tup s3 hT2
              have hal3 := s3 _ _ hal
              have har3 := s3 _ _ har
              refine ⟨_, rfl, _, _, _, _, rfl, rfl, hT3, atI_nat (j := 1) rfl, rfl, _, rfl, itY ⟨_, rfl, _, _, _, _, rfl, rfl, (SqL.of hal3), atI_nat (j := 0) rfl, rfl, _, rfl, ?_⟩⟩
              refine ite2 (fun c => ?_) (fun c => ?_)
              · have c1 : pl.1 = 0 := V.int.inj (of_decide_eq_true c)
                refine ⟨_, rfl, _, _, _, _, rfl, rfl, (SqL.of har3), atI_nat (j := 0) rfl, _, rfl, _, _, _, _, rfl, rfl, (SqL.of hal3), atI_nat (j := 1) rfl, _, _, rfl, rfl, .inl ⟨by omega, by omega⟩, _, rfl, _, _, _, _, rfl, rfl, (SqL.of har3), atI_nat (j := 1) rfl, _, rfl, _, _, _, _, rfl, rfl, (SqL.of hal3), atI_nat (j := 1) rfl, _, _, rfl, rfl, .inl ⟨by omega, by omega⟩, (by show 2 ≤ sizeLine; decide), fun l hl => ?_⟩
                refine ⟨_, _, _, rfl, s12.trans (s3.trans (same_new hl _)), ?_⟩
                show LRes _ _ (joinL _ pl pr) _
                rw [joinL_mul, if_pos c1, Int.mul_comm pl.2 pr.1, Int.mul_comm pl.2 pr.2]
                exact ⟨l, rfl, upd_same⟩
              · have c1 : ¬ pl.1 = 0 := fun z => c (decide_eq_true (by rw [z]))
                refine ⟨_, _, _, rfl, s12.trans s3, ?_⟩
                show LRes _ _ (joinL _ pl pr) _
                rw [joinL_mul, if_neg c1, if_pos c0]
                exact ⟨l, rfl, upd_same⟩
            · have c0 : ¬ pr.1 = 0 := fun z => c (decide_eq_true (by rw [z]))
              refine ⟨_, rfl, _, _, _, _, rfl, rfl, hT2, atI_nat (j := 1) rfl, rfl, _, rfl, itY ⟨_, rfl, _, _, _, _, rfl, rfl, (SqL.of hal), atI_nat (j := 0) rfl, rfl, _, rfl, ?_⟩⟩
              refine ite2 (fun c => ?_) (fun c => ?_)
              · have c1 : pl.1 = 0 := V.int.inj (of_decide_eq_true c)
                refine ⟨_, rfl, _, _, _, _, rfl, rfl, (SqL.of har), atI_nat (j := 0) rfl, _, rfl, _, _, _, _, rfl, rfl, (SqL.of hal), atI_nat (j := 1) rfl, _, _, rfl, rfl, .inl ⟨by omega, by omega⟩, _, rfl, _, _, _, _, rfl, rfl, (SqL.of har), atI_nat (j := 1) rfl, _, rfl, _, _, _, _, rfl, rfl, (SqL.of hal), atI_nat (j := 1) rfl, _, _, rfl, rfl, .inl ⟨by omega, by omega⟩, (by show 2 ≤ sizeLine; decide), fun l hl => ?_⟩
                refine ⟨_, _, _, rfl, s12.trans (same_new hl _), ?_⟩
                show LRes _ _ (joinL _ pl pr) _
                rw [joinL_mul, if_pos c1, Int.mul_comm pl.2 pr.1, Int.mul_comm pl.2 pr.2]
                exact ⟨l, rfl, upd_same⟩
              · have c1 : ¬ pl.1 = 0 := fun z => c (decide_eq_true (by rw [z]))
                refine ⟨_, _, _, rfl, s12, ?_⟩
                show LRes _ _ (joinL _ pl pr) _
                rw [joinL_mul, if_neg c1, if_neg c0]
                rfl
          · refine ⟨_, rfl, _, _, _, _, rfl, rfl, hT2, atI_nat (j := 1) rfl, rfl, _, rfl, itN (strNe h1) ⟨_, rfl, _, _, _, _, rfl, rfl, hT2, atI_nat (j := 1) rfl, rfl, _, rfl, itN (strNe h2) ⟨_, rfl, _, _, _, _, rfl, rfl, hT2, atI_nat (j := 1) rfl, rfl, _, rfl, itN (strNe h3) ⟨_, rfl, _, _, _, _, rfl, rfl, hT2, atI_nat (j := 1) rfl, rfl, _, rfl, itN (strNe h3) ?_⟩⟩⟩⟩
            refine ⟨_, _, _, rfl, s12, ?_⟩
            show LRes _ _ (joinL _ pl pr) _
            rw [joinL_oth h1 h2 h3]
            rfl
    | rd x el =>
      obtain ⟨a, y, rfl, hT, hl⟩ := hAt
      refine ⟨_, rfl, _, _, _, _, rfl, rfl, hT, atI_nat (j := 0) rfl, rfl, _, rfl, itN (by decide +kernel) ?_⟩
      refine ⟨_, rfl, _, _, _, _, rfl, rfl, hT, atI_nat (j := 0) rfl, rfl, _, rfl, itN (by decide +kernel) ?_⟩
      refine ⟨_, rfl, _, _, _, _, rfl, rfl, hT, atI_nat (j := 0) rfl, rfl, _, rfl, itN (by decide +kernel) ?_⟩
      refine ⟨_, rfl, _, _, _, _, rfl, rfl, hT, atI_nat (j := 0) rfl, rfl, _, rfl, itN (by decide +kernel) ?_⟩
      exact ⟨_, _, _, rfl, Same.refl _, rfl⟩
    | c1 x el =>
      obtain ⟨a, y, z, rfl, hT, hl⟩ := hAt
      refine ⟨_, rfl, _, _, _, _, rfl, rfl, hT, atI_nat (j := 0) rfl, rfl, _, rfl, itN (by decide +kernel) ?_⟩
      refine ⟨_, rfl, _, _, _, _, rfl, rfl, hT, atI_nat (j := 0) rfl, rfl, _, rfl, itN (by decide +kernel) ?_⟩
      refine ⟨_, rfl, _, _, _, _, rfl, rfl, hT, atI_nat (j := 0) rfl, rfl, _, rfl, itN (by decide +kernel) ?_⟩
      refine ⟨_, rfl, _, _, _, _, rfl, rfl, hT, atI_nat (j := 0) rfl, rfl, _, rfl, itN (by decide +kernel) ?_⟩
      exact ⟨_, _, _, rfl, Same.refl _, rfl⟩
    | c2 x el er =>
      obtain ⟨a, y, z, z2, rfl, hT, hl⟩ := hAt
      refine ⟨_, rfl, _, _, _, _, rfl, rfl, hT, atI_nat (j := 0) rfl, rfl, _, rfl, itN (by decide +kernel) ?_⟩
      refine ⟨_, rfl, _, _, _, _, rfl, rfl, hT, atI_nat (j := 0) rfl, rfl, _, rfl, itN (by decide +kernel) ?_⟩
      refine ⟨_, rfl, _, _, _, _, rfl, rfl, hT, atI_nat (j := 0) rfl, rfl, _, rfl, itN (by decide +kernel) ?_⟩
      refine ⟨_, rfl, _, _, _, _, rfl, rfl, hT, atI_nat (j := 0) rfl, rfl, _, rfl, itN (by decide +kernel) ?_⟩
      exact ⟨_, _, _, rfl, Same.refl _, rfl⟩
    | c3 x el er eq =>
      obtain ⟨a, y, z, z2, z3, rfl, hT, hl⟩ := hAt
      refine ⟨_, rfl, _, _, _, _, rfl, rfl, hT, atI_nat (j := 0) rfl, rfl, _, rfl, itN (by decide +kernel) ?_⟩
      refine ⟨_, rfl, _, _, _, _, rfl, rfl, hT, atI_nat (j := 0) rfl, rfl, _, rfl, itN (by decide +kernel) ?_⟩
      refine ⟨_, rfl, _, _, _, _, rfl, rfl, hT, atI_nat (j := 0) rfl, rfl, _, rfl, itN (by decide +kernel) ?_⟩
      refine ⟨_, rfl, _, _, _, _, rfl, rfl, hT, atI_nat (j := 0) rfl, rfl, _, rfl, itN (by decide +kernel) ?_⟩
      exact ⟨_, _, _, rfl, Same.refl _, rfl⟩
  obtain ⟨r, y3, y4, rfl, s1, t1⟩ := hm
  unfold lineE at q
  cases e0 : rawE wd e with
  | none =>
    rw [e0] at t1 q
    have : r = .non := t1
    subst this
    exact ⟨_, rfl, rfl, _, rfl, itY (q _ _ s1 rfl)⟩
  | some p =>
    rw [e0] at t1 q
    obtain ⟨a, rfl, ha⟩ := t1
    refine ⟨_, rfl, rfl, _, rfl, itN (by intro z; cases z) ?_⟩
    refine ⟨_, rfl, _, _, _, _, rfl, rfl, (SqL.of ha), atI_nat (j := 0) rfl, _, rfl, _, rfl, _, _, _, _, rfl, rfl, (SqL.of ha), atI_nat (j := 1) rfl, _, rfl, _, _, rfl, _, _, rfl, rfl, _, rfl, ite2' (fun c => ?_) (fun c => ?_)⟩
    · refine q _ _ s1 ?_
      have : chk p = none := if_pos c
      show LRes _ _ (chk p) _
      rw [this]
      rfl
    · refine ⟨_, rfl, q _ _ s1 ?_⟩
      have : chk p = some p := if_neg c
      show LRes _ _ (chk p) _
      rw [this]
      exact ⟨a, rfl, ha⟩
end
end K17
namespace K17
open PySem L2 Vk
theorem eqv_nam {x y : Str} : PyData.eqv (Ex.nam x).data (.tuple [.str "name", .str y]) = decide (x = y) := by
  show ((("name" : Str) == "name") && ((x == y) && true)) = decide (x = y)
  rw [beq_self_eq_true, Bool.true_and, Bool.and_true]
  by_cases h : x = y
  · subst h
    rw [decide_eq_true rfl, beq_self_eq_true]
  · rw [decide_eq_false h]
    exact beq_eq_false_iff_ne.mpr h
theorem eqv_op {s y : Str} {l r : Ex} : PyData.eqv (Ex.op s l r).data (.tuple [.str "name", .str y]) = false := by
  have h : (("op" : Str) == "name") = false := by decide +kernel
  simp only [Ex.data, PyData.eqv, PyData.eqvAll, h, Bool.false_and]
theorem eqv_rd {s y : Str} {l : Ex} : PyData.eqv (Ex.rd s l).data (.tuple [.str "name", .str y]) = false := by
  have h : (("read" : Str) == "name") = false := by decide +kernel
  simp only [Ex.data, PyData.eqv, PyData.eqvAll, h, Bool.false_and]
theorem eqv_c1 {s y : Str} {l : Ex} : PyData.eqv (Ex.c1 s l).data (.tuple [.str "name", .str y]) = false := by
  have h : (("call" : Str) == "name") = false := by decide +kernel
  simp only [Ex.data, PyData.eqv, PyData.eqvAll, h, Bool.false_and]
theorem eqv_c2 {s y : Str} {l r : Ex} : PyData.eqv (Ex.c2 s l r).data (.tuple [.str "name", .str y]) = false := by
  have h : (("call" : Str) == "name") = false := by decide +kernel
  simp only [Ex.data, PyData.eqv, PyData.eqvAll, h, Bool.false_and]
theorem eqv_c3 {s y : Str} {l r q : Ex} : PyData.eqv (Ex.c3 s l r q).data (.tuple [.str "name", .str y]) = false := by
  have h : (("call" : Str) == "name") = false := by decide +kernel
  simp only [Ex.data, PyData.eqv, PyData.eqvAll, h, Bool.false_and]
theorem namS {x : Str} (h : okW x) : SeqAt.shaped (Ex.nam x).data = true := Ex.shaped (e := .nam x) h (by show 1 ≤ 32; decide)
/-- expression == ("name", y) : the pair is made at t, then they are compared -/
theorem rd_eqn {K : PySem.W.Frag} {H : Hp} {e : Ex} {v : V} {y : Str} {Q : Bool → Hp → Prop} (hAt : e.At K H v) (hok : e.ok) (hd : e.dep ≤ 32) (hy : okW y) {t : Addr} (ht : H t = none)
    (q : Q (PyData.eqv e.data (.tuple [.str "name", .str y])) (upd H t (.tup [.str "name", .str y]))) :
    rEqD K v (.ref t) (upd H t (.tup [.str "name", .str y])) (fun x H' => ∃ k, x = .bl k ∧ Q k H') :=
  ⟨e.data, .tuple [.str "name", .str y], (hAt.tu (Same.tu (same_new ht _))).dp, .tup (SqT.of upd_same) (.cons (.str _) (.cons (.str _) .nil)), Ex.shaped hok hd, namS hy, _, rfl, q⟩
def spJL : Sp := fun vs H Q _ => ∃ (s : Str) (al ar : Addr) (pl pr : Int × Int), vs = [.str s, .ref al, .ref ar] ∧ H al = some (.tup [.int pl.1, .int pl.2]) ∧ H ar = some (.tup [.int pr.1, .int pr.2]) ∧
  (-1000 ≤ pl.1 ∧ pl.1 ≤ 1000 ∧ -1000 ≤ pl.2 ∧ pl.2 ≤ 1000) ∧ (-1000 ≤ pr.1 ∧ pr.1 ≤ 1000 ∧ -1000 ≤ pr.2 ∧ pr.2 ≤ 1000) ∧ ∀ r H', Same H H' → LRes .tup H' (joinL s pl pr) r → Q r H'
section
variable {P : Program} {w : World} {K : PySem.W.Frag} {mg : Str → Option Value} {base : Heap}
theorem ok_joined_line {f : Addr} {fd : FuncData} {k : Nat} (F : Fun K "_joined_line" "_joined_line" s_joined_line f fd) : FnOk P w K mg base CX0 (k + 1) f fd P_joined_line spJL := by
  refine F.ok sc_joined_line (fun vs H Q E h => ?_) (fun cdv A outer s H vs Q E hr h => ?_)
  · obtain ⟨v, e, x, pl, pr, rfl, _⟩ := h
    rfl
  obtain ⟨sg, al, ar, pl, pr, rfl, hal, har, b1, b2, q⟩ := h
  refine ⟨_, (pss_cons (ps_if (pt_cmpR op_eq (pv 0) pe_str (nomark _))
      (pss_one (ps_ret (pe_tup (pa_cons (pe_op op_add (pe_ix ix_tup (pv 1) pe_int (fun _ _ => rfl)) (pe_ix ix_tup (pv 2) pe_int (fun _ _ => rfl))) (pa_cons (pe_op op_add (pe_ix ix_tup (pv 1) pe_int (fun _ _ => rfl)) (pe_ix ix_tup (pv 2) pe_int (fun _ _ => rfl))) pa_nil)))))
      pss_nil)
    (pss_cons (ps_if (pt_cmpR op_eq (pv 0) pe_str (nomark _))
      (pss_one (ps_ret (pe_tup (pa_cons (pe_op op_sub (pe_ix ix_tup (pv 1) pe_int (fun _ _ => rfl)) (pe_ix ix_tup (pv 2) pe_int (fun _ _ => rfl))) (pa_cons (pe_op op_sub (pe_ix ix_tup (pv 1) pe_int (fun _ _ => rfl)) (pe_ix ix_tup (pv 2) pe_int (fun _ _ => rfl))) pa_nil)))))
      pss_nil)
    (pss_cons (ps_if (PW.pt (pw_and (pt_cmpR op_eq (pv 0) pe_str (nomark _)) (pw_and1 (pt_cmpR op_eq (pe_ix ix_tup (pv 1) pe_int (fun _ _ => rfl)) pe_int (nomark _)))))
      (pss_one (ps_ret (pe_tup (pa_cons (pe_op op_mul (pe_ix ix_tup (pv 1) pe_int (fun _ _ => rfl)) (pe_ix ix_tup (pv 2) pe_int (fun _ _ => rfl))) (pa_cons (pe_op op_mul (pe_ix ix_tup (pv 1) pe_int (fun _ _ => rfl)) (pe_ix ix_tup (pv 2) pe_int (fun _ _ => rfl))) pa_nil)))))
      pss_nil)
    (pss_cons (ps_if (PW.pt (pw_and (pt_cmpR op_eq (pv 0) pe_str (nomark _)) (pw_and1 (pt_cmpR op_eq (pe_ix ix_tup (pv 2) pe_int (fun _ _ => rfl)) pe_int (nomark _)))))
      (pss_one (ps_ret (pe_tup (pa_cons (pe_op op_mul (pe_ix ix_tup (pv 1) pe_int (fun _ _ => rfl)) (pe_ix ix_tup (pv 2) pe_int (fun _ _ => rfl))) (pa_cons (pe_op op_mul (pe_ix ix_tup (pv 1) pe_int (fun _ _ => rfl)) (pe_ix ix_tup (pv 2) pe_int (fun _ _ => rfl))) pa_nil)))))
      pss_nil)
    (pss_one (ps_ret pe_non)))))), ?_⟩
  by_cases h1 : sg = "+"
  · subst h1
    refine ⟨_, rfl, rfl, _, rfl, itY ?_⟩
    refine ⟨_, rfl, _, _, _, _, rfl, rfl, (SqT.of hal), atI_nat (j := 0) rfl, _, rfl, _, _, _, _, rfl, rfl, (SqT.of har), atI_nat (j := 0) rfl, _, _, rfl, rfl, _, rfl, _, _, _, _, rfl, rfl, (SqT.of hal), atI_nat (j := 1) rfl, _, rfl, _, _, _, _, rfl, rfl, (SqT.of har), atI_nat (j := 1) rfl, _, _, rfl, rfl, (by show 2 ≤ sizeLine; decide), fun l hl => q _ _ (same_new hl _) ?_⟩
    rw [joinL_add]
    exact ⟨l, rfl, upd_same⟩
  refine ⟨_, rfl, rfl, _, rfl, itN (strNe h1) ?_⟩
  by_cases h2 : sg = "-"
  · subst h2
    refine ⟨_, rfl, rfl, _, rfl, itY ?_⟩
    refine ⟨_, rfl, _, _, _, _, rfl, rfl, (SqT.of hal), atI_nat (j := 0) rfl, _, rfl, _, _, _, _, rfl, rfl, (SqT.of har), atI_nat (j := 0) rfl, _, _, rfl, rfl, _, rfl, _, _, _, _, rfl, rfl, (SqT.of hal), atI_nat (j := 1) rfl, _, rfl, _, _, _, _, rfl, rfl, (SqT.of har), atI_nat (j := 1) rfl, _, _, rfl, rfl, (by show 2 ≤ sizeLine; decide), fun l hl => q _ _ (same_new hl _) ?_⟩
    rw [joinL_sub]
    exact ⟨l, rfl, upd_same⟩
  refine ⟨_, rfl, rfl, _, rfl, itN (strNe h2) ?_⟩
  by_cases h3 : sg = "*"
  · subst h3
    refine ⟨_, rfl, rfl, _, rfl, itY ⟨_, rfl, _, _, _, _, rfl, rfl, (SqT.of hal), atI_nat (j := 0) rfl, rfl, _, rfl, ite2 (fun c => ?_) (fun c => ?_)⟩⟩
    · have c1 : pl.1 = 0 := V.int.inj (of_decide_eq_true c)
      refine ⟨_, rfl, _, _, _, _, rfl, rfl, (SqT.of hal), atI_nat (j := 1) rfl, _, rfl, _, _, _, _, rfl, rfl, (SqT.of har), atI_nat (j := 0) rfl, _, _, rfl, rfl, .inl ⟨by omega, by omega⟩, _, rfl, _, _, _, _, rfl, rfl, (SqT.of hal), atI_nat (j := 1) rfl, _, rfl, _, _, _, _, rfl, rfl, (SqT.of har), atI_nat (j := 1) rfl, _, _, rfl, rfl, .inl ⟨by omega, by omega⟩, (by show 2 ≤ sizeLine; decide), fun l hl => q _ _ (same_new hl _) ?_⟩
      rw [joinL_mul, if_pos c1]
      exact ⟨l, rfl, upd_same⟩
    · have c1 : ¬ pl.1 = 0 := fun z => c (decide_eq_true (by rw [z]))
      refine ⟨_, rfl, rfl, _, rfl, itY ⟨_, rfl, _, _, _, _, rfl, rfl, (SqT.of har), atI_nat (j := 0) rfl, rfl, _, rfl, ite2 (fun c => ?_) (fun c => ?_)⟩⟩
      · have c2 : pr.1 = 0 := V.int.inj (of_decide_eq_true c)
        refine ⟨_, rfl, _, _, _, _, rfl, rfl, (SqT.of hal), atI_nat (j := 0) rfl, _, rfl, _, _, _, _, rfl, rfl, (SqT.of har), atI_nat (j := 1) rfl, _, _, rfl, rfl, .inl ⟨by omega, by omega⟩, _, rfl, _, _, _, _, rfl, rfl, (SqT.of hal), atI_nat (j := 1) rfl, _, rfl, _, _, _, _, rfl, rfl, (SqT.of har), atI_nat (j := 1) rfl, _, _, rfl, rfl, .inl ⟨by omega, by omega⟩, (by show 2 ≤ sizeLine; decide), fun l hl => q _ _ (same_new hl _) ?_⟩
        rw [joinL_mul, if_neg c1, if_pos c2]
        exact ⟨l, rfl, upd_same⟩
      · have c2 : ¬ pr.1 = 0 := fun z => c (decide_eq_true (by rw [z]))
        refine q _ _ (Same.refl _) ?_
        rw [joinL_mul, if_neg c1, if_neg c2]
        rfl
  · refine ⟨_, rfl, rfl, _, rfl, itN (strNe h3) ⟨_, rfl, rfl, _, rfl, itN (strNe h3) (q _ _ (Same.refl _) ?_)⟩⟩
    rw [joinL_oth h1 h2 h3]
    rfl
theorem ok_line_of {f : Addr} {fd : FuncData} {k n : Nat} (F : Fun K "line_of" "line_of" s_line_of f fd) (mabs : mg "abs" = none) (mmax : mg "max" = none) {tM : Tok} (mMOST_IN_LINE : mg "MOST_IN_LINE" = some (.int 1000 tM))
    (O_joined_line : Ok P w K mg base k "_joined_line" P_joined_line spJL) (Oline_of : Ok P w K mg base k "line_of" P_line_of (spLL K .tup n)) : FnOk P w K mg base CX0 (k + 1) f fd P_line_of (spLL K .tup (n + 1)) := by
  refine F.ok sc_line_of (fun vs H Q E h => ?_) (fun cdv A outer s H vs Q E hr h => ?_)
  · obtain ⟨v, e, x, rfl, _⟩ := h
    rfl
  obtain ⟨v, e, wd, rfl, hAt, hok, hdep, hn, q⟩ := h
  refine ⟨_, (pss_cutAt 3 (pss_cons (ps_set (i := 2) sc_line_of.nd rfl (Or.inl rfl) (pe_ix ix_tup (pv 0) pe_int (fun _ _ => rfl)))
    (pss_cons (ps_set (i := 3) sc_line_of.nd rfl (Or.inl rfl) pe_non)
    (pss_one (ps_if (pt_cmpR op_eq (pv 2) pe_str (nomark _))
      (pss_one (ps_set (i := 3) sc_line_of.nd rfl (Or.inl rfl) (pe_tup (pa_cons pe_int (pa_cons (pe_ix ix_tup (pv 0) pe_int (fun _ _ => rfl)) pa_nil)))))
      (pss_one (ps_if (pt_cmpR (op_eqD hr.units) (pv 0) (pe_tup (pa_cons pe_str (pa_cons pe_str pa_nil))) (nomark _))
        (pss_one (ps_set (i := 3) sc_line_of.nd rfl (Or.inl rfl) (pe_tup (pa_cons pe_int (pa_cons pe_int pa_nil)))))
        (pss_one (ps_if (pt_cmpR (op_eqD hr.units) (pv 0) (pe_tup (pa_cons pe_str (pa_cons pe_str pa_nil))) (nomark _))
          (pss_one (ps_set (i := 3) sc_line_of.nd rfl (Or.inl rfl) (pe_tup (pa_cons pe_int (pa_cons (pv 1) pa_nil)))))
          (pss_one (ps_if (pt_cmpR op_eq (pv 2) pe_str (nomark _))
            (pss_cons (ps_set (i := 4) sc_line_of.nd rfl (Or.inl rfl) (pe_c Oline_of hr (by rfl) (pa_cons (pe_ix ix_tup (pv 0) pe_int (fun _ _ => rfl)) (pa_cons (pv 1) pa_nil))))
            (pss_cons (ps_set (i := 5) sc_line_of.nd rfl (Or.inl rfl) (pe_c Oline_of hr (by rfl) (pa_cons (pe_ix ix_tup (pv 0) pe_int (fun _ _ => rfl)) (pa_cons (pv 1) pa_nil))))
            (pss_one (ps_if (PW.pt (pw_and (pt_cmpR op_notN (pv 4) pe_non (nomark _)) (pw_and1 (pt_cmpR op_notN (pv 5) pe_non (nomark _)))))
              (pss_one (ps_set (i := 3) sc_line_of.nd rfl (Or.inl rfl) (pe_c O_joined_line hr (by rfl) (pa_cons (pe_ix ix_tup (pv 0) pe_int (fun _ _ => rfl)) (pa_cons (pv 4) (pa_cons (pv 5) pa_nil))))))
              pss_nil))))
            pss_nil))))))))))
    (pss_cons (ps_if (PW.pt (pw_or (pt_cmpR op_isN (pv 3) pe_non (nomark _)) (pw_or1 (pt_cmpR op_gt (pe_callB (call_max2 rfl) (by rfl) mmax (by decide +kernel) (pa_cons (pe_callB call_abs (by rfl) mabs (by decide +kernel) (pa_cons (pe_ix ix_tup (pv 3) pe_int (fun _ _ => rfl)) pa_nil)) (pa_cons (pe_callB call_abs (by rfl) mabs (by decide +kernel) (pa_cons (pe_ix ix_tup (pv 3) pe_int (fun _ _ => rfl)) pa_nil)) pa_nil))) (pe_glob (v := .int 1000) (by rfl) mMOST_IN_LINE ⟨_, rfl⟩) (nomark _)))))
      (pss_one (ps_ret pe_non))
      pss_nil)
    (pss_one (ps_ret (pv 3))))), ?_⟩
  have hme : okW "me" := by decide +kernel
  have hla : okW "lanes" := by decide +kernel
  refine ⟨fun σ' H' => ∃ kd r y4 y5, σ' = [some v, some (.int wd), some kd, some r, y4, y5] ∧ Same H H' ∧ LRes .tup H' (rawE wd e) r, ?_, fun σ' H' hm => ?_⟩
  · have hAt0 := hAt
    cases e with
    | num m =>
      obtain ⟨a, rfl, hT⟩ := hAt
      refine ⟨_, rfl, _, _, _, _, rfl, rfl, hT, atI_nat (j := 0) rfl, _, rfl, rfl, _, rfl, itY ?_⟩
      refine ⟨_, rfl, _, _, _, _, rfl, rfl, hT, atI_nat (j := 1) rfl, (by show 2 ≤ sizeLine; decide), fun l hl => ?_⟩
      exact ⟨_, _, _, _, rfl, same_new hl _, l, rfl, upd_same⟩
    | nam x =>
      obtain ⟨a, rfl, hT⟩ := hAt
      refine ⟨_, rfl, _, _, _, _, rfl, rfl, hT, atI_nat (j := 0) rfl, _, rfl, rfl, _, rfl, itN (by decide +kernel) ?_⟩
      refine ⟨_, rfl, (by show 2 ≤ sizeLine; decide), fun t ht => rd_eqn hAt0 hok (by omega) hme ht ?_⟩
      have s1 := same_new ht (.tup [.str "name", .str "me"])
      rw [eqv_nam]
      by_cases h1 : x = "me"
      · subst h1
        rw [decide_eq_true rfl]
        refine iteT ⟨(by show 2 ≤ sizeLine; decide), fun l hl => ?_⟩
        refine ⟨_, _, _, _, rfl, s1.trans (same_new hl _), ?_⟩
        have : rawE wd (.nam "me") = some (1, 0) := rfl
        rw [this]
        exact ⟨l, rfl, upd_same⟩
      rw [decide_eq_false h1]
      refine iteF ⟨_, rfl, (by show 2 ≤ sizeLine; decide), fun t2 ht2 => rd_eqn (hAt0.tu (Same.tu s1)) hok (by omega) hla ht2 ?_⟩
      have s2 := s1.trans (same_new ht2 (.tup [.str "name", .str "lanes"]))
      rw [eqv_nam]
      by_cases h2 : x = "lanes"
      · subst h2
        rw [decide_eq_true rfl]
        refine iteT ⟨_, rfl, (by show 2 ≤ sizeLine; decide), fun l hl => ?_⟩
        refine ⟨_, _, _, _, rfl, s2.trans (same_new hl _), ?_⟩
        have : rawE wd (.nam "lanes") = some (0, wd) := by
          show (if _ then _ else _) = _
          rw [if_neg h1, if_pos rfl]
        rw [this]
        exact ⟨l, rfl, upd_same⟩
      rw [decide_eq_false h2]
      refine iteF ⟨_, rfl, rfl, _, rfl, itN (by decide +kernel) ?_⟩
      refine ⟨_, _, _, _, rfl, s2, ?_⟩
      have : rawE wd (.nam x) = none := by
        show (if _ then _ else _) = _
        rw [if_neg h1, if_neg h2]
      rw [this]
      rfl
    | op sg el er =>
      obtain ⟨a, x, y, rfl, hT, hl, hr1⟩ := hAt
      have hok0 := hok
      obtain ⟨kw, kl, kr⟩ := hok
      have d1 : max el.dep er.dep + 1 ≤ n + 1 := hdep
      refine ⟨_, rfl, _, _, _, _, rfl, rfl, hT, atI_nat (j := 0) rfl, _, rfl, rfl, _, rfl, itN (by decide +kernel) ?_⟩
      refine ⟨_, rfl, (by show 2 ≤ sizeLine; decide), fun t ht => rd_eqn hAt0 hok0 (by omega) hme ht ?_⟩
      have s1 := same_new ht (.tup [.str "name", .str "me"])
      rw [eqv_op]
      refine iteF ⟨_, rfl, (by show 2 ≤ sizeLine; decide), fun t2 ht2 => rd_eqn (hAt0.tu (Same.tu s1)) hok0 (by omega) hla ht2 ?_⟩
      have s2 := s1.trans (same_new ht2 (.tup [.str "name", .str "lanes"]))
      rw [eqv_op]
      have hT2 := Same.tup s2 hT
      refine iteF ⟨_, rfl, rfl, _, rfl, itY ?_⟩
      refine ⟨_, rfl, _, _, _, _, rfl, rfl, hT2, atI_nat (j := 2) rfl, _, rfl, x, el, wd, rfl, hl.tu (Same.tu s2), kl, by omega, by omega, fun rl H3 s3 t3 => ?_⟩
      have s23 := s2.trans s3
      refine ⟨_, rfl, _, _, _, _, rfl, rfl, Same.tup s23 hT, atI_nat (j := 3) rfl, _, rfl, y, er, wd, rfl, hr1.tu (Same.tu s23), kr, by omega, by omega, fun rr H4 s4 t4 => ?_⟩
      have t3' := t3.same s4
      have s24 := s23.trans s4
      have hT4 := Same.tup s24 hT
      rw [rawE_op]
      cases e1 : lineE wd el with
      | none =>
        rw [e1] at t3
        have : rl = .non := t3
        subst this
        exact ⟨_, rfl, rfl, _, rfl, itYn ⟨_, _, _, _, rfl, s24, rfl⟩⟩
      | some pl =>
        rw [e1] at t3'
        obtain ⟨al, rfl, hal⟩ := t3'
        refine ⟨_, rfl, rfl, _, rfl, itNn (by intro z; cases z) ?_⟩
        cases e2 : lineE wd er with
        | none =>
          rw [e2] at t4
          have : rr = .non := t4
          subst this
          exact ⟨_, rfl, rfl, _, rfl, itYn ⟨_, _, _, _, rfl, s24, rfl⟩⟩
        | some pr =>
          rw [e2] at t4
          obtain ⟨ar, rfl, har⟩ := t4
          refine ⟨_, rfl, rfl, _, rfl, itNn (by intro z; cases z) ?_⟩
          refine ⟨_, rfl, _, _, _, _, rfl, rfl, hT4, atI_nat (j := 1) rfl, _, rfl, _, rfl, sg, al, ar, pl, pr, rfl, hal, har, (lineE_some e1).2, (lineE_some e2).2, fun r H5 s5 t5 => ?_⟩
          exact ⟨_, _, _, _, rfl, s24.trans s5, t5⟩
    | rd x el =>
      obtain ⟨a, y, rfl, hT, hl⟩ := hAt
      refine ⟨_, rfl, _, _, _, _, rfl, rfl, hT, atI_nat (j := 0) rfl, _, rfl, rfl, _, rfl, itN (by decide +kernel) ?_⟩
      refine ⟨_, rfl, (by show 2 ≤ sizeLine; decide), fun t ht => rd_eqn hAt0 hok (by omega) hme ht ?_⟩
      have s1 := same_new ht (.tup [.str "name", .str "me"])
      rw [eqv_rd]
      refine iteF ⟨_, rfl, (by show 2 ≤ sizeLine; decide), fun t2 ht2 => rd_eqn (hAt0.tu (Same.tu s1)) hok (by omega) hla ht2 ?_⟩
      have s2 := s1.trans (same_new ht2 (.tup [.str "name", .str "lanes"]))
      rw [eqv_rd]
      exact iteF ⟨_, rfl, rfl, _, rfl, itN (by decide +kernel) ⟨_, _, _, _, rfl, s2, rfl⟩⟩
    | c1 x el =>
      obtain ⟨a, y, z, rfl, hT, hl⟩ := hAt
      refine ⟨_, rfl, _, _, _, _, rfl, rfl, hT, atI_nat (j := 0) rfl, _, rfl, rfl, _, rfl, itN (by decide +kernel) ?_⟩
      refine ⟨_, rfl, (by show 2 ≤ sizeLine; decide), fun t ht => rd_eqn hAt0 hok (by omega) hme ht ?_⟩
      have s1 := same_new ht (.tup [.str "name", .str "me"])
      rw [eqv_c1]
      refine iteF ⟨_, rfl, (by show 2 ≤ sizeLine; decide), fun t2 ht2 => rd_eqn (hAt0.tu (Same.tu s1)) hok (by omega) hla ht2 ?_⟩
      have s2 := s1.trans (same_new ht2 (.tup [.str "name", .str "lanes"]))
      rw [eqv_c1]
      exact iteF ⟨_, rfl, rfl, _, rfl, itN (by decide +kernel) ⟨_, _, _, _, rfl, s2, rfl⟩⟩
    | c2 x el er =>
      obtain ⟨a, y, z, z2, rfl, hT, hl⟩ := hAt
      refine ⟨_, rfl, _, _, _, _, rfl, rfl, hT, atI_nat (j := 0) rfl, _, rfl, rfl, _, rfl, itN (by decide +kernel) ?_⟩
      refine ⟨_, rfl, (by show 2 ≤ sizeLine; decide), fun t ht => rd_eqn hAt0 hok (by omega) hme ht ?_⟩
      have s1 := same_new ht (.tup [.str "name", .str "me"])
      rw [eqv_c2]
      refine iteF ⟨_, rfl, (by show 2 ≤ sizeLine; decide), fun t2 ht2 => rd_eqn (hAt0.tu (Same.tu s1)) hok (by omega) hla ht2 ?_⟩
      have s2 := s1.trans (same_new ht2 (.tup [.str "name", .str "lanes"]))
      rw [eqv_c2]
      exact iteF ⟨_, rfl, rfl, _, rfl, itN (by decide +kernel) ⟨_, _, _, _, rfl, s2, rfl⟩⟩
    | c3 x el er eq =>
      obtain ⟨a, y, z, z2, z3, rfl, hT, hl⟩ := hAt
      refine ⟨_, rfl, _, _, _, _, rfl, rfl, hT, atI_nat (j := 0) rfl, _, rfl, rfl, _, rfl, itN (by decide +kernel) ?_⟩
      refine ⟨_, rfl, (by show 2 ≤ sizeLine; decide), fun t ht => rd_eqn hAt0 hok (by omega) hme ht ?_⟩
      have s1 := same_new ht (.tup [.str "name", .str "me"])
      rw [eqv_c3]
      refine iteF ⟨_, rfl, (by show 2 ≤ sizeLine; decide), fun t2 ht2 => rd_eqn (hAt0.tu (Same.tu s1)) hok (by omega) hla ht2 ?_⟩
      have s2 := s1.trans (same_new ht2 (.tup [.str "name", .str "lanes"]))
      rw [eqv_c3]
      exact iteF ⟨_, rfl, rfl, _, rfl, itN (by decide +kernel) ⟨_, _, _, _, rfl, s2, rfl⟩⟩
  obtain ⟨kd, r, y4, y5, rfl, s1, t1⟩ := hm
  unfold lineE at q
  cases e0 : rawE wd e with
  | none =>
    rw [e0] at t1 q
    have : r = .non := t1
    subst this
    exact ⟨_, rfl, rfl, _, rfl, itY (q _ _ s1 rfl)⟩
  | some p =>
    rw [e0] at t1 q
    obtain ⟨a, rfl, ha⟩ := t1
    refine ⟨_, rfl, rfl, _, rfl, itN (by intro z; cases z) ?_⟩
    refine ⟨_, rfl, _, _, _, _, rfl, rfl, (SqT.of ha), atI_nat (j := 0) rfl, _, rfl, _, rfl, _, _, _, _, rfl, rfl, (SqT.of ha), atI_nat (j := 1) rfl, _, rfl, _, _, rfl, _, _, rfl, rfl, _, rfl, ite2' (fun c => ?_) (fun c => ?_)⟩
    · refine q _ _ s1 ?_
      have : chk p = none := if_pos c
      show LRes _ _ (chk p) _
      rw [this]
      rfl
    · refine ⟨_, rfl, q _ _ s1 ?_⟩
      have : chk p = some p := if_neg c
      show LRes _ _ (chk p) _
      rw [this]
      exact ⟨a, rfl, ha⟩
end
end K17
namespace K17
open PySem L2 Vk
def spClip : Sp := fun vs H Q _ => ∃ n : Int, vs = [.int n] ∧ -1000000000000 ≤ n ∧ n ≤ 1000000000000 ∧ Q (.int n) H
def spJV : Sp := fun vs H Q _ => ∃ (s : Str) (l r m : Int), vs = [.str s, .int l, .int r] ∧ ((s = "+" ∧ m = l + r) ∨ (s = "-" ∧ m = l - r) ∨ (s = "*" ∧ m = l * r)) ∧ -1000000000000 ≤ m ∧ m ≤ 1000000000000 ∧ -1000000000000 ≤ l ∧ l ≤ 1000000000000 ∧ Q (.int m) H
def spParts (K : PySem.W.Frag) : Sp := fun vs H Q _ => ∃ (a : Addr) (s : Str) (x y : V), vs = [.ref a] ∧ SqT K H a [.str "op", .str s, x, y] ∧ ∀ t H', Same H H' → H' t = some (.tup [x, y]) → Q (.ref t) H'
def nameD (lane wd : Int) : List (Key × V) := [(.inr "me", .int lane), (.inr "lanes", .int wd)]
theorem val_me {lane wd : Int} : valV (nameD lane wd) (.inr "me") = some (.int lane) := by
  simp [valV, nameD, List.find?_cons]
theorem val_lanes {lane wd : Int} : valV (nameD lane wd) (.inr "lanes") = some (.int wd) := by
  have h : ¬ (("me" : Str) = "lanes") := by decide +kernel
  simp [valV, nameD, List.find?_cons, h]
theorem same_put {H H1 : Hp} {D : Addr} {o : HO} (s : Same H H1) (h : H D = none) : Same H (upd H1 D o) := fun b u e => by
  rw [upd_ne (ne_of_none e h)]
  exact s b u e
theorem valof_take {H H' : Hp} {a : Addr} {kvs : List (Key × V)} {x : Str} {v : V} (e : H a = some (.dK kvs)) (h : valV kvs (.inr x) = some v) : DGet H a (.str x) (some v) := by
  have := DGet.k (k := Sum.inr x) e
  rw [h] at this
  exact this
def spVal (K : PySem.W.Frag) (n : Nat) : Sp := fun vs H Q _ => ∃ (v : V) (e : Ex) (dn : Addr) (da : V) (lane wd : Int) (p : Int × Int), vs = [v, .ref dn, da] ∧ e.At K H v ∧ e.dep ≤ n ∧ H dn = some (.dK (nameD lane wd)) ∧ 0 ≤ lane ∧ lane ≤ 31 ∧ lineE wd e = some p ∧
  ∀ H', Same H H' → Q (.int (p.1 * lane + p.2)) H'
theorem line_val {sg : Str} {a b q : Int × Int} {x : Int} (h : joinL sg a b = some q) : (sg = "+" ∧ q.1 * x + q.2 = (a.1 * x + a.2) + (b.1 * x + b.2)) ∨ (sg = "-" ∧ q.1 * x + q.2 = (a.1 * x + a.2) - (b.1 * x + b.2)) ∨ (sg = "*" ∧ q.1 * x + q.2 = (a.1 * x + a.2) * (b.1 * x + b.2)) := by
  unfold joinL at h
  split at h
  · rename_i c
    cases h
    exact .inl ⟨c, by rw [Int.add_mul]; omega⟩
  split at h
  · rename_i c
    cases h
    exact .inr (.inl ⟨c, by rw [Int.sub_mul]; omega⟩)
  split at h
  · rename_i c
    refine .inr (.inr ⟨c, ?_⟩)
    split at h
    · rename_i z
      cases h
      rw [z, Int.zero_mul, Int.zero_add, Int.mul_add, Int.mul_assoc]
    · split at h
      · rename_i z
        cases h
        rw [z, Int.zero_mul, Int.zero_add, Int.add_mul, Int.mul_assoc, Int.mul_comm b.2 x, Int.mul_assoc]
      · cases h
  · cases h
theorem line_small {q : Int × Int} {x : Int} (x0 : 0 ≤ x) (x1 : x ≤ 31) (b : -1000 ≤ q.1 ∧ q.1 ≤ 1000 ∧ -1000 ≤ q.2 ∧ q.2 ≤ 1000) : -32000 ≤ q.1 * x + q.2 ∧ q.1 * x + q.2 ≤ 32000 := by
  have h1 : q.1 * x ≤ 1000 * x := Int.mul_le_mul_of_nonneg_right b.2.1 x0
  have h2 : -1000 * x ≤ q.1 * x := Int.mul_le_mul_of_nonneg_right b.1 x0
  omega
section
variable {P : Program} {w : World} {K : PySem.W.Frag} {mg : Str → Option Value} {base : Heap}
theorem ok_clip {f : Addr} {fd : FuncData} {k : Nat} (F : Fun K "clip" "clip" s_clip f fd) (mmax : mg "max" = none) (mmin : mg "min" = none) {tL : Tok} (mLIMIT : mg "LIMIT" = some (.int (10 ^ 12) tL)) : FnOk P w K mg base CX0 (k + 1) f fd P_clip spClip := by
  refine F.ok sc_clip (fun vs H Q E h => ?_) (fun cdv A outer s H vs Q E hr h => ?_)
  · obtain ⟨n, rfl, _⟩ := h
    rfl
  obtain ⟨n, rfl, h0, h1, q⟩ := h
  refine ⟨_, (pss_one (ps_ret (pe_callB (call_max2 rfl) (by rfl) mmax (by decide +kernel) (pa_cons (pe_un un_neg (pe_glob (v := .int (10 ^ 12)) (by rfl) mLIMIT ⟨_, rfl⟩)) (pa_cons (pe_callB (call_min2 rfl) (by rfl) mmin (by decide +kernel) (pa_cons (pe_glob (v := .int (10 ^ 12)) (by rfl) mLIMIT ⟨_, rfl⟩) (pa_cons (pv 0) pa_nil))) pa_nil))))), ?_⟩
  refine ⟨_, rfl, _, rfl, _, _, rfl, _, _, rfl, ?_⟩
  have e : (if (if n < 10 ^ 12 then n else 10 ^ 12) > -(10 ^ 12 : Int) then (if n < 10 ^ 12 then n else 10 ^ 12) else -(10 ^ 12 : Int)) = n := by
    split <;> split at * <;> omega
  show Q (.int (if (if n < 10 ^ 12 then n else 10 ^ 12) > -(10 ^ 12 : Int) then (if n < 10 ^ 12 then n else 10 ^ 12) else -(10 ^ 12 : Int))) H
  rw [e]
  exact q
theorem ok_joined_value {f : Addr} {fd : FuncData} {k : Nat} (F : Fun K "_joined_value" "_joined_value" s_joined_value f fd) (Oclip : Ok P w K mg base k "clip" P_clip spClip) : FnOk P w K mg base CX0 (k + 1) f fd P_joined_value spJV := by
  refine F.ok sc_joined_value (fun vs H Q E h => ?_) (fun cdv A outer s H vs Q E hr h => ?_)
  · obtain ⟨s, l, r, m, rfl, _⟩ := h
    rfl
  obtain ⟨sg, l, r, m, rfl, hs, m0, m1, l0, l1, q⟩ := h
  refine ⟨_, (pss_cons (ps_if (pt_cmpR op_eq (pv 0) pe_str (nomark _))
      (pss_one (ps_ret (pe_c Oclip hr (by rfl) (pa_cons (pe_op op_add (pv 1) (pv 2)) pa_nil))))
      pss_nil)
    (pss_cons (ps_if (pt_cmpR op_eq (pv 0) pe_str (nomark _))
      (pss_one (ps_ret (pe_c Oclip hr (by rfl) (pa_cons (pe_op op_sub (pv 1) (pv 2)) pa_nil))))
      pss_nil)
    (pss_cons (ps_if (pt_cmpR op_eq (pv 0) pe_str (nomark _))
      (pss_one (ps_ret (pe_c Oclip hr (by rfl) (pa_cons (pe_op op_mul (pv 1) (pv 2)) pa_nil))))
      pss_nil)
    (pss_cons ps_never
    (pss_cons ps_never
    (pss_one ps_never)))))), ?_⟩
  rcases hs with ⟨rfl, rfl⟩ | ⟨rfl, rfl⟩ | ⟨rfl, rfl⟩
  · exact ⟨_, rfl, rfl, _, rfl, itY ⟨_, rfl, _, rfl, _, _, rfl, rfl, _, rfl, m0, m1, q⟩⟩
  · exact ⟨_, rfl, rfl, _, rfl, itN (by decide +kernel) ⟨_, rfl, rfl, _, rfl, itY ⟨_, rfl, _, rfl, _, _, rfl, rfl, _, rfl, m0, m1, q⟩⟩⟩
  · exact ⟨_, rfl, rfl, _, rfl, itN (by decide +kernel) ⟨_, rfl, rfl, _, rfl, itN (by decide +kernel) ⟨_, rfl, rfl, _, rfl, itY ⟨_, rfl, _, rfl, _, _, rfl, rfl, .inl ⟨by omega, by omega⟩, _, rfl, m0, m1, q⟩⟩⟩⟩
theorem ok_parts {f : Addr} {fd : FuncData} {k : Nat} (F : Fun K "operands_of" "operands_of" s_operands_of f fd) : FnOk P w K mg base CX0 (k + 1) f fd P_operands_of (spParts K) := by
  refine F.ok sc_operands_of (fun vs H Q E h => ?_) (fun cdv A outer s H vs Q E hr h => ?_)
  · obtain ⟨a, s, x, y, rfl, _⟩ := h
    rfl
  obtain ⟨a, sg, x, y, rfl, hT, q⟩ := h
  refine ⟨_, (pss_cons (ps_set (i := 1) sc_operands_of.nd rfl (Or.inl rfl) (pe_ix ix_tup (pv 0) pe_int (fun _ _ => rfl)))
    (pss_cons (ps_if (pt_cmpR op_eq (pv 1) pe_str (nomark _))
      (pss_one (ps_ret (pe_tup (pa_cons (pe_ix ix_tup (pv 0) pe_int (fun _ _ => rfl)) pa_nil))))
      pss_nil)
    (pss_cons (ps_if (pt_cmpR op_eq (pv 1) pe_str (nomark _))
      (pss_one (ps_ret (pe_tup (pa_cons (pe_ix ix_tup (pv 0) pe_int (fun _ _ => rfl)) (pa_cons (pe_ix ix_tup (pv 0) pe_int (fun _ _ => rfl)) pa_nil)))))
      pss_nil)
    (pss_cons (ps_if (pt_cmpR op_eq (pv 1) pe_str (nomark _))
      (pss_one ps_never)
      pss_nil)
    (pss_one (ps_ret (pe_tup pa_nil))))))), ?_⟩
  refine ⟨_, rfl, _, _, _, _, rfl, rfl, hT, atI_nat (j := 0) rfl, _, rfl, rfl, _, rfl, itN (by decide +kernel) ⟨_, rfl, rfl, _, rfl, itY ?_⟩⟩
  exact ⟨_, rfl, _, _, _, _, rfl, rfl, hT, atI_nat (j := 2) rfl, _, rfl, _, _, _, _, rfl, rfl, hT, atI_nat (j := 3) rfl, (by show 2 ≤ sizeLine; decide), fun t ht => q t _ (same_new ht _) upd_same⟩
theorem ok_value_of {f : Addr} {fd : FuncData} {k n : Nat} (F : Fun K "value_of" "value_of" s_value_of f fd) (Ooperands_of : Ok P w K mg base k "operands_of" P_operands_of (spParts K)) (O_joined_value : Ok P w K mg base k "_joined_value" P_joined_value spJV)
    (Ovalue_of : Ok P w K mg base k "value_of" P_value_of (spVal K n)) : FnOk P w K mg base CX0 (k + 1) f fd P_value_of (spVal K (n + 1)) := by
  refine F.ok sc_value_of (fun vs H Q E h => ?_) (fun cdv A outer s H vs Q E hr h => ?_)
  · obtain ⟨v, e, dn, da, lane, wd, p, rfl, _⟩ := h
    rfl
  obtain ⟨v, e, dn, da, lane, wd, p, rfl, hAt, hdep, hd, l0, l1, hp, q⟩ := h
  refine ⟨_, (pss_cons (ps_set (i := 3) sc_value_of.nd rfl (Or.inl rfl) (pe_ix ix_tup (pv 0) pe_int (fun _ _ => rfl)))
    (pss_cons (ps_if (pt_cmpR op_eq (pv 3) pe_str (nomark _))
      (pss_one (ps_ret (pe_ix ix_tup (pv 0) pe_int (fun _ _ => rfl))))
      pss_nil)
    (pss_cons (ps_if (pt_cmpR op_eq (pv 3) pe_str (nomark _))
      (pss_one (ps_ret (pe_dget (hu_of hr) (pv 1) (pe_ix ix_tup (pv 0) pe_int (fun _ _ => rfl)) (fun _ _ => rfl))))
      pss_nil)
    (pss_cons (ps_setLc (i := 4) (own := [("part", 5)]) (g := gName 5) (tt := tYes) rfl sc_value_of.nd rfl rfl (sw_true rfl rfl rfl (by decide +kernel)) (pi_tup (pe_c Ooperands_of hr (by rfl) (pa_cons (pv 0) pa_nil))) (blkOk_by (N := N_value_of) (sc := defScope s_value_of) (by decide +kernel)) (fun _ _ _ _ _ => pg_name (i := 5) sc_value_of.nd rfl (Or.inl rfl)) (fun _ _ _ _ _ => pts_nil) (fun _ _ _ _ _ => pe_c Ovalue_of hr (by rfl) (pa_cons (pv 5) (pa_cons (pv 1) (pa_cons (pv 2) pa_nil)))))
    (pss_cons (ps_if (pt_cmpR op_eq (pv 3) pe_str (nomark _))
      (pss_one ps_never)
      pss_nil)
    (pss_cons (ps_if (pt_cmpR op_eq (pv 3) pe_str (nomark _))
      (pss_one (ps_ret (pe_c O_joined_value hr (by rfl) (pa_cons (pe_ix ix_tup (pv 0) pe_int (fun _ _ => rfl)) (pa_cons (pe_ix ix_list (pv 4) pe_int (fun _ _ => rfl)) (pa_cons (pe_ix ix_list (pv 4) pe_int (fun _ _ => rfl)) pa_nil))))))
      pss_nil)
    (pss_one ps_never))))))), ?_⟩
  have hraw := lineE_some hp
  cases e with
  | num m =>
    obtain ⟨a, rfl, hT⟩ := hAt
    have e1 : p = (0, m) := (Option.some.inj hraw.1).symm
    subst e1
    refine ⟨_, rfl, _, _, _, _, rfl, rfl, hT, atI_nat (j := 0) rfl, _, rfl, rfl, _, rfl, itY ⟨_, rfl, _, _, _, _, rfl, rfl, hT, atI_nat (j := 1) rfl, ?_⟩⟩
    have := q H (Same.refl _)
    rw [show ((0 : Int), m).1 * lane + ((0 : Int), m).2 = m by show 0 * lane + m = m; omega] at this
    exact this
  | nam x =>
    obtain ⟨a, rfl, hT⟩ := hAt
    refine ⟨_, rfl, _, _, _, _, rfl, rfl, hT, atI_nat (j := 0) rfl, _, rfl, rfl, _, rfl, itN (by decide +kernel) ⟨_, rfl, rfl, _, rfl, itY ?_⟩⟩
    by_cases h1 : x = "me"
    · subst h1
      have e1 : p = (1, 0) := (Option.some.inj hraw.1).symm
      subst e1
      refine ⟨_, rfl, _, rfl, _, _, _, _, rfl, rfl, hT, atI_nat (j := 1) rfl, _, _, rfl, valof_take (H' := H) hd val_me, ?_⟩
      have := q H (Same.refl _)
      rw [show ((1 : Int), (0 : Int)).1 * lane + ((1 : Int), (0 : Int)).2 = lane by show 1 * lane + 0 = lane; omega] at this
      exact this
    by_cases h2 : x = "lanes"
    · subst h2
      have e0 : rawE wd (.nam "lanes") = some (0, wd) := by
        show (if _ then _ else _) = _
        rw [if_neg h1, if_pos rfl]
      have e1 : p = (0, wd) := (Option.some.inj (e0.symm.trans hraw.1)).symm
      subst e1
      refine ⟨_, rfl, _, rfl, _, _, _, _, rfl, rfl, hT, atI_nat (j := 1) rfl, _, _, rfl, valof_take (H' := H) hd val_lanes, ?_⟩
      have := q H (Same.refl _)
      rw [show ((0 : Int), wd).1 * lane + ((0 : Int), wd).2 = wd by show 0 * lane + wd = wd; omega] at this
      exact this
    · have e0 : rawE wd (.nam x) = none := by
        show (if _ then _ else _) = _
        rw [if_neg h1, if_neg h2]
      rw [e0] at hraw
      cases hraw.1
  | op sg el er =>
    obtain ⟨a, x, y, rfl, hT, hl, hr1⟩ := hAt
    have d1 : max el.dep er.dep + 1 ≤ n + 1 := hdep
    refine ⟨_, rfl, _, _, _, _, rfl, rfl, hT, atI_nat (j := 0) rfl, _, rfl, rfl, _, rfl, itN (by decide +kernel) ⟨_, rfl, rfl, _, rfl, itN (by decide +kernel) ?_⟩⟩
    have hraw1 := hraw.1
    rw [rawE_op] at hraw1
    cases e1 : lineE wd el with
    | none => rw [e1] at hraw1; cases hraw1
    | some pl =>
    cases e2 : lineE wd er with
    | none => rw [e1, e2] at hraw1; cases hraw1
    | some pr =>
    rw [e1, e2] at hraw1
    have hj : joinL sg pl pr = some p := hraw1
    have b1 := line_small l0 l1 (lineE_some e1).2
    have b2 := line_small l0 l1 (lineE_some e2).2
    have b3 := line_small l0 l1 hraw.2
    refine ⟨_, rfl, a, sg, x, y, rfl, hT, fun t H1 s1 ht => ⟨t, rfl, ⟨_, SqT.of ht⟩, fun D hD => ?_⟩⟩
    refine lc_tup (xs := [x, y]) (fun i H' => Same H1 H' ∧ H' D = some (.lst ([V.int (pl.1 * lane + pl.2), V.int (pr.1 * lane + pr.2)].take i))) ⟨same_new hD _, upd_same⟩ (fun i H' _ hp => Same.tup hp.1 (SqT.of ht)) (fun i x' H' hx hp => ?_) (fun H' hp => ?_)
    · obtain ⟨sm, eD⟩ := hp
      have g1 := s1.trans sm
      rcases i with _ | _ | i
      · cases hx
        refine ⟨rfl, _, rfl, _, rfl, _, rfl, x, el, dn, da, lane, wd, pl, rfl, hl.tu (Same.tu g1), by omega, g1 _ _ hd, l0, l1, e1, fun H2 s2 => ?_⟩
        exact ⟨_, s2 _ _ eD, (by show 0 < sizeLine; decide), same_put (sm.trans s2) hD, upd_same⟩
      · cases hx
        refine ⟨rfl, _, rfl, _, rfl, _, rfl, y, er, dn, da, lane, wd, pr, rfl, hr1.tu (Same.tu g1), by omega, g1 _ _ hd, l0, l1, e2, fun H2 s2 => ?_⟩
        exact ⟨_, s2 _ _ eD, (by show 1 < sizeLine; decide), same_put (sm.trans s2) hD, upd_same⟩
      · cases hx
    · obtain ⟨sm, eD⟩ := hp
      have g1 := s1.trans sm
      have hT2 := Same.tup g1 hT
      refine ⟨_, rfl, rfl, _, rfl, itN (by decide +kernel) ⟨_, rfl, rfl, _, rfl, itY ?_⟩⟩
      refine ⟨_, rfl, _, _, _, _, rfl, rfl, hT2, atI_nat (j := 1) rfl, _, rfl, _, _, _, _, rfl, rfl, (SqL.of eD), atI_nat (j := 0) rfl, _, rfl, _, _, _, _, rfl, rfl, (SqL.of eD), atI_nat (j := 1) rfl, sg, _, _, p.1 * lane + p.2, rfl, ?_, by omega, by omega, by omega, by omega, q _ g1⟩
      exact line_val hj
  | rd x el => cases hraw.1
  | c1 x el => cases hraw.1
  | c2 x el er => cases hraw.1
  | c3 x el er eq => cases hraw.1
end
end K17
namespace K17
open PySem L2 Vk
def spPushed (K : PySem.W.Frag) : Sp := fun vs H Q _ => ∃ (v : V) (e : Ex) (ap : Addr) (sl of side goal : Int), vs = [v, .ref ap, .int side, .int goal] ∧ e.At K H v ∧ e.ok ∧ H ap = some (.lst [.int sl, .int of]) ∧ 0 ≤ side ∧ side < 2 ∧
  ∀ (v' : V) (e' : Ex) (H' : Hp), Same H H' → e'.At K H' v' → e'.ok → e'.dep ≤ max e.dep 2 + 3 → Q v' H'
def spWrapped (K : PySem.W.Frag) : Sp := fun vs H Q _ => ∃ (a : Addr) (v : V) (e : Ex), vs = [.ref a, v] ∧ Fd H a ∧ e.At K H v ∧ e.ok ∧ XQ K a (e.dep + 1) H Q
theorem dep1 : ∀ e : Ex, 1 ≤ e.dep
  | .num _ => Nat.le_refl 1
  | .nam _ => Nat.le_refl 1
  | .op _ _ _ => Nat.succ_le_succ (Nat.zero_le _)
  | .rd _ _ => Nat.succ_le_succ (Nat.zero_le _)
  | .c1 _ _ => Nat.succ_le_succ (Nat.zero_le _)
  | .c2 _ _ _ => Nat.succ_le_succ (Nat.zero_le _)
  | .c3 _ _ _ _ => Nat.succ_le_succ (Nat.zero_le _)
section
variable {P : Program} {w : World} {K : PySem.W.Frag} {mg : Str → Option Value} {base : Heap}
theorem ok_pushed {f : Addr} {fd : FuncData} {k : Nat} (F : Fun K "_law_pushed" "_law_pushed" s_law_pushed f fd) (mrange : mg "range" = none) (mmax : mg "max" = none) (mmin : mg "min" = none) (mabs : mg "abs" = none) (mint : mg "int" = none) : FnOk P w K mg base CX0 (k + 1) f fd P_law_pushed (spPushed K) := by
  refine F.ok sc_law_pushed (fun vs H Q E h => ?_) (fun cdv A outer s H vs Q E hr h => ?_)
  · obtain ⟨v, e, ap, sl, of, side, goal, rfl, _⟩ := h
    rfl
  obtain ⟨v, e, ap, sl, of, side, goal, rfl, hAt, hok, hp, sd0, sd1, q⟩ := h
  refine ⟨_, (pss_cons (ps_set (i := 4) sc_law_pushed.nd rfl (Or.inl rfl) (pe_op op_sub (pv 3) (pe_ix ix_list (pv 1) (pv 2) (fun _ _ => rfl))))
    (pss_cons (ps_for PassesOwn.never rfl (pi_range1 (by rfl) mrange (pa_cons pe_int pa_nil)) (pg_name (i := 5) sc_law_pushed.nd rfl (Or.inl rfl))
      (pss_cons (ps_set (i := 6) sc_law_pushed.nd rfl (Or.inl rfl) (pe_callB (call_max2 rfl) (by rfl) mmax (by decide +kernel) (pa_cons (pe_op op_sub pe_int pe_int) (pa_cons (pe_callB (call_min2 rfl) (by rfl) mmin (by decide +kernel) (pa_cons pe_int (pa_cons (pv 4) pa_nil))) pa_nil))))
      (pss_cons (ps_set (i := 7) sc_law_pushed.nd rfl (Or.inl rfl) (pe_tup (pa_cons pe_str (pa_cons (pe_callB call_abs (by rfl) mabs (by decide +kernel) (pa_cons (pv 6) pa_nil)) pa_nil))))
      (C8.pss_cut (ps_if (pt_cmpR op_eq (pv 2) pe_int (nomark _))
        (pss_one (ps_set (i := 7) sc_law_pushed.nd rfl (Or.inl rfl) (pe_tup (pa_cons pe_str (pa_cons pe_str (pa_cons (pe_tup (pa_cons pe_str (pa_cons pe_str pa_nil))) (pa_cons (pv 7) pa_nil)))))))
        pss_nil)
      (pss_one (ps_if (pt_cmpR op_ne (pv 6) pe_int (nomark _))
        (pss_cons (ps_set (i := 0) sc_law_pushed.nd rfl (Or.inl rfl) (pe_tup (pa_cons pe_str (pa_cons (pe_ix ix_list (pe_lst (pa_cons pe_str (pa_cons pe_str pa_nil))) (pe_callTy call_int1 (by rfl) mint (by decide +kernel) (pa_cons (pe_cmpR op_lt (pv 6) pe_int (nomark _)) pa_nil)) (fun _ _ => rfl)) (pa_cons (pv 0) (pa_cons (pv 7) pa_nil))))))
        (pss_one (ps_set (i := 4) sc_law_pushed.nd rfl (Or.inl rfl) (pe_op op_sub (pv 4) (pv 6)))))
        pss_nil))))))
    (pss_one (ps_ret (pv 0))))), ?_⟩
  obtain ⟨x, xm, ex⟩ := atI_in (xs := ([sl, of] : List Int).map V.int) sd0 sd1
  obtain ⟨x, _, rfl⟩ := List.mem_map.mp xm
  refine ⟨_, rfl, _, rfl, _, rfl, _, _, _, _, rfl, rfl, SqL.of hp, ex, _, _, rfl, rfl, ?_⟩
  refine ⟨3, rfl, by decide, by decide, for_range (n := 3) (fun i σ H' => ∃ (v' : V) (e' : Ex) (gap : Int) (y5 y6 y7 : Option V), σ = [some v', some (.ref ap), some (.int side), some (.int goal), some (.int gap), y5, y6, y7] ∧ Same H H' ∧ e'.At K H' v' ∧ e'.ok ∧ e'.dep ≤ max e.dep 2 + i)
    ⟨v, e, _, _, _, _, rfl, Same.refl _, hAt, hok, by omega⟩ (fun i σ H' hi hv => ?_) (fun σ H' hv => ?_)⟩
  · obtain ⟨v', e', gap, y5, y6, y7, rfl, sm, at', ok', dp'⟩ := hv
    refine ⟨_, _, rfl, rfl, _, rfl, _, _, rfl, _, _, rfl, ?_⟩
    refine ⟨_, rfl, _, rfl, (by show 2 ≤ sizeLine; decide), fun t ht => ?_⟩
    have s1 := same_new ht (.tup [.str "number", .int (if (if (if gap < 1000 then gap else 1000) > 0 - 1000 then (if gap < 1000 then gap else 1000) else 0 - 1000) < 0 then -(if (if gap < 1000 then gap else 1000) > 0 - 1000 then (if gap < 1000 then gap else 1000) else 0 - 1000) else (if (if gap < 1000 then gap else 1000) > 0 - 1000 then (if gap < 1000 then gap else 1000) else 0 - 1000))])
    generalize (if (if gap < 1000 then gap else 1000) > 0 - 1000 then (if gap < 1000 then gap else 1000) else (0 : Int) - 1000) = part at *
    refine ⟨fun σ2 H2 => ∃ (vt : V) (et : Ex) (y5 : Option V), σ2 = [some v', some (.ref ap), some (.int side), some (.int goal), some (.int gap), y5, some (.int part), some vt] ∧ Same H' H2 ∧ et.At K H2 vt ∧ et.ok ∧ et.dep ≤ 2, ?_, fun σ2 H2 hm => ?_⟩
    · refine ⟨_, rfl, rfl, _, rfl, ite2 (fun c => ?_) (fun c => ?_)⟩
      · refine ⟨(by show 2 ≤ sizeLine; decide), fun t1 h1 => ⟨_, rfl, (by show 4 ≤ sizeLine; decide), fun t2 h2 => ?_⟩⟩
        have g1 := same_new h1 (.tup [.str "name", .str "me"])
        have g2 := same_new h2 (.tup [.str "op", .str "*", .ref t1, .ref t])
        exact ⟨_, .op "*" (.nam "me") (.num _), _, rfl, s1.trans (g1.trans g2), ⟨t2, .ref t1, .ref t, rfl, SqT.of upd_same, ⟨t1, rfl, Same.tup g2 (SqT.of upd_same)⟩, ⟨t, rfl, Same.tup (g1.trans g2) (SqT.of upd_same)⟩⟩, ⟨(by decide +kernel), (show okW "me" by decide +kernel), trivial⟩, (by show max 1 1 + 1 ≤ 2; decide)⟩
      · exact ⟨_, .num _, _, rfl, s1, ⟨t, rfl, SqT.of upd_same⟩, trivial, (by show 1 ≤ 2; decide)⟩
    · obtain ⟨vt, et, y5, rfl, s2, att, okt, dpt⟩ := hm
      refine ⟨_, rfl, rfl, _, rfl, ite2 (fun c => ?_) (fun c => ?_)⟩
      · refine ⟨(by show 2 ≤ sizeLine; decide), fun l hl => ⟨_, rfl, _, _, rfl, rfl, .inr ⟨_, rfl, ?_⟩⟩⟩
        obtain ⟨z0, zm0, ez⟩ := atI_in (xs := (["+", "-"] : List Str).map V.str) (i := if decide (part < 0) = true then 1 else 0) (by split <;> decide) (by split <;> decide)
        obtain ⟨z, zm, rfl⟩ := List.mem_map.mp zm0
        have okz : okW z := (show ∀ z ∈ (["+", "-"] : List Str), okW z by decide +kernel) z zm
        have g1 := same_new hl (.lst ((["+", "-"] : List Str).map V.str))
        refine ⟨_, _, _, _, rfl, rfl, SqL.of upd_same, ez, _, rfl, _, rfl, (by show 4 ≤ sizeLine; decide), fun t3 h3 => ?_⟩
        have g2 := same_new h3 (.tup [.str "op", .str z, v', vt])
        have g := s2.trans (g1.trans g2)
        refine ⟨_, rfl, _, rfl, _, _, rfl, rfl, ?_⟩
        exact ⟨_, .op z e' et, _, _, _, _, rfl, sm.trans g, ⟨t3, v', vt, rfl, SqT.of upd_same, at'.tu (Same.tu g), att.tu (Same.tu (g1.trans g2))⟩, ⟨okz, ok', okt⟩, (by show max e'.dep et.dep + 1 ≤ max e.dep 2 + (i + 1); omega)⟩
      · exact ⟨v', e', _, _, _, _, rfl, sm.trans s2, at'.tu (Same.tu s2), ok', by omega⟩
  · obtain ⟨v', e', gap, y5, y6, y7, rfl, sm, at', ok', dp'⟩ := hv
    exact ⟨_, rfl, q v' e' H' sm at' ok' dp'⟩
theorem ok_wrapped {f : Addr} {fd : FuncData} {k : Nat} (F : Fun K "_law_wrapped" "_law_wrapped" s_law_wrapped f fd) (O_law_take : Ok P w K mg base k "_law_take" P_law_take spTake) : FnOk P w K mg base CX0 (k + 1) f fd P_law_wrapped (spWrapped K) := by
  refine F.ok sc_law_wrapped (fun vs H Q E h => ?_) (fun cdv A outer s H vs Q E hr h => ?_)
  · obtain ⟨a, v, e, rfl, _⟩ := h
    rfl
  obtain ⟨a, v, e, rfl, hF, hAt, hok, q⟩ := h
  refine ⟨_, (pss_cons (ps_set (i := 2) sc_law_wrapped.nd rfl (Or.inl rfl) (pe_c O_law_take hr (by rfl) (pa_cons (pv 0) (pa_cons pe_int pa_nil))))
    (pss_cons (ps_if (pt_cmpR op_eq (pv 2) pe_int (nomark _))
      (pss_one (ps_ret (pe_tup (pa_cons pe_str (pa_cons pe_str (pa_cons (pv 1) (pa_cons (pe_tup (pa_cons pe_str (pa_cons (pe_ix ix_list (pe_lst (pa_cons (pe_op op_add pe_int (pe_c O_law_take hr (by rfl) (pa_cons (pv 0) (pa_cons pe_int pa_nil)))) (pa_cons pe_int pa_nil))) (pe_c O_law_take hr (by rfl) (pa_cons (pv 0) (pa_cons pe_int pa_nil))) (fun _ _ => rfl)) pa_nil))) pa_nil)))))))
      pss_nil)
    (pss_cons (ps_if (pt_cmpR op_eq (pv 2) pe_int (nomark _))
      (pss_one (ps_ret (pe_tup (pa_cons pe_str (pa_cons pe_str (pa_cons (pe_tup (pa_cons pe_str (pa_cons (pe_ix ix_list (pe_lst (pa_cons (pe_op op_add pe_int (pe_c O_law_take hr (by rfl) (pa_cons (pv 0) (pa_cons pe_int pa_nil)))) (pa_cons pe_int pa_nil))) (pe_c O_law_take hr (by rfl) (pa_cons (pv 0) (pa_cons pe_int pa_nil))) (fun _ _ => rfl)) pa_nil))) (pa_cons (pv 1) pa_nil)))))))
      pss_nil)
    (pss_cons (ps_if (pt_cmpR op_eq (pv 2) pe_int (nomark _))
      (pss_one (ps_ret (pe_tup (pa_cons pe_str (pa_cons pe_str (pa_cons (pe_tup (pa_cons pe_str (pa_cons pe_int pa_nil))) (pa_cons (pv 1) pa_nil)))))))
      pss_nil)
    (pss_cons (ps_if (pt_cmpR op_eq (pv 2) pe_int (nomark _))
      (pss_one (ps_ret (pe_tup (pa_cons pe_str (pa_cons pe_str (pa_cons (pv 1) (pa_cons (pe_tup (pa_cons pe_str (pa_cons (pe_op op_add pe_int (pe_c O_law_take hr (by rfl) (pa_cons (pv 0) (pa_cons pe_int pa_nil)))) pa_nil))) pa_nil)))))))
      pss_nil)
    (pss_cons (ps_if (pt_cmpR op_eq (pv 2) pe_int (nomark _))
      (pss_one (ps_ret (pe_tup (pa_cons pe_str (pa_cons pe_str (pa_cons (pe_tup (pa_cons pe_str (pa_cons (pe_ix ix_list (pe_lst (pa_cons (pe_c O_law_take hr (by rfl) (pa_cons (pv 0) (pa_cons pe_int pa_nil))) (pa_cons pe_int (pa_cons pe_int pa_nil)))) (pe_c O_law_take hr (by rfl) (pa_cons (pv 0) (pa_cons pe_int pa_nil))) (fun _ _ => rfl)) pa_nil))) (pa_cons (pv 1) pa_nil)))))))
      pss_nil)
    (pss_cons (ps_if (pt_cmpR op_eq (pv 2) pe_int (nomark _))
      (pss_one (ps_ret (pe_tup (pa_cons pe_str (pa_cons pe_str (pa_cons (pv 1) (pa_cons (pv 1) pa_nil)))))))
      pss_nil)
    (pss_cons (ps_if (pt_cmpR op_eq (pv 2) pe_int (nomark _))
      (pss_one (ps_ret (pe_tup (pa_cons pe_str (pa_cons pe_str (pa_cons (pv 1) (pa_cons (pe_tup (pa_cons pe_str (pa_cons pe_str pa_nil))) pa_nil)))))))
      pss_nil)
    (pss_one (ps_ret (pv 1))))))))))), ?_⟩
  refine rd_take rfl hF (by decide) (by decide) fun kind H1 k0 k1 s1 => ?_
  have at1 := hAt.tu (s1.tu hF)
  have d1 := dep1 e
  have fin : ∀ {H2 : Hp} (w : Str) (n : Int) {t1 t2 : Addr}, Stp a H1 H2 → okW w → H2 t1 = none → (upd H2 t1 (.tup [.str "number", .int n])) t2 = none → Q (.ref t2) (upd (upd H2 t1 (.tup [.str "number", .int n])) t2 (.tup [.str "op", .str w, v, .ref t1])) ∧ Q (.ref t2) (upd (upd H2 t1 (.tup [.str "number", .int n])) t2 (.tup [.str "op", .str w, .ref t1, v])) := fun {H2} w n {t1 t2} s2 hw h1 h2 => by
    have g1 := same_new h1 (.tup [.str "number", .int n])
    have s3 := (s1.trans s2).same g1
    have an : (Ex.num n).At K (upd H2 t1 (.tup [.str "number", .int n])) (.ref t1) := ⟨t1, rfl, SqT.of upd_same⟩
    have av := hAt.tu (s3.tu hF)
    exact ⟨(q.after s3).op s3.2 av an (by show max e.dep 1 + 1 ≤ e.dep + 1; omega) hw hok trivial h2, (q.after s3).op s3.2 an av (by show max 1 e.dep + 1 ≤ e.dep + 1; omega) hw trivial hok h2⟩
  refine ⟨_, rfl, rfl, _, rfl, ite2 (fun c => ?_) (fun c => ?_)⟩
  · refine ⟨_, rfl, rd_take rfl s1.2 (by decide) (by decide) fun n H2 _ _ s2 => ⟨_, _, rfl, rfl, (by show 2 ≤ sizeLine; decide), fun l hl => rd_inI [1 + n, 1001] rfl s2.2 hl rfl (by decide) (by decide) fun m H3 _ s3 => ?_⟩⟩
    exact ⟨(by show 2 ≤ sizeLine; decide), fun t1 h1 => ⟨(by show 4 ≤ sizeLine; decide), fun t2 h2 => (fin _ m (s2.trans s3) (by decide +kernel) h1 h2).1⟩⟩
  refine ⟨_, rfl, rfl, _, rfl, ite2 (fun c => ?_) (fun c => ?_)⟩
  · refine rd_take rfl s1.2 (by decide) (by decide) fun n H2 _ _ s2 => ⟨_, _, rfl, rfl, (by show 2 ≤ sizeLine; decide), fun l hl => rd_inI [1 + n, 1001] rfl s2.2 hl rfl (by decide) (by decide) fun m H3 _ s3 => ?_⟩
    exact ⟨(by show 2 ≤ sizeLine; decide), fun t1 h1 => ⟨_, rfl, (by show 4 ≤ sizeLine; decide), fun t2 h2 => (fin _ m (s2.trans s3) (by decide +kernel) h1 h2).2⟩⟩
  refine ⟨_, rfl, rfl, _, rfl, ite2 (fun c => ?_) (fun c => ?_)⟩
  · exact ⟨(by show 2 ≤ sizeLine; decide), fun t1 h1 => ⟨_, rfl, (by show 4 ≤ sizeLine; decide), fun t2 h2 => (fin _ 0 (Stp.refl s1.2) (by decide +kernel) h1 h2).2⟩⟩
  refine ⟨_, rfl, rfl, _, rfl, ite2 (fun c => ?_) (fun c => ?_)⟩
  · refine ⟨_, rfl, rd_take rfl s1.2 (by decide) (by decide) fun n H2 _ _ s2 => ⟨_, _, rfl, rfl, ?_⟩⟩
    exact ⟨(by show 2 ≤ sizeLine; decide), fun t1 h1 => ⟨(by show 4 ≤ sizeLine; decide), fun t2 h2 => (fin _ (1 + n) s2 (by decide +kernel) h1 h2).1⟩⟩
  refine ⟨_, rfl, rfl, _, rfl, ite2 (fun c => ?_) (fun c => ?_)⟩
  · refine rd_take rfl s1.2 (by decide) (by decide) fun n H2 _ _ s2 => ⟨(by show 3 ≤ sizeLine; decide), fun l hl => rd_inI [n, 1001, 1000] rfl s2.2 hl rfl (by decide) (by decide) fun m H3 _ s3 => ?_⟩
    exact ⟨(by show 2 ≤ sizeLine; decide), fun t1 h1 => ⟨_, rfl, (by show 4 ≤ sizeLine; decide), fun t2 h2 => (fin _ m (s2.trans s3) (by decide +kernel) h1 h2).2⟩⟩
  refine ⟨_, rfl, rfl, _, rfl, ite2 (fun c => ?_) (fun c => ?_)⟩
  · exact ⟨_, rfl, _, rfl, (by show 4 ≤ sizeLine; decide), fun t ht => (q.after s1).op s1.2 at1 at1 (by omega) (by decide +kernel) hok hok ht⟩
  refine ⟨_, rfl, rfl, _, rfl, ite2 (fun c => ?_) (fun c => ?_)⟩
  · refine ⟨_, rfl, (by show 2 ≤ sizeLine; decide), fun t1 h1 => ⟨(by show 4 ≤ sizeLine; decide), fun t2 h2 => ?_⟩⟩
    have s3 := s1.same (same_new h1 (.tup [.str "name", .str "me"]))
    exact (q.after s3).op s3.2 (hAt.tu (s3.tu hF)) (r := .nam "me") ⟨t1, rfl, SqT.of upd_same⟩ (by show max e.dep 1 + 1 ≤ e.dep + 1; omega) (by decide +kernel) hok (show okW "me" by decide +kernel) h2
  · exact ⟨_, rfl, q v H1 e s1 at1 (by omega) hok⟩
def spDrawn (K : PySem.W.Frag) : Sp := fun vs H Q _ => ∃ (a : Addr) (wd : Int), vs = [.ref a, .int wd] ∧ Fd H a ∧ XQ K a 14 H Q
def spSure (K : PySem.W.Frag) : Sp := fun vs H Q _ => ∃ (a : Addr), vs = [.ref a] ∧ Fd H a ∧ XQ K a 14 H Q
theorem ok_drawn {f : Addr} {fd : FuncData} {k : Nat} (F : Fun K "_law_drawn_line" "_law_drawn_line" s_law_drawn_line f fd) (mrange : mg "range" = none) (O_law_take : Ok P w K mg base k "_law_take" P_law_take spTake) (O_law_tall : Ok P w K mg base k "_law_tall" P_law_tall (spTall K))
    (O_law_tree : Ok P w K mg base k "_law_tree" P_law_tree (spTree K 6)) (O_law_line : Ok P w K mg base k "_law_line" P_law_line (spLL K .lst 16)) (O_law_pushed : Ok P w K mg base k "_law_pushed" P_law_pushed (spPushed K))
    (O_law_wrapped : Ok P w K mg base k "_law_wrapped" P_law_wrapped (spWrapped K)) : FnOk P w K mg base CX0 (k + 1) f fd P_law_drawn_line (spDrawn K) := by
  refine F.ok sc_law_drawn_line (fun vs H Q E h => ?_) (fun cdv A outer s H vs Q E hr h => ?_)
  · obtain ⟨a, wd, rfl, _⟩ := h
    rfl
  obtain ⟨a, wd, rfl, hF, q⟩ := h
  refine ⟨_, (pss_cons (ps_set (i := 2) sc_law_drawn_line.nd rfl (Or.inl rfl) (pe_cmpR op_eq (pe_c O_law_take hr (by rfl) (pa_cons (pv 0) (pa_cons pe_int pa_nil))) pe_int (nomark _)))
    (C8.pss_cut (ps_if (pt_cmpR op_eq (pe_c O_law_take hr (by rfl) (pa_cons (pv 0) (pa_cons pe_int pa_nil))) pe_int (nomark _))
      (pss_one (ps_set (i := 3) sc_law_drawn_line.nd rfl (Or.inl rfl) (pe_c O_law_tall hr (by rfl) (pa_cons (pv 0) (pa_cons (pv 2) pa_nil)))))
      (pss_one (ps_set (i := 3) sc_law_drawn_line.nd rfl (Or.inl rfl) (pe_c O_law_tree hr (by rfl) (pa_cons (pv 0) (pa_cons (pe_op op_add pe_int (pe_c O_law_take hr (by rfl) (pa_cons (pv 0) (pa_cons pe_int pa_nil)))) (pa_cons (pv 2) pa_nil)))))))
    (pss_cons (ps_set (i := 4) sc_law_drawn_line.nd rfl (Or.inl rfl) (pe_c O_law_line hr (by rfl) (pa_cons (pv 3) (pa_cons (pv 1) pa_nil))))
    (C8.pss_cut (ps_if (PW.pt (pw_and (pt_cmpR op_notN (pv 4) pe_non (nomark _)) (pw_and1 (pt_cmpR op_gt (pe_c O_law_take hr (by rfl) (pa_cons (pv 0) (pa_cons pe_int pa_nil))) pe_int (nomark _)))))
      (pss_cons (ps_set (i := 5) sc_law_drawn_line.nd rfl (Or.inl rfl) (pe_c O_law_take hr (by rfl) (pa_cons (pv 0) (pa_cons pe_int pa_nil))))
      (pss_one (ps_set (i := 3) sc_law_drawn_line.nd rfl (Or.inl rfl) (pe_c O_law_pushed hr (by rfl) (pa_cons (pv 3) (pa_cons (pv 4) (pa_cons (pv 5) (pa_cons (pe_ix ix_list (pe_lst (pa_cons pe_int (pa_cons pe_int (pa_cons pe_int (pa_cons (pe_un un_neg pe_int) (pa_cons (pe_un un_neg pe_int) (pa_cons (pe_un un_neg pe_int) pa_nil))))))) (pe_c O_law_take hr (by rfl) (pa_cons (pv 0) (pa_cons pe_int pa_nil))) (fun _ _ => rfl)) pa_nil))))))))
      pss_nil)
    (pss_cons (ps_for PassesOwn.never rfl (pi_range1 (by rfl) mrange (pa_cons (pe_c O_law_take hr (by rfl) (pa_cons (pv 0) (pa_cons pe_int pa_nil))) pa_nil)) (pg_name (i := 6) sc_law_drawn_line.nd rfl (Or.inl rfl))
      (pss_one (ps_set (i := 3) sc_law_drawn_line.nd rfl (Or.inl rfl) (pe_c O_law_wrapped hr (by rfl) (pa_cons (pv 0) (pa_cons (pv 3) pa_nil))))))
    (pss_one (ps_ret (pv 3)))))))), ?_⟩
  refine rd_take rfl hF (by decide) (by decide) fun r1 H1 _ _ s1 => ⟨rfl, ?_⟩
  refine ⟨fun σ2 H2 => ∃ (v : V) (e : Ex) (o : Bool) (y4 y5 y6 : Option V), σ2 = [some (.ref a), some (.int wd), some (.bl o), some v, y4, y5, y6] ∧ Stp a H H2 ∧ e.At K H2 v ∧ e.ok ∧ e.dep ≤ 8, ?_, fun σ2 H2 hm => ?_⟩
  · refine rd_take rfl s1.2 (by decide) (by decide) fun r2 H2 _ _ s2 => ⟨rfl, _, rfl, ite2 (fun c => ?_) (fun c => ?_)⟩
    · refine ⟨_, rfl, _, rfl, a, _, rfl, s2.2, fun v H3 e s3 t3 d3 o3 => ?_⟩
      exact ⟨v, e, _, _, _, _, rfl, s1.trans (s2.trans s3), t3, o3, by omega⟩
    · refine ⟨_, rfl, rd_take rfl s2.2 (by decide) (by decide) fun r4 H4 r40 r41 s4 => ⟨_, _, rfl, rfl, _, rfl, a, _, _, rfl, s4.2, by omega, by omega, fun v H3 e s3 t3 d3 o3 => ?_⟩⟩
      exact ⟨v, e, _, _, _, _, rfl, s1.trans (s2.trans (s4.trans s3)), t3, o3, by omega⟩
  obtain ⟨v, e, o, y4, y5, y6, rfl, s2, t2, o2, d2⟩ := hm
  refine ⟨_, rfl, _, rfl, v, e, wd, rfl, t2, o2, by omega, by decide, fun rp H3 s3 lr => ?_⟩
  have s23 := s2.same s3
  have t3 := t2.tu (Same.tu s3)
  refine ⟨fun σ4 H4 => ∃ (v : V) (e : Ex) (y4 y5 y6 : Option V), σ4 = [some (.ref a), some (.int wd), some (.bl o), some v, y4, y5, y6] ∧ Stp a H H4 ∧ e.At K H4 v ∧ e.ok ∧ e.dep ≤ 11, ?_, fun σ4 H4 hm => ?_⟩
  · cases e1 : lineE wd e with
    | none =>
      rw [e1] at lr
      have : rp = .non := lr
      subst this
      exact ⟨_, rfl, rfl, _, rfl, itYn ⟨v, e, _, _, _, rfl, s23, t3, o2, by omega⟩⟩
    | some p =>
      rw [e1] at lr
      obtain ⟨ap, rfl, hap⟩ := lr
      have na : ap ≠ a := by
        obtain ⟨x, y, z, ea⟩ := s23.2
        refine ne_of hap ea ?_
        intro z
        cases z
      refine ⟨_, rfl, rfl, _, rfl, itNn (by intro z; cases z) ?_⟩
      refine rd_take rfl s23.2 (by decide) (by decide) fun r4 H4 _ _ s4 => ⟨_, _, rfl, rfl, _, rfl, ite2 (fun c => ?_) (fun c => ?_)⟩
      · refine rd_take rfl s4.2 (by decide) (by decide) fun sd H5 sd0 sd1 s5 => ?_
        refine ⟨_, rfl, _, rfl, _, rfl, _, rfl, _, rfl, _, rfl, (by show 6 ≤ sizeLine; decide), fun l hl => rd_inI [1000, 1001, 999, -1000, -1001, -999] rfl s5.2 hl rfl (by decide) (by decide) fun goal H6 _ s6 => ?_⟩
        have g := s4.trans (s5.trans s6)
        refine ⟨v, e, ap, p.1, p.2, sd, goal, rfl, t3.tu (g.tu s23.2), o2, g.1 _ _ na hap, sd0, sd1, fun v' e' H' s' t' o' d' => ?_⟩
        exact ⟨v', e', _, _, _, rfl, (s23.trans g).same s', t', o', by omega⟩
      · exact ⟨v, e, _, _, _, rfl, s23.trans s4, t3.tu (s4.tu s23.2), o2, by omega⟩
  obtain ⟨v, e, y4, y5, y6, rfl, s4, t4, o4, d4⟩ := hm
  refine rd_take rfl s4.2 (by decide) (by decide) fun n H5 n0 n1 s5 => ?_
  refine ⟨n, rfl, by omega, by omega, for_range (n := n.toNat) (fun i σ H' => ∃ (v : V) (e : Ex) (y4 y5 y6 : Option V), σ = [some (.ref a), some (.int wd), some (.bl o), some v, y4, y5, y6] ∧ Stp a H H' ∧ e.At K H' v ∧ e.ok ∧ e.dep ≤ 11 + i)
    ⟨v, e, _, _, _, rfl, s4.trans s5, t4.tu (s5.tu s4.2), o4, by omega⟩ (fun i σ H' hi hv => ?_) (fun σ H' hv => ?_)⟩
  · obtain ⟨v, e, y4, y5, y6, rfl, g, t, o', d⟩ := hv
    refine ⟨_, rfl, _, rfl, a, v, e, rfl, g.2, t, o', fun v' H6 e' s6 t6 d6 o6 => ?_⟩
    exact ⟨v', e', _, _, _, rfl, g.trans s6, t6, o6, by omega⟩
  · obtain ⟨v, e, y4, y5, y6, rfl, g, t, o', d⟩ := hv
    exact ⟨_, rfl, q v H' e g t (by omega) o'⟩
theorem ok_sure {f : Addr} {fd : FuncData} {k : Nat} (F : Fun K "_law_sure_line" "_law_sure_line" s_law_sure_line f fd) (O_law_take : Ok P w K mg base k "_law_take" P_law_take spTake) : FnOk P w K mg base CX0 (k + 1) f fd P_law_sure_line (spSure K) := by
  refine F.ok sc_law_sure_line (fun vs H Q E h => ?_) (fun cdv A outer s H vs Q E hr h => ?_)
  · obtain ⟨a, rfl, _⟩ := h
    rfl
  obtain ⟨a, rfl, hF, q⟩ := h
  refine ⟨_, (pss_cons (ps_set (i := 1) sc_law_sure_line.nd rfl (Or.inl rfl) (pe_tup (pa_cons pe_str (pa_cons (pe_op op_add pe_int (pe_c O_law_take hr (by rfl) (pa_cons (pv 0) (pa_cons pe_int pa_nil)))) pa_nil))))
    (pss_cons (ps_set (i := 2) sc_law_sure_line.nd rfl (Or.inl rfl) (pe_ix ix_list (pe_lst (pa_cons (pe_tup (pa_cons pe_str (pa_cons pe_str (pa_cons (pv 1) (pa_cons (pe_tup (pa_cons pe_str (pa_cons pe_str pa_nil))) pa_nil))))) (pa_cons (pe_tup (pa_cons pe_str (pa_cons pe_str (pa_cons (pe_tup (pa_cons pe_str (pa_cons pe_str pa_nil))) (pa_cons (pv 1) pa_nil))))) pa_nil))) (pe_c O_law_take hr (by rfl) (pa_cons (pv 0) (pa_cons pe_int pa_nil))) (fun _ _ => rfl)))
    (pss_one (ps_ret (pe_tup (pa_cons pe_str (pa_cons (pe_ix ix_list (pe_lst (pa_cons pe_str (pa_cons pe_str pa_nil))) (pe_c O_law_take hr (by rfl) (pa_cons (pv 0) (pa_cons pe_int pa_nil))) (fun _ _ => rfl)) (pa_cons (pv 2) (pa_cons (pe_tup (pa_cons pe_str (pa_cons (pe_c O_law_take hr (by rfl) (pa_cons (pv 0) (pa_cons pe_int pa_nil))) pa_nil))) pa_nil))))))))), ?_⟩
  refine rd_take rfl hF (by decide) (by decide) fun n H1 _ _ s1 => ⟨_, _, rfl, rfl, (by show 2 ≤ sizeLine; decide), fun t1 h1 => ?_⟩
  have g1 := same_new h1 (.tup [.str "number", .int (1 + n)])
  refine ⟨_, rfl, (by show 2 ≤ sizeLine; decide), fun t2 h2 => ⟨(by show 4 ≤ sizeLine; decide), fun t3 h3 => ⟨(by show 2 ≤ sizeLine; decide), fun t4 h4 => ⟨_, rfl, (by show 4 ≤ sizeLine; decide), fun t5 h5 => ?_⟩⟩⟩⟩
  have g2 := same_new h2 (.tup [.str "name", .str "me"])
  have g3 := same_new h3 (.tup [.str "op", .str "*", .ref t1, .ref t2])
  have g4 := same_new h4 (.tup [.str "name", .str "me"])
  have g5 := same_new h5 (.tup [.str "op", .str "*", .ref t4, .ref t1])
  have ga := g1.trans (g2.trans (g3.trans (g4.trans g5)))
  have fa := s1.2.same ga
  have kme : okW "me" := by decide +kernel
  have kmul : okW "*" := by decide +kernel
  refine ⟨(by show 2 ≤ sizeLine; decide), fun l hl => rd_in [.ref t3, .ref t5] rfl fa hl rfl (by decide) (by decide) fun v H2 vm s2 => ?_⟩
  have at3 : (Ex.op "*" (.num (1 + n)) (.nam "me")).At K H2 (.ref t3) := Ex.At.tu (s2.tu fa) (Ex.At.tu (Same.tu (g4.trans g5)) ⟨t3, .ref t1, .ref t2, rfl, SqT.of upd_same, ⟨t1, rfl, Same.tup (g2.trans g3) (SqT.of upd_same)⟩, ⟨t2, rfl, Same.tup g3 (SqT.of upd_same)⟩⟩)
  have at5 : (Ex.op "*" (.nam "me") (.num (1 + n))).At K H2 (.ref t5) := Ex.At.tu (s2.tu fa) ⟨t5, .ref t4, .ref t1, rfl, SqT.of upd_same, ⟨t4, rfl, Same.tup g5 (SqT.of upd_same)⟩, ⟨t1, rfl, Same.tup (g2.trans (g3.trans (g4.trans g5))) (SqT.of upd_same)⟩⟩
  obtain ⟨es, ats, oks, dps⟩ : ∃ es : Ex, es.At K H2 v ∧ es.ok ∧ es.dep ≤ 2 := by
    simp only [List.mem_cons, List.not_mem_nil, or_false] at vm
    rcases vm with rfl | rfl
    · exact ⟨_, at3, ⟨kmul, trivial, kme⟩, by show max 1 1 + 1 ≤ 2; decide⟩
    · exact ⟨_, at5, ⟨kmul, kme, trivial⟩, by show max 1 1 + 1 ≤ 2; decide⟩
  have sa := s1.trans ((Stp.of s1.2 ga).trans s2)
  refine ⟨(by show 2 ≤ sizeLine; decide), fun l2 hl2 => rd_inS ["+", "-"] rfl s2.2 hl2 rfl (by decide) (by decide) (by decide +kernel) fun z H3 zm zk s3 => ?_⟩
  refine ⟨_, rfl, rd_take rfl s3.2 (by decide) (by decide) fun m H4 _ _ s4 => ⟨(by show 2 ≤ sizeLine; decide), fun t6 h6 => ⟨(by show 4 ≤ sizeLine; decide), fun t7 h7 => ?_⟩⟩⟩
  have g6 := same_new h6 (.tup [.str "number", .int m])
  have s34 := s3.trans (s4.same g6)
  exact (q.after (sa.trans s34)).op s34.2 (ats.tu (s34.tu s2.2)) (r := .num m) ⟨t6, rfl, SqT.of upd_same⟩ (by show max es.dep 1 + 1 ≤ 14; omega) zk oks trivial h7
end
end K17
namespace K17
open PySem L2 Vk
def spWhole : Sp := fun vs H Q _ => ∃ n : Int, vs = [.int n] ∧ Q (.bl true) H
def spRight (K : PySem.W.Frag) : Sp := fun vs H Q _ => ∃ (va v : V) (e : Ex) (wd : Int), vs = [va, v, .int wd] ∧ LRes .tup H (lineE wd e) va ∧ e.At K H v ∧ e.ok ∧ e.dep ≤ 16 ∧ 1 ≤ wd ∧ wd ≤ 32 ∧ ∀ H', Same H H' → Q (.bl true) H'
def spLaw (K : PySem.W.Frag) : Sp := fun vs H Q _ => ∃ (a : Addr) (ns : List Int), vs = [.ref a] ∧ SqL K H a (ns.map V.int) ∧ ns.length ≤ 63 ∧ ∀ H', Q (.bl true) H'
theorem merge_nameD {lane wd : Int} : mergeK [] (nameD lane wd) = nameD lane wd := by
  have h : ¬ (("me" : Str) = "lanes") := by decide +kernel
  simp [mergeK, nameD, putK, h]
theorem eqv2 {a b : Int} : PyData.eqv (.list [.int a, .int b]) (.list [.int a, .int b]) = true := by simp [PyData.eqv, PyData.eqvAll]
theorem shap2 {a b : Int} : SeqAt.shaped (.list [.int a, .int b]) = true := by simp [SeqAt.shaped, PyData.canLay0, PyData.canLayAll0, PyData.depth, PyData.depthAll]
section
variable {P : Program} {w : World} {K : PySem.W.Frag} {mg : Str → Option Value} {base : Heap}
theorem ok_whole {f : Addr} {fd : FuncData} {k : Nat} (F : Fun K "_law_whole" "_law_whole" s_law_whole f fd) (misinstance : mg "isinstance" = none) (mint : mg "int" = none) (mbool : mg "bool" = none) : FnOk P w K mg base CX0 (k + 1) f fd P_law_whole spWhole := by
  refine F.ok sc_law_whole (fun vs H Q E h => ?_) (fun cdv A outer s H vs Q E hr h => ?_)
  · obtain ⟨n, rfl, _⟩ := h
    rfl
  obtain ⟨n, rfl, q⟩ := h
  refine ⟨_, (pss_one (ps_ret (pe_and (pe_callB call_isi (by rfl) misinstance (by decide +kernel) (pa_cons (pv 0) (pa_cons (pe_bltn (v := .ty "int") (by rfl) mint (by decide +kernel) rfl) pa_nil))) (pe_one (pe_not (pe_callB call_isi (by rfl) misinstance (by decide +kernel) (pa_cons (pv 0) (pa_cons (pe_bltn (v := .ty "bool") (by rfl) mbool (by decide +kernel) rfl) pa_nil)))))))), ?_⟩
  refine ⟨_, rfl, _, _, _, _, _, rfl, .ty _, .base (.int n), kit_ty (r := true) (by decide +kernel), _, rfl, ?_⟩
  refine iteT ⟨_, rfl, _, _, _, _, _, rfl, .ty _, .base (.int n), kit_ty (r := false) (by decide +kernel), _, rfl, q⟩
theorem ok_right {f : Addr} {fd : FuncData} {k : Nat} (F : Fun K "_law_line_right" "_law_line_right" s_law_line_right f fd) (misinstance : mg "isinstance" = none) (mtuple : mg "tuple" = none) (mlen : mg "len" = none) (mlist : mg "list" = none) (mrange : mg "range" = none)
    (O_law_line : Ok P w K mg base k "_law_line" P_law_line (spLL K .lst 16)) (O_law_whole : Ok P w K mg base k "_law_whole" P_law_whole spWhole) (Ovalue_of : Ok P w K mg base k "value_of" P_value_of (spVal K 16)) : FnOk P w K mg base CX0 (k + 1) f fd P_law_line_right (spRight K) := by
  refine F.ok sc_law_line_right (fun vs H Q E h => ?_) (fun cdv A outer s H vs Q E hr h => ?_)
  · obtain ⟨va, v, e, wd, rfl, _⟩ := h
    rfl
  obtain ⟨va, v, e, wd, rfl, lr, hAt, hok, hdep, w0, w1, q⟩ := h
  refine ⟨_, (pss_cons (ps_set (i := 3) sc_law_line_right.nd rfl (Or.inl rfl) (pe_c O_law_line hr (by rfl) (pa_cons (pv 1) (pa_cons (pv 2) pa_nil))))
    (pss_cons (ps_if (pt_cmpR op_isN (pv 3) pe_non (nomark _))
      (pss_one (ps_ret (pe_cmpR op_isN (pv 0) pe_non (nomark _))))
      pss_nil)
    (pss_cons (ps_if (PW.pt (pw_or (pt_not (pt_val (pe_callB call_isi (by rfl) misinstance (by decide +kernel) (pa_cons (pv 0) (pa_cons (pe_bltn (v := .ty "tuple") (by rfl) mtuple (by decide +kernel) rfl) pa_nil))))) (pw_or1 (pt_cmpR op_ne (pe_callB call_len_seq (by rfl) mlen (by decide +kernel) (pa_cons (pv 0) pa_nil)) pe_int (nomark _)))))
      (pss_one (ps_ret pe_bl))
      pss_nil)
    (pss_cons (ps_if (PW.pt (pw_or (pt_not (pt_val (pe_c O_law_whole hr (by rfl) (pa_cons (pe_ix ix_tup (pv 0) pe_int (fun _ _ => rfl)) pa_nil)))) (pw_or (pt_not (pt_val (pe_c O_law_whole hr (by rfl) (pa_cons (pe_ix ix_tup (pv 0) pe_int (fun _ _ => rfl)) pa_nil)))) (pw_or1 (pt_cmpR (op_neD hr.units) (pe_callTy call_list_of (by rfl) mlist (by decide +kernel) (pa_cons (pv 0) pa_nil)) (pv 3) (nomark _))))))
      (pss_one (ps_ret pe_bl))
      pss_nil)
    (pss_cons (ps_for PassesOwn.never rfl (pi_range1 (by rfl) mrange (pa_cons (pv 2) pa_nil)) (pg_name (i := 4) sc_law_line_right.nd rfl (Or.inl rfl))
      (pss_cons (ps_set (i := 5) sc_law_line_right.nd rfl (Or.inl rfl) (pe_c Ovalue_of hr (by rfl) (pa_cons (pv 1) (pa_cons (pe_disp (pps_cons pe_str (pv 4) (pps_cons pe_str (pv 2) pps_nil)) (by rfl) (by rfl) (fun z => by cases z) (by decide)) (pa_cons pe_dnewK pa_nil)))))
      (pss_one (ps_if (PW.pt (pw_or (pt_not (pt_val (pe_c O_law_whole hr (by rfl) (pa_cons (pv 5) pa_nil)))) (pw_or1 (pt_cmpR op_ne (pv 5) (pe_op op_add (pe_op op_mul (pe_ix ix_list (pv 3) pe_int (fun _ _ => rfl)) (pv 4)) (pe_ix ix_list (pv 3) pe_int (fun _ _ => rfl))) (nomark _)))))
        (pss_one (ps_ret pe_bl))
        pss_nil))))
    (pss_one (ps_ret pe_bl))))))), ?_⟩
  refine ⟨_, rfl, _, rfl, v, e, wd, rfl, hAt, hok, hdep, by decide, fun rd H1 s1 t1 => ?_⟩
  have lr1 := lr.same s1
  cases hl : lineE wd e with
  | none =>
    rw [hl] at t1 lr1
    have e1 : rd = .non := t1
    have e2 : va = .non := lr1
    subst e1 e2
    exact ⟨_, rfl, rfl, _, rfl, itY ⟨_, rfl, rfl, by rw [decide_eq_true rfl]; exact q _ s1⟩⟩
  | some p =>
    rw [hl] at t1 lr1
    obtain ⟨ad, rfl, had⟩ := t1
    obtain ⟨av, rfl, hav⟩ := lr1
    refine ⟨_, rfl, rfl, _, rfl, itN (by intro z; cases z) ?_⟩
    refine ⟨_, rfl, _, _, _, _, _, rfl, .ty _, .base (.tup hav), kit_ty (r := true) (by decide +kernel), _, rfl, iteF ⟨_, rfl, _, _, rfl, .inr (SqT.of hav), rfl, _, rfl, itYn ?_⟩⟩
    refine ⟨_, rfl, _, _, _, _, rfl, rfl, (SqT.of hav), atI_nat (j := 0) rfl, _, rfl, _, rfl, iteF ⟨_, rfl, _, _, _, _, rfl, rfl, (SqT.of hav), atI_nat (j := 1) rfl, _, rfl, _, rfl, iteF ⟨_, rfl, _, _, rfl, .inr (SqT.of hav), fun l hl2 => ⟨_, rfl, _, _, .lst (SqL.of upd_same) (.cons (.int _) (.cons (.int _) .nil)), .lst (SqL.of (same_new hl2 _ _ _ had)) (.cons (.int _) (.cons (.int _) .nil)), shap2, shap2, _, rfl, ?_⟩⟩⟩⟩
    rw [eqv2]
    refine iteF ?_
    have s2 := s1.trans (same_new hl2 (.lst [.int p.1, .int p.2]))
    have had2 := same_new hl2 (.lst [.int p.1, .int p.2]) _ _ had
    refine ⟨_, rfl, wd, rfl, by omega, by omega, for_range (n := wd.toNat) (fun i σ H' => ∃ (y4 y5 : Option V), σ = [some (.ref av), some v, some (.int wd), some (.ref ad), y4, y5] ∧ Same H H' ∧ H' ad = some (.lst [.int p.1, .int p.2])) ⟨_, _, rfl, s2, had2⟩ (fun i σ H' hi hv => ?_) (fun σ H' hv => ?_)⟩
    · obtain ⟨y4, y5, rfl, sm, ed⟩ := hv
      refine ⟨_, rfl, fun pd hd => ⟨_, rfl, _, rfl, upd_same, nameD (0 + i) wd, rfl, (by show 2 ≤ 15; decide), fun pd2 hd2 => ?_⟩⟩
      rw [merge_nameD, upd_upd] at hd2 ⊢
      have s3 := (same_new hd (.dK (nameD (0 + i) wd))).trans (same_new hd2 (.dK []))
      refine ⟨v, e, pd, .ref pd2, 0 + i, wd, p, rfl, hAt.tu (Same.tu (sm.trans s3)), hdep, same_new hd2 _ _ _ upd_same, by omega, by omega, hl, fun H4 s4 => ?_⟩
      have ed4 := (s3.trans s4) _ _ ed
      have b := line_small (q := p) (x := 0 + i) (by omega) (by omega) (lineE_some hl).2
      have b2 := (lineE_some hl).2
      refine ⟨_, rfl, _, rfl, _, rfl, iteF ⟨_, rfl, _, rfl, _, _, _, _, rfl, rfl, (SqL.of ed4), atI_nat (j := 0) rfl, _, rfl, _, _, rfl, rfl, .inl ⟨by omega, by omega⟩, _, rfl, _, _, _, _, rfl, rfl, (SqL.of ed4), atI_nat (j := 1) rfl, _, _, rfl, rfl, rfl, _, rfl, itYn ?_⟩⟩
      exact ⟨_, _, rfl, sm.trans (s3.trans s4), ed4⟩
    · obtain ⟨y4, y5, rfl, sm, ed⟩ := hv
      exact q _ sm
theorem ok_law {f fl : Addr} {fd fld : FuncData} {k : Nat} (F : Fun K "law" "law" s_law f fd) (O_law_cell : Ok P w K mg base k "_law_cell" P_law_cell (spCell K)) (O_law_feed : Ok P w K mg base k "_law_feed" P_law_feed spFeed) (O_law_take : Ok P w K mg base k "_law_take" P_law_take spTake)
    (O_law_drawn_line : Ok P w K mg base k "_law_drawn_line" P_law_drawn_line (spDrawn K)) (O_law_sure_line : Ok P w K mg base k "_law_sure_line" P_law_sure_line (spSure K)) (O_law_line_right : Ok P w K mg base k "_law_line_right" P_law_line_right (spRight K))
    (Oline_of : Ok P w K mg base k "line_of" P_line_of (spLL K .tup 16)) (FK : FnOk P w K mg base CX0 k fl fld P_line_of (spLL K .tup 16)) (mline_of : mg "line_of" = some (.ref fl)) (kline_of : PySem.W.keepIn K (.ref fl) = true)
    (bK : KBinds K fld P_line_of ["lanes", "expression"] swapG swapG) : FnOk P w K mg base CX0 (k + 1) f fd P_law (spLaw K) := by
  refine F.ok sc_law (fun vs H Q E h => ?_) (fun cdv A outer s H vs Q E hr h => ?_)
  · obtain ⟨a, ns, rfl, _⟩ := h
    rfl
  obtain ⟨a, ns, rfl, hS, _, q⟩ := h
  refine ⟨_, (pss_cons (ps_set (i := 1) sc_law.nd rfl (Or.inl rfl) (pe_c O_law_feed hr (by rfl) (pa_cons (pe_c O_law_cell hr (by rfl) (pa_cons (pv 0) (pa_cons pe_int pa_nil))) pa_nil)))
    (pss_cons (ps_set (i := 2) sc_law.nd rfl (Or.inl rfl) (pe_op op_add pe_int (pe_c O_law_take hr (by rfl) (pa_cons (pv 1) (pa_cons pe_int pa_nil)))))
    (pss_cons (ps_set (i := 3) sc_law.nd rfl (Or.inl rfl) (pe_op op_add pe_int (pe_c O_law_take hr (by rfl) (pa_cons (pv 1) (pa_cons pe_int pa_nil)))))
    (pss_cons (ps_set (i := 4) sc_law.nd rfl (Or.inl rfl) (pe_c O_law_drawn_line hr (by rfl) (pa_cons (pe_c O_law_feed hr (by rfl) (pa_cons (pe_c O_law_cell hr (by rfl) (pa_cons (pv 0) (pa_cons pe_int pa_nil))) pa_nil)) (pa_cons (pv 2) pa_nil))))
    (pss_cons (ps_set (i := 5) sc_law.nd rfl (Or.inl rfl) (pe_c O_law_sure_line hr (by rfl) (pa_cons (pe_c O_law_feed hr (by rfl) (pa_cons (pe_c O_law_cell hr (by rfl) (pa_cons (pv 0) (pa_cons pe_int pa_nil))) pa_nil)) pa_nil)))
    (pss_cons (ps_if (pt_not (pt_val (pe_c O_law_line_right hr (by rfl) (pa_cons (pe_c Oline_of hr (by rfl) (pa_cons (pv 4) (pa_cons (pv 2) pa_nil))) (pa_cons (pv 4) (pa_cons (pv 2) pa_nil))))))
      (pss_one (ps_ret pe_bl))
      pss_nil)
    (pss_cons (ps_if (pt_not (pt_val (pe_c O_law_line_right hr (by rfl) (pa_cons (pe_c Oline_of hr (by rfl) (pa_cons (pv 5) (pa_cons (pv 2) pa_nil))) (pa_cons (pv 5) (pa_cons (pv 2) pa_nil))))))
      (pss_one (ps_ret pe_bl))
      pss_nil)
    (pss_cons (ps_if (pt_not (pt_val (pe_c O_law_line_right hr (by rfl) (pa_cons (pe_c Oline_of hr (by rfl) (pa_cons (pv 4) (pa_cons (pv 3) pa_nil))) (pa_cons (pv 4) (pa_cons (pv 3) pa_nil))))))
      (pss_one (ps_ret pe_bl))
      pss_nil)
    (pss_one (ps_ret (pe_c O_law_line_right hr (by rfl) (pa_cons (pe_kw0 FK hr (by rfl) mline_of kline_of bK (pk_cons (pv 2) (pk_cons (pv 4) pk_nil))) (pa_cons (pv 4) (pa_cons (pv 2) pa_nil)))))))))))))), ?_⟩
  refine ⟨_, rfl, a, ns, 1, rfl, hS, by decide, by decide, fun n1 => ⟨n1, rfl, fun p H1 s1 np f1 => ?_⟩⟩
  refine rd_take rfl f1 (by decide) (by decide) fun w0 H2 w00 w01 s2 => ⟨_, _, rfl, rfl, ?_⟩
  refine rd_take rfl s2.2 (by decide) (by decide) fun x0 H3 x00 x01 s3 => ⟨_, _, rfl, rfl, ?_⟩
  have keep : ∀ {Hx : Hp}, Stp p H1 Hx → Same H Hx := fun {Hx} s b o e => s.1 b o (ne_of_none e np) (s1 b o e)
  have g3 := keep (s2.trans s3)
  refine ⟨_, rfl, a, ns, 0, rfl, g3.seq hS, by decide, by decide, fun n0 => ⟨n0, rfl, fun p2 H4 s4 np2 f4 => ?_⟩⟩
  refine ⟨_, rfl, p2, 1 + w0, rfl, f4, fun v H5 e s5 t5 d5 o5 => ?_⟩
  have keep5 : Same H H5 := fun b o eb => s5.1 b o (ne_of_none (g3 b o eb) np2) (s4 b o (g3 b o eb))
  refine ⟨_, rfl, a, ns, 2, rfl, keep5.seq hS, by decide, by decide, fun n2 => ⟨n2, rfl, fun p3 H6 s6 np3 f6 => ?_⟩⟩
  refine ⟨p3, rfl, f6, fun vs' H7 es s7 t7 d7 o7 => ?_⟩
  have t7e : e.At K H7 v := (t5.tu (Same.tu s6)).tu (s7.tu f6)
  -- the four questions
  refine ⟨_, rfl, _, rfl, v, e, 1 + w0, rfl, t7e, o5, by omega, by decide, fun r1 H8 s8 l8 => ⟨_, rfl, _, rfl, r1, v, e, 1 + w0, rfl, l8, t7e.tu (Same.tu s8), o5, by omega, by omega, by omega, fun H9 s9 => ⟨_, rfl, iteF ?_⟩⟩⟩
  have c9 := s8.trans s9
  refine ⟨_, rfl, _, rfl, vs', es, 1 + w0, rfl, t7.tu (Same.tu c9), o7, by omega, by decide, fun r2 Ha sa la => ⟨_, rfl, _, rfl, r2, vs', es, 1 + w0, rfl, la, t7.tu (Same.tu (c9.trans sa)), o7, by omega, by omega, by omega, fun Hb sb => ⟨_, rfl, iteF ?_⟩⟩⟩
  have cb := c9.trans (sa.trans sb)
  refine ⟨_, rfl, _, rfl, v, e, 1 + x0, rfl, t7e.tu (Same.tu cb), o5, by omega, by decide, fun r3 Hc sc lc => ⟨_, rfl, _, rfl, r3, v, e, 1 + x0, rfl, lc, t7e.tu (Same.tu (cb.trans sc)), o5, by omega, by omega, by omega, fun Hd sd => ⟨_, rfl, iteF ?_⟩⟩⟩
  have cd := cb.trans (sc.trans sd)
  refine ⟨_, rfl, _, rfl, v, e, 1 + w0, rfl, t7e.tu (Same.tu cd), o5, by omega, by decide, fun r4 He se le => ⟨_, rfl, _, rfl, r4, v, e, 1 + w0, rfl, le, t7e.tu (Same.tu (cd.trans se)), o5, by omega, by omega, by omega, fun Hf sf => q Hf⟩⟩
end
end K17
namespace K17
open PySem L2 Vk
theorem none_ok {P : Program} {w : World} {K : PySem.W.Frag} {mg : Str → Option Value} {base : Heap} {k : Nat} {f : Addr} {fd : FuncData} {ps : List Str} {sp : Sp} (no : ∀ vs H Q E, ¬ sp vs H Q E) : FnOk P w K mg base CX0 k f fd ps sp :=
  ⟨fun vs H Q E h => absurd h (no vs H Q E), fun A outer s H args us vs Q E _ _ _ _ h => absurd h (no vs H Q E)⟩
theorem all_mk {l : PySem.W.OpenLaw} {w : World} {K : PySem.W.Frag} {h : Heap} {mg : Str → Option Value} {fa f0 f1 f2 f3 f4 f5 f6 f7 f8 f9 f10 f11 f12 f13 f14 f15 f16 f17 f18 f19 f20 f21 f22 : Addr} (X : K.In h) (G : h.Ns mainGlobals mg) (hfa : mg "law" = some (.ref fa))
    {od0 an0 od1 an1 od2 an2 od3 an3 od4 an4 od5 an5 od6 an6 od7 an7 od8 an8 od9 an9 od10 an10 od11 an11 od12 an12 od13 an13 od14 an14 od15 an15 od16 an16 od17 an17 od18 an18 od19 an19 od20 an20 od21 an21 od22 an22 : Option Addr} {sl0 sl1 sl2 sl3 sl4 sl5 sl6 sl7 sl8 sl9 sl10 sl11 sl12 sl13 sl14 sl15 sl16 sl17 sl18 sl19 sl20 sl21 sl22 : Array (Option Value)} {oc0 kV0 dc0 pm0 cd0 ct0 oc1 kV1 dc1 pm1 cd1 ct1 oc2 kV2 dc2 pm2 cd2 ct2 oc3 kV3 dc3 pm3 cd3 ct3 oc4 kV4 dc4 pm4 cd4 ct4 oc5 kV5 dc5 pm5 cd5 ct5 oc6 kV6 dc6 pm6 cd6 ct6 oc7 kV7 dc7 pm7 cd7 ct7 oc8 kV8 dc8 pm8 cd8 ct8 oc9 kV9 dc9 pm9 cd9 ct9 oc10 kV10 dc10 pm10 cd10 ct10 oc11 kV11 dc11 pm11 cd11 ct11 oc12 kV12 dc12 pm12 cd12 ct12 oc13 kV13 dc13 pm13 cd13 ct13 oc14 kV14 dc14 pm14 cd14 ct14 oc15 kV15 dc15 pm15 cd15 ct15 oc16 kV16 dc16 pm16 cd16 ct16 oc17 kV17 dc17 pm17 cd17 ct17 oc18 kV18 dc18 pm18 cd18 ct18 oc19 kV19 dc19 pm19 cd19 ct19 oc20 kV20 dc20 pm20 cd20 ct20 oc21 kV21 dc21 pm21 cd21 ct21 oc22 kV22 dc22 pm22 cd22 ct22 : Value}
    {tLIMIT tMOST_IN_LINE : Tok}
    (a0 : PySem.W.nsIn K mainGlobals "clip" = some (some (.ref f0))) (l0 : K.lookup f0 = some ⟨oc0, od0, .func (PySem.W.fnOf "clip" "clip" (defArgs s_clip) (defBody s_clip) (defScope s_clip) .none kV0 dc0 pm0 an0 cd0 ct0), sl0⟩) (c0 : PySem.W.codeIn K cd0 "clip" = true) (k0 : PySem.W.keepIn K (.ref f0) = true)
    (a1 : PySem.W.nsIn K mainGlobals "value_of" = some (some (.ref f1))) (l1 : K.lookup f1 = some ⟨oc1, od1, .func (PySem.W.fnOf "value_of" "value_of" (defArgs s_value_of) (defBody s_value_of) (defScope s_value_of) .none kV1 dc1 pm1 an1 cd1 ct1), sl1⟩) (c1 : PySem.W.codeIn K cd1 "value_of" = true) (k1 : PySem.W.keepIn K (.ref f1) = true)
    (a2 : PySem.W.nsIn K mainGlobals "operands_of" = some (some (.ref f2))) (l2 : K.lookup f2 = some ⟨oc2, od2, .func (PySem.W.fnOf "operands_of" "operands_of" (defArgs s_operands_of) (defBody s_operands_of) (defScope s_operands_of) .none kV2 dc2 pm2 an2 cd2 ct2), sl2⟩) (c2 : PySem.W.codeIn K cd2 "operands_of" = true) (k2 : PySem.W.keepIn K (.ref f2) = true)
    (a3 : PySem.W.nsIn K mainGlobals "_joined_value" = some (some (.ref f3))) (l3 : K.lookup f3 = some ⟨oc3, od3, .func (PySem.W.fnOf "_joined_value" "_joined_value" (defArgs s_joined_value) (defBody s_joined_value) (defScope s_joined_value) .none kV3 dc3 pm3 an3 cd3 ct3), sl3⟩) (c3 : PySem.W.codeIn K cd3 "_joined_value" = true) (k3 : PySem.W.keepIn K (.ref f3) = true)
    (a4 : PySem.W.nsIn K mainGlobals "line_of" = some (some (.ref f4))) (l4 : K.lookup f4 = some ⟨oc4, od4, .func (PySem.W.fnOf "line_of" "line_of" (defArgs s_line_of) (defBody s_line_of) (defScope s_line_of) .none kV4 dc4 pm4 an4 cd4 ct4), sl4⟩) (c4 : PySem.W.codeIn K cd4 "line_of" = true) (k4 : PySem.W.keepIn K (.ref f4) = true)
    (a5 : PySem.W.nsIn K mainGlobals "_joined_line" = some (some (.ref f5))) (l5 : K.lookup f5 = some ⟨oc5, od5, .func (PySem.W.fnOf "_joined_line" "_joined_line" (defArgs s_joined_line) (defBody s_joined_line) (defScope s_joined_line) .none kV5 dc5 pm5 an5 cd5 ct5), sl5⟩) (c5 : PySem.W.codeIn K cd5 "_joined_line" = true) (k5 : PySem.W.keepIn K (.ref f5) = true)
    (a6 : PySem.W.nsIn K mainGlobals "_law_whole" = some (some (.ref f6))) (l6 : K.lookup f6 = some ⟨oc6, od6, .func (PySem.W.fnOf "_law_whole" "_law_whole" (defArgs s_law_whole) (defBody s_law_whole) (defScope s_law_whole) .none kV6 dc6 pm6 an6 cd6 ct6), sl6⟩) (c6 : PySem.W.codeIn K cd6 "_law_whole" = true) (k6 : PySem.W.keepIn K (.ref f6) = true)
    (a7 : PySem.W.nsIn K mainGlobals "_law_cell" = some (some (.ref f7))) (l7 : K.lookup f7 = some ⟨oc7, od7, .func (PySem.W.fnOf "_law_cell" "_law_cell" (defArgs s_law_cell) (defBody s_law_cell) (defScope s_law_cell) .none kV7 dc7 pm7 an7 cd7 ct7), sl7⟩) (c7 : PySem.W.codeIn K cd7 "_law_cell" = true) (k7 : PySem.W.keepIn K (.ref f7) = true)
    (a8 : PySem.W.nsIn K mainGlobals "_law_feed" = some (some (.ref f8))) (l8 : K.lookup f8 = some ⟨oc8, od8, .func (PySem.W.fnOf "_law_feed" "_law_feed" (defArgs s_law_feed) (defBody s_law_feed) (defScope s_law_feed) .none kV8 dc8 pm8 an8 cd8 ct8), sl8⟩) (c8 : PySem.W.codeIn K cd8 "_law_feed" = true) (k8 : PySem.W.keepIn K (.ref f8) = true)
    (a9 : PySem.W.nsIn K mainGlobals "_law_take" = some (some (.ref f9))) (l9 : K.lookup f9 = some ⟨oc9, od9, .func (PySem.W.fnOf "_law_take" "_law_take" (defArgs s_law_take) (defBody s_law_take) (defScope s_law_take) .none kV9 dc9 pm9 an9 cd9 ct9), sl9⟩) (c9 : PySem.W.codeIn K cd9 "_law_take" = true) (k9 : PySem.W.keepIn K (.ref f9) = true)
    (a10 : PySem.W.nsIn K mainGlobals "_law_leaf" = some (some (.ref f10))) (l10 : K.lookup f10 = some ⟨oc10, od10, .func (PySem.W.fnOf "_law_leaf" "_law_leaf" (defArgs s_law_leaf) (defBody s_law_leaf) (defScope s_law_leaf) .none kV10 dc10 pm10 an10 cd10 ct10), sl10⟩) (c10 : PySem.W.codeIn K cd10 "_law_leaf" = true) (k10 : PySem.W.keepIn K (.ref f10) = true)
    (a11 : PySem.W.nsIn K mainGlobals "_law_level_side" = some (some (.ref f11))) (l11 : K.lookup f11 = some ⟨oc11, od11, .func (PySem.W.fnOf "_law_level_side" "_law_level_side" (defArgs s_law_level_side) (defBody s_law_level_side) (defScope s_law_level_side) .none kV11 dc11 pm11 an11 cd11 ct11), sl11⟩) (c11 : PySem.W.codeIn K cd11 "_law_level_side" = true) (k11 : PySem.W.keepIn K (.ref f11) = true)
    (a12 : PySem.W.nsIn K mainGlobals "_law_odd_one" = some (some (.ref f12))) (l12 : K.lookup f12 = some ⟨oc12, od12, .func (PySem.W.fnOf "_law_odd_one" "_law_odd_one" (defArgs s_law_odd_one) (defBody s_law_odd_one) (defScope s_law_odd_one) .none kV12 dc12 pm12 an12 cd12 ct12), sl12⟩) (c12 : PySem.W.codeIn K cd12 "_law_odd_one" = true) (k12 : PySem.W.keepIn K (.ref f12) = true)
    (a13 : PySem.W.nsIn K mainGlobals "_law_joined" = some (some (.ref f13))) (l13 : K.lookup f13 = some ⟨oc13, od13, .func (PySem.W.fnOf "_law_joined" "_law_joined" (defArgs s_law_joined) (defBody s_law_joined) (defScope s_law_joined) .none kV13 dc13 pm13 an13 cd13 ct13), sl13⟩) (c13 : PySem.W.codeIn K cd13 "_law_joined" = true) (k13 : PySem.W.keepIn K (.ref f13) = true)
    (a14 : PySem.W.nsIn K mainGlobals "_law_tree" = some (some (.ref f14))) (l14 : K.lookup f14 = some ⟨oc14, od14, .func (PySem.W.fnOf "_law_tree" "_law_tree" (defArgs s_law_tree) (defBody s_law_tree) (defScope s_law_tree) .none kV14 dc14 pm14 an14 cd14 ct14), sl14⟩) (c14 : PySem.W.codeIn K cd14 "_law_tree" = true) (k14 : PySem.W.keepIn K (.ref f14) = true)
    (a15 : PySem.W.nsIn K mainGlobals "_law_tall" = some (some (.ref f15))) (l15 : K.lookup f15 = some ⟨oc15, od15, .func (PySem.W.fnOf "_law_tall" "_law_tall" (defArgs s_law_tall) (defBody s_law_tall) (defScope s_law_tall) .none kV15 dc15 pm15 an15 cd15 ct15), sl15⟩) (c15 : PySem.W.codeIn K cd15 "_law_tall" = true) (k15 : PySem.W.keepIn K (.ref f15) = true)
    (a16 : PySem.W.nsIn K mainGlobals "_law_line" = some (some (.ref f16))) (l16 : K.lookup f16 = some ⟨oc16, od16, .func (PySem.W.fnOf "_law_line" "_law_line" (defArgs s_law_line) (defBody s_law_line) (defScope s_law_line) .none kV16 dc16 pm16 an16 cd16 ct16), sl16⟩) (c16 : PySem.W.codeIn K cd16 "_law_line" = true) (k16 : PySem.W.keepIn K (.ref f16) = true)
    (a17 : PySem.W.nsIn K mainGlobals "_law_pushed" = some (some (.ref f17))) (l17 : K.lookup f17 = some ⟨oc17, od17, .func (PySem.W.fnOf "_law_pushed" "_law_pushed" (defArgs s_law_pushed) (defBody s_law_pushed) (defScope s_law_pushed) .none kV17 dc17 pm17 an17 cd17 ct17), sl17⟩) (c17 : PySem.W.codeIn K cd17 "_law_pushed" = true) (k17 : PySem.W.keepIn K (.ref f17) = true)
    (a18 : PySem.W.nsIn K mainGlobals "_law_wrapped" = some (some (.ref f18))) (l18 : K.lookup f18 = some ⟨oc18, od18, .func (PySem.W.fnOf "_law_wrapped" "_law_wrapped" (defArgs s_law_wrapped) (defBody s_law_wrapped) (defScope s_law_wrapped) .none kV18 dc18 pm18 an18 cd18 ct18), sl18⟩) (c18 : PySem.W.codeIn K cd18 "_law_wrapped" = true) (k18 : PySem.W.keepIn K (.ref f18) = true)
    (a19 : PySem.W.nsIn K mainGlobals "_law_drawn_line" = some (some (.ref f19))) (l19 : K.lookup f19 = some ⟨oc19, od19, .func (PySem.W.fnOf "_law_drawn_line" "_law_drawn_line" (defArgs s_law_drawn_line) (defBody s_law_drawn_line) (defScope s_law_drawn_line) .none kV19 dc19 pm19 an19 cd19 ct19), sl19⟩) (c19 : PySem.W.codeIn K cd19 "_law_drawn_line" = true) (k19 : PySem.W.keepIn K (.ref f19) = true)
    (a20 : PySem.W.nsIn K mainGlobals "_law_sure_line" = some (some (.ref f20))) (l20 : K.lookup f20 = some ⟨oc20, od20, .func (PySem.W.fnOf "_law_sure_line" "_law_sure_line" (defArgs s_law_sure_line) (defBody s_law_sure_line) (defScope s_law_sure_line) .none kV20 dc20 pm20 an20 cd20 ct20), sl20⟩) (c20 : PySem.W.codeIn K cd20 "_law_sure_line" = true) (k20 : PySem.W.keepIn K (.ref f20) = true)
    (a21 : PySem.W.nsIn K mainGlobals "_law_line_right" = some (some (.ref f21))) (l21 : K.lookup f21 = some ⟨oc21, od21, .func (PySem.W.fnOf "_law_line_right" "_law_line_right" (defArgs s_law_line_right) (defBody s_law_line_right) (defScope s_law_line_right) .none kV21 dc21 pm21 an21 cd21 ct21), sl21⟩) (c21 : PySem.W.codeIn K cd21 "_law_line_right" = true) (k21 : PySem.W.keepIn K (.ref f21) = true)
    (a22 : PySem.W.nsIn K mainGlobals "law" = some (some (.ref f22))) (l22 : K.lookup f22 = some ⟨oc22, od22, .func (PySem.W.fnOf "law" "law" (defArgs s_law) (defBody s_law) (defScope s_law) .none kV22 dc22 pm22 an22 cd22 ct22), sl22⟩) (c22 : PySem.W.codeIn K cd22 "law" = true) (k22 : PySem.W.keepIn K (.ref f22) = true)
    (qLIMIT : PySem.W.nsIn K mainGlobals "LIMIT" = some (some (.int (10 ^ 12) tLIMIT)))
    (qMOST_IN_LINE : PySem.W.nsIn K mainGlobals "MOST_IN_LINE" = some (some (.int 1000 tMOST_IN_LINE)))
    (zlen : PySem.W.nsIn K mainGlobals "len" = some none) (zint : PySem.W.nsIn K mainGlobals "int" = some none) (zmin : PySem.W.nsIn K mainGlobals "min" = some none) (zmax : PySem.W.nsIn K mainGlobals "max" = some none) (zabs : PySem.W.nsIn K mainGlobals "abs" = some none) (zrange : PySem.W.nsIn K mainGlobals "range" = some none) (zisinstance : PySem.W.nsIn K mainGlobals "isinstance" = some none) (zbool : PySem.W.nsIn K mainGlobals "bool" = some none) (ztuple : PySem.W.nsIn K mainGlobals "tuple" = some none) (zlist : PySem.W.nsIn K mainGlobals "list" = some none) :
    ∃ fd : FuncData, (∀ (s : Shared) (v : Value), BindsTo s fd ⟨[v], []⟩ [("script", v)]) ∧ ∀ base : Heap, K.In base → base.Ns mainGlobals mg → FnOk l.prog w K mg base CX0 20 fa fd ["script"] (spLaw K) := by
  have e := hfa.symm.trans (PySem.W.mg_of X G a22)
  cases e
  have F_clip := fun_mk (st := s_clip) l0 c0 k0
  have b_clip := F_clip.binds (ps := P_clip) fun _ _ _ _ _ _ us hl => match us, hl with | [_], _ => rfl
  have m_clip := PySem.W.mg_of X G a0
  have F_value_of := fun_mk (st := s_value_of) l1 c1 k1
  have b_value_of := F_value_of.binds (ps := P_value_of) fun _ _ _ _ _ _ us hl => match us, hl with | [_, _, _], _ => rfl
  have m_value_of := PySem.W.mg_of X G a1
  have F_operands_of := fun_mk (st := s_operands_of) l2 c2 k2
  have b_operands_of := F_operands_of.binds (ps := P_operands_of) fun _ _ _ _ _ _ us hl => match us, hl with | [_], _ => rfl
  have m_operands_of := PySem.W.mg_of X G a2
  have F_joined_value := fun_mk (st := s_joined_value) l3 c3 k3
  have b_joined_value := F_joined_value.binds (ps := P_joined_value) fun _ _ _ _ _ _ us hl => match us, hl with | [_, _, _], _ => rfl
  have m_joined_value := PySem.W.mg_of X G a3
  have F_line_of := fun_mk (st := s_line_of) l4 c4 k4
  have b_line_of := F_line_of.binds (ps := P_line_of) fun _ _ _ _ _ _ us hl => match us, hl with | [_, _], _ => rfl
  have m_line_of := PySem.W.mg_of X G a4
  have F_joined_line := fun_mk (st := s_joined_line) l5 c5 k5
  have b_joined_line := F_joined_line.binds (ps := P_joined_line) fun _ _ _ _ _ _ us hl => match us, hl with | [_, _, _], _ => rfl
  have m_joined_line := PySem.W.mg_of X G a5
  have F_law_whole := fun_mk (st := s_law_whole) l6 c6 k6
  have b_law_whole := F_law_whole.binds (ps := P_law_whole) fun _ _ _ _ _ _ us hl => match us, hl with | [_], _ => rfl
  have m_law_whole := PySem.W.mg_of X G a6
  have F_law_cell := fun_mk (st := s_law_cell) l7 c7 k7
  have b_law_cell := F_law_cell.binds (ps := P_law_cell) fun _ _ _ _ _ _ us hl => match us, hl with | [_, _], _ => rfl
  have m_law_cell := PySem.W.mg_of X G a7
  have F_law_feed := fun_mk (st := s_law_feed) l8 c8 k8
  have b_law_feed := F_law_feed.binds (ps := P_law_feed) fun _ _ _ _ _ _ us hl => match us, hl with | [_], _ => rfl
  have m_law_feed := PySem.W.mg_of X G a8
  have F_law_take := fun_mk (st := s_law_take) l9 c9 k9
  have b_law_take := F_law_take.binds (ps := P_law_take) fun _ _ _ _ _ _ us hl => match us, hl with | [_, _], _ => rfl
  have m_law_take := PySem.W.mg_of X G a9
  have F_law_leaf := fun_mk (st := s_law_leaf) l10 c10 k10
  have b_law_leaf := F_law_leaf.binds (ps := P_law_leaf) fun _ _ _ _ _ _ us hl => match us, hl with | [_, _], _ => rfl
  have m_law_leaf := PySem.W.mg_of X G a10
  have F_law_level_side := fun_mk (st := s_law_level_side) l11 c11 k11
  have b_law_level_side := F_law_level_side.binds (ps := P_law_level_side) fun _ _ _ _ _ _ us hl => match us, hl with | [_, _], _ => rfl
  have m_law_level_side := PySem.W.mg_of X G a11
  have F_law_odd_one := fun_mk (st := s_law_odd_one) l12 c12 k12
  have b_law_odd_one := F_law_odd_one.binds (ps := P_law_odd_one) fun _ _ _ _ _ _ us hl => match us, hl with | [_, _, _], _ => rfl
  have m_law_odd_one := PySem.W.mg_of X G a12
  have F_law_joined := fun_mk (st := s_law_joined) l13 c13 k13
  have b_law_joined := F_law_joined.binds (ps := P_law_joined) fun _ _ _ _ _ _ us hl => match us, hl with | [_, _, _, _], _ => rfl
  have m_law_joined := PySem.W.mg_of X G a13
  have F_law_tree := fun_mk (st := s_law_tree) l14 c14 k14
  have b_law_tree := F_law_tree.binds (ps := P_law_tree) fun _ _ _ _ _ _ us hl => match us, hl with | [_, _, _], _ => rfl
  have m_law_tree := PySem.W.mg_of X G a14
  have F_law_tall := fun_mk (st := s_law_tall) l15 c15 k15
  have b_law_tall := F_law_tall.binds (ps := P_law_tall) fun _ _ _ _ _ _ us hl => match us, hl with | [_, _], _ => rfl
  have m_law_tall := PySem.W.mg_of X G a15
  have F_law_line := fun_mk (st := s_law_line) l16 c16 k16
  have b_law_line := F_law_line.binds (ps := P_law_line) fun _ _ _ _ _ _ us hl => match us, hl with | [_, _], _ => rfl
  have m_law_line := PySem.W.mg_of X G a16
  have F_law_pushed := fun_mk (st := s_law_pushed) l17 c17 k17
  have b_law_pushed := F_law_pushed.binds (ps := P_law_pushed) fun _ _ _ _ _ _ us hl => match us, hl with | [_, _, _, _], _ => rfl
  have m_law_pushed := PySem.W.mg_of X G a17
  have F_law_wrapped := fun_mk (st := s_law_wrapped) l18 c18 k18
  have b_law_wrapped := F_law_wrapped.binds (ps := P_law_wrapped) fun _ _ _ _ _ _ us hl => match us, hl with | [_, _], _ => rfl
  have m_law_wrapped := PySem.W.mg_of X G a18
  have F_law_drawn_line := fun_mk (st := s_law_drawn_line) l19 c19 k19
  have b_law_drawn_line := F_law_drawn_line.binds (ps := P_law_drawn_line) fun _ _ _ _ _ _ us hl => match us, hl with | [_, _], _ => rfl
  have m_law_drawn_line := PySem.W.mg_of X G a19
  have F_law_sure_line := fun_mk (st := s_law_sure_line) l20 c20 k20
  have b_law_sure_line := F_law_sure_line.binds (ps := P_law_sure_line) fun _ _ _ _ _ _ us hl => match us, hl with | [_], _ => rfl
  have m_law_sure_line := PySem.W.mg_of X G a20
  have F_law_line_right := fun_mk (st := s_law_line_right) l21 c21 k21
  have b_law_line_right := F_law_line_right.binds (ps := P_law_line_right) fun _ _ _ _ _ _ us hl => match us, hl with | [_, _, _], _ => rfl
  have m_law_line_right := PySem.W.mg_of X G a21
  have F_law := fun_mk (st := s_law) l22 c22 k22
  have b_law := F_law.binds (ps := P_law) fun _ _ _ _ _ _ us hl => match us, hl with | [_], _ => rfl
  have m_law := PySem.W.mg_of X G a22
  have mlen := PySem.W.mg_none_of X G zlen
  have mint := PySem.W.mg_none_of X G zint
  have mmin := PySem.W.mg_none_of X G zmin
  have mmax := PySem.W.mg_none_of X G zmax
  have mabs := PySem.W.mg_none_of X G zabs
  have mrange := PySem.W.mg_none_of X G zrange
  have misinstance := PySem.W.mg_none_of X G zisinstance
  have mbool := PySem.W.mg_none_of X G zbool
  have mtuple := PySem.W.mg_none_of X G ztuple
  have mlist := PySem.W.mg_none_of X G zlist
  have mLIMIT := PySem.W.mg_of X G qLIMIT
  have mMOST_IN_LINE := PySem.W.mg_of X G qMOST_IN_LINE
  refine ⟨PySem.W.fnOf "law" "law" (defArgs s_law) (defBody s_law) (defScope s_law) .none kV22 dc22 pm22 an22 cd22 ct22, fun s v => .of_eq rfl, fun base _ _ => ?_⟩
  have T : Ok l.prog w K mg base 1 "_law_take" P_law_take spTake := ⟨_, _, ok_take (k := 0) F_law_take mint, b_law_take, k9, m_law_take⟩
  have FE : Ok l.prog w K mg base 1 "_law_feed" P_law_feed spFeed := ⟨_, _, ok_feed (k := 0) F_law_feed mint, b_law_feed, k8, m_law_feed⟩
  have CE : Ok l.prog w K mg base 1 "_law_cell" P_law_cell (spCell K) := ⟨_, _, ok_cell (k := 0) F_law_cell mint mlen, b_law_cell, k7, m_law_cell⟩
  have LF : Ok l.prog w K mg base 2 "_law_leaf" P_law_leaf (spLeaf K) := ⟨_, _, ok_leaf F_law_leaf T, b_law_leaf, k10, m_law_leaf⟩
  have V0 : Ok l.prog w K mg base 1 "_law_level_side" P_law_level_side (spLevel K 0) := ⟨_, _, none_ok fun vs H Q E h => by obtain ⟨a, d, _, _, h1, h2, _⟩ := h; omega, b_law_level_side, k11, m_law_level_side⟩
  have V1 : Ok l.prog w K mg base 2 "_law_level_side" P_law_level_side (spLevel K 1) := ⟨_, _, ok_level F_law_level_side T V0, b_law_level_side, k11, m_law_level_side⟩
  have V2 : Ok l.prog w K mg base 3 "_law_level_side" P_law_level_side (spLevel K 2) := ⟨_, _, ok_level F_law_level_side (T.mono (by decide)) V1, b_law_level_side, k11, m_law_level_side⟩
  have OD : Ok l.prog w K mg base 2 "_law_odd_one" P_law_odd_one (spOdd K) := ⟨_, _, ok_odd F_law_odd_one T, b_law_odd_one, k12, m_law_odd_one⟩
  have JO : Ok l.prog w K mg base 3 "_law_joined" P_law_joined (spJoined K) := ⟨_, _, ok_joined F_law_joined (T.mono (by decide)) OD, b_law_joined, k13, m_law_joined⟩
  have R0 : Ok l.prog w K mg base 3 "_law_tree" P_law_tree (spTree K 0) := ⟨_, _, none_ok fun vs H Q E h => by obtain ⟨a, d, o, _, _, h1, h2, _⟩ := h; omega, b_law_tree, k14, m_law_tree⟩
  have R1 : Ok l.prog w K mg base 4 "_law_tree" P_law_tree (spTree K 1) := ⟨_, _, ok_tree F_law_tree mmin (T.mono (by decide)) (LF.mono (by decide)) (V2.mono (by decide)) (JO.mono (by decide)) R0, b_law_tree, k14, m_law_tree⟩
  have R2 : Ok l.prog w K mg base 5 "_law_tree" P_law_tree (spTree K 2) := ⟨_, _, ok_tree F_law_tree mmin (T.mono (by decide)) (LF.mono (by decide)) (V2.mono (by decide)) (JO.mono (by decide)) R1, b_law_tree, k14, m_law_tree⟩
  have R3 : Ok l.prog w K mg base 6 "_law_tree" P_law_tree (spTree K 3) := ⟨_, _, ok_tree F_law_tree mmin (T.mono (by decide)) (LF.mono (by decide)) (V2.mono (by decide)) (JO.mono (by decide)) R2, b_law_tree, k14, m_law_tree⟩
  have R4 : Ok l.prog w K mg base 7 "_law_tree" P_law_tree (spTree K 4) := ⟨_, _, ok_tree F_law_tree mmin (T.mono (by decide)) (LF.mono (by decide)) (V2.mono (by decide)) (JO.mono (by decide)) R3, b_law_tree, k14, m_law_tree⟩
  have R5 : Ok l.prog w K mg base 8 "_law_tree" P_law_tree (spTree K 5) := ⟨_, _, ok_tree F_law_tree mmin (T.mono (by decide)) (LF.mono (by decide)) (V2.mono (by decide)) (JO.mono (by decide)) R4, b_law_tree, k14, m_law_tree⟩
  have R6 : Ok l.prog w K mg base 9 "_law_tree" P_law_tree (spTree K 6) := ⟨_, _, ok_tree F_law_tree mmin (T.mono (by decide)) (LF.mono (by decide)) (V2.mono (by decide)) (JO.mono (by decide)) R5, b_law_tree, k14, m_law_tree⟩
  have TA : Ok l.prog w K mg base 4 "_law_tall" P_law_tall (spTall K) := ⟨_, _, ok_tall F_law_tall mrange (T.mono (by decide)) (LF.mono (by decide)) JO, b_law_tall, k15, m_law_tall⟩
  have LL : ∀ n : Nat, Ok l.prog w K mg base n "_law_line" P_law_line (spLL K .lst n) := fun n => by
    induction n with
    | zero => exact ⟨_, _, none_ok fun vs H Q E h => (by obtain ⟨v, e, x, _, _, _, hd, _⟩ := h; have := dep1 e; omega), b_law_line, k16, m_law_line⟩
    | succ n ih => exact ⟨_, _, ok_law_line F_law_line mabs mmax ih, b_law_line, k16, m_law_line⟩
  have PU : Ok l.prog w K mg base 1 "_law_pushed" P_law_pushed (spPushed K) := ⟨_, _, ok_pushed (k := 0) F_law_pushed mrange mmax mmin mabs mint, b_law_pushed, k17, m_law_pushed⟩
  have WR : Ok l.prog w K mg base 2 "_law_wrapped" P_law_wrapped (spWrapped K) := ⟨_, _, ok_wrapped F_law_wrapped T, b_law_wrapped, k18, m_law_wrapped⟩
  have DR : Ok l.prog w K mg base 17 "_law_drawn_line" P_law_drawn_line (spDrawn K) := ⟨_, _, ok_drawn F_law_drawn_line mrange (T.mono (by decide)) (TA.mono (by decide)) (R6.mono (by decide)) (LL 16) (PU.mono (by decide)) (WR.mono (by decide)), b_law_drawn_line, k19, m_law_drawn_line⟩
  have SU : Ok l.prog w K mg base 2 "_law_sure_line" P_law_sure_line (spSure K) := ⟨_, _, ok_sure F_law_sure_line T, b_law_sure_line, k20, m_law_sure_line⟩
  have JL : Ok l.prog w K mg base 1 "_joined_line" P_joined_line spJL := ⟨_, _, ok_joined_line (k := 0) F_joined_line, b_joined_line, k5, m_joined_line⟩
  have LO : ∀ n : Nat, Ok l.prog w K mg base (1 + n) "line_of" P_line_of (spLL K .tup n) := fun n => by
    induction n with
    | zero => exact ⟨_, _, none_ok fun vs H Q E h => (by obtain ⟨v, e, x, _, _, _, hd, _⟩ := h; have := dep1 e; omega), b_line_of, k4, m_line_of⟩
    | succ n ih => exact ⟨_, _, ok_line_of F_line_of mabs mmax mMOST_IN_LINE (JL.mono (show 1 ≤ 1 + n by omega)) ih, b_line_of, k4, m_line_of⟩
  have CL : Ok l.prog w K mg base 1 "clip" P_clip spClip := ⟨_, _, ok_clip (k := 0) F_clip mmax mmin mLIMIT, b_clip, k0, m_clip⟩
  have JV : Ok l.prog w K mg base 2 "_joined_value" P_joined_value spJV := ⟨_, _, ok_joined_value F_joined_value CL, b_joined_value, k3, m_joined_value⟩
  have PA : Ok l.prog w K mg base 1 "operands_of" P_operands_of (spParts K) := ⟨_, _, ok_parts (k := 0) F_operands_of, b_operands_of, k2, m_operands_of⟩
  have VO : ∀ n : Nat, Ok l.prog w K mg base (2 + n) "value_of" P_value_of (spVal K n) := fun n => by
    induction n with
    | zero => exact ⟨_, _, none_ok fun vs H Q E h => (by obtain ⟨v, e, dn, da, la, wd, p, _, _, hd, _⟩ := h; have := dep1 e; omega), b_value_of, k1, m_value_of⟩
    | succ n ih => exact ⟨_, _, ok_value_of F_value_of (PA.mono (show 1 ≤ 2 + n by omega)) (JV.mono (show 2 ≤ 2 + n by omega)) ih, b_value_of, k1, m_value_of⟩
  have WH : Ok l.prog w K mg base 1 "_law_whole" P_law_whole spWhole := ⟨_, _, ok_whole (k := 0) F_law_whole misinstance mint mbool, b_law_whole, k6, m_law_whole⟩
  have RI : Ok l.prog w K mg base 19 "_law_line_right" P_law_line_right (spRight K) := ⟨_, _, ok_right F_law_line_right misinstance mtuple mlen mlist mrange ((LL 16).mono (by decide)) (WH.mono (by decide)) (VO 16), b_law_line_right, k21, m_law_line_right⟩
  have LOF : FnOk l.prog w K mg base CX0 19 f4 _ P_line_of (spLL K .tup 16) := (ok_line_of F_line_of mabs mmax mMOST_IN_LINE (JL.mono (by decide)) ((LO 15).mono (by decide : 1 + 15 ≤ 18)))
  exact ok_law F_law (CE.mono (by decide)) (FE.mono (by decide)) (T.mono (by decide)) (DR.mono (by decide)) (SU.mono (by decide)) RI ((LO 16).mono (by decide)) LOF m_line_of k4 (kbinds_swap F_line_of fun _ _ _ _ _ _ _ _ => rfl)
end K17
open PySem PySem.W PyProof.Rows
set_option maxRecDepth 100000 in
set_option maxHeartbeats 0 in
theorem PySem.Challenge.cw_stillinstep_k17_lines_of_places_holds : PySem.Challenge.rw_stillinstep_k17_lines_of_places.Holds := by
  w_on; o_law; k_head; (case hw => w_witness2)
  k_fill
  refine L2.walk_of (l := PySem.Challenge.rw_stillinstep_k17_lines_of_places) (n := 63) (k := 20) (x := "script") (CX := fun _ => L2.CX0) (sp := fun w => K17.spLaw _) rfl (by decide) rfl ⟨rfl, by decide, by decide⟩ (fun w h Y => PySem.W.kIn_of Y) ?F (fun _ _ a ns hl _ hS => ⟨a, ns, rfl, hS, hl, fun _ => rfl⟩) (fun _ _ _ _ _ h => h)
  case F =>
    intro w mg fa h KX G hmg
    refine' K17.all_mk KX G hmg ?a0 ?l0 ?c0 ?k0 ?a1 ?l1 ?c1 ?k1 ?a2 ?l2 ?c2 ?k2 ?a3 ?l3 ?c3 ?k3 ?a4 ?l4 ?c4 ?k4 ?a5 ?l5 ?c5 ?k5 ?a6 ?l6 ?c6 ?k6 ?a7 ?l7 ?c7 ?k7 ?a8 ?l8 ?c8 ?k8 ?a9 ?l9 ?c9 ?k9 ?a10 ?l10 ?c10 ?k10 ?a11 ?l11 ?c11 ?k11 ?a12 ?l12 ?c12 ?k12 ?a13 ?l13 ?c13 ?k13 ?a14 ?l14 ?c14 ?k14 ?a15 ?l15 ?c15 ?k15 ?a16 ?l16 ?c16 ?k16 ?a17 ?l17 ?c17 ?k17 ?a18 ?l18 ?c18 ?k18 ?a19 ?l19 ?c19 ?k19 ?a20 ?l20 ?c20 ?k20 ?a21 ?l21 ?c21 ?k21 ?a22 ?l22 ?c22 ?k22 ?qLIMIT ?qMOST_IN_LINE ?zlen ?zint ?zmin ?zmax ?zabs ?zrange ?zisinstance ?zbool ?ztuple ?zlist
    (case a0 => k_is)
    (case l0 => k_is)
    (case c0 => k_is)
    (case k0 => k_is)
    (case a1 => k_is)
    (case l1 => k_is)
    (case c1 => k_is)
    (case k1 => k_is)
    (case a2 => k_is)
    (case l2 => k_is)
    (case c2 => k_is)
    (case k2 => k_is)
    (case a3 => k_is)
    (case l3 => k_is)
    (case c3 => k_is)
    (case k3 => k_is)
    (case a4 => k_is)
    (case l4 => k_is)
    (case c4 => k_is)
    (case k4 => k_is)
    (case a5 => k_is)
    (case l5 => k_is)
    (case c5 => k_is)
    (case k5 => k_is)
    (case a6 => k_is)
    (case l6 => k_is)
    (case c6 => k_is)
    (case k6 => k_is)
    (case a7 => k_is)
    (case l7 => k_is)
    (case c7 => k_is)
    (case k7 => k_is)
    (case a8 => k_is)
    (case l8 => k_is)
    (case c8 => k_is)
    (case k8 => k_is)
    (case a9 => k_is)
    (case l9 => k_is)
    (case c9 => k_is)
    (case k9 => k_is)
    (case a10 => k_is)
    (case l10 => k_is)
    (case c10 => k_is)
    (case k10 => k_is)
    (case a11 => k_is)
    (case l11 => k_is)
    (case c11 => k_is)
    (case k11 => k_is)
    (case a12 => k_is)
    (case l12 => k_is)
    (case c12 => k_is)
    (case k12 => k_is)
    (case a13 => k_is)
    (case l13 => k_is)
    (case c13 => k_is)
    (case k13 => k_is)
    (case a14 => k_is)
    (case l14 => k_is)
    (case c14 => k_is)
    (case k14 => k_is)
    (case a15 => k_is)
    (case l15 => k_is)
    (case c15 => k_is)
    (case k15 => k_is)
    (case a16 => k_is)
    (case l16 => k_is)
    (case c16 => k_is)
    (case k16 => k_is)
    (case a17 => k_is)
    (case l17 => k_is)
    (case c17 => k_is)
    (case k17 => k_is)
    (case a18 => k_is)
    (case l18 => k_is)
    (case c18 => k_is)
    (case k18 => k_is)
    (case a19 => k_is)
    (case l19 => k_is)
    (case c19 => k_is)
    (case k19 => k_is)
    (case a20 => k_is)
    (case l20 => k_is)
    (case c20 => k_is)
    (case k20 => k_is)
    (case a21 => k_is)
    (case l21 => k_is)
    (case c21 => k_is)
    (case k21 => k_is)
    (case a22 => k_is)
    (case l22 => k_is)
    (case c22 => k_is)
    (case k22 => k_is)
    (case qLIMIT => k_is)
    (case qMOST_IN_LINE => k_is)
    (case zlen => k_is)
    (case zint => k_is)
    (case zmin => k_is)
    (case zmax => k_is)
    (case zabs => k_is)
    (case zrange => k_is)
    (case zisinstance => k_is)
    (case zbool => k_is)
    (case ztuple => k_is)
    (case zlist => k_is)
