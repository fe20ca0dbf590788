import PyProof.Rows.All
import Wide.All
import OpenK.AllK
import Wide.FinOn
import HandS.ForMost
import HandS.IsInst
import HandS.Codes
import KE.GoesMore
import HandS.Walk
import HandS.Wide
import HandS.DictComp
import PySem.Challenge.RW_stillinstep_k01_reads_picks_and_nth
set_option Elab.async false
set_option linter.all false
set_option maxRecDepth 100000
namespace Vk
open PySem L2
/-! ### a def that stands and keeps its promise, by its name -/
structure Ok (P : Program) (w : World) (K : PySem.W.Frag) (mg : Str → Option Value) (base : Heap) (k : Nat) (x : Str) (ps : List Str) (sp : Sp) : Prop where
  ex : ∃ (f : Addr) (fd : FuncData), FnOk P w K mg base CX0 k f fd ps sp ∧ Binds K fd ps [] ∧ PySem.W.keepIn K (.ref f) = true ∧ mg x = some (.ref f)
theorem Ok.mono {P w K mg base j k x ps sp} (O : Ok P w K mg base j x ps sp) (h : j ≤ k) : Ok P w K mg base k x ps sp := by
  obtain ⟨f, fd, F, r⟩ := O.ex
  exact ⟨f, fd, F.mono h, r⟩
theorem pe_c {X : Cx} {k : Nat} {ps : List Str} {sp : Sp} {x : Str} {p pos : Pos} {e : Expr} {es : List Expr} {t : TA} (O : Ok X.prog X.w X.K X.mg X.base k x ps sp) (hr : Room k X.A) (hg : Gl X x)
    (ha : PA X (e :: es) t) (hdb : (x == ("__debug__" : Str)) = false := by decide) (he : starEach (e :: es) X.env = (false, eval e X.env) :: starEach es X.env := by rfl) (hpl : (backTo pos (starEach es X.env)).any (·.1) = false := by rfl) :
    PE X (.Call (.Name x p) (e :: es) [] pos) (tCall sp [] E0 t) := by
  obtain ⟨f, fd, F, b, kp, m⟩ := O.ex
  exact pe_call F hr hg m kp b .nil pass0 ha hdb he hpl
/-- f(k = v, ..): keywords alone -/
theorem pe_kw0 {X : Cx} {k : Nat} {f : Addr} {fd : FuncData} {ps ks : List Str} {sp : Sp} {x : Str} {p pos : Pos} {kws : List Keyword} {tk : TA} {g : List Value → List Value → List Value} {gV : List V → List V → List V}
    (F : FnOk X.prog X.w X.K X.mg X.base CX0 k f fd ps sp) (hr : Room k X.A) (hg : Gl X x) (hm : X.mg x = some (.ref f)) (hk : PySem.W.keepIn X.K (.ref f) = true) (hb : KBinds X.K fd ps ks g gV) (hkw : PK X kws tk)
    (hall : (backToKw pos (keywordEach kws X.env)).all (·.1.isSome) = true := by rfl) (hks : (backToKw pos (keywordEach kws X.env)).filterMap (·.1) = ks := by rfl) (hdb : (x == ("__debug__" : Str)) = false := by decide)
    (hpl : ((backTo pos (starEach [] X.env)).any (·.1) || (backToKw pos (keywordEach kws X.env)).any (·.1.isNone)) = false := by rfl) :
    PE X (.Call (.Name x p) [] kws pos) (tCallK sp gV E0 tNil tk) := by
  refine ⟨fun pins s σ H Q I h => ?_⟩
  refine wpAny_Call_Name_kw (ld_glob I hg hm ?_ hdb)
  refine PySem.W.callWith_KW0 (h₀ := X.base) I.ok.mod.kin hk hall ?_ hpl
  refine thn (hkw.run pos pins s σ H _ I h) fun ws s2 ⟨zs, H2, I2, rz, q2⟩ => ⟨I2.kIn, ?_⟩
  rw [hks]
  exact run_fnk (us := []) (vs := []) F hr hb pass0 I2 .nil rz q2
/-- two keywords in the other order -/
def swapG {α : Type} : List α → List α → List α
  | [], [a, b] => [b, a]
  | _, _ => []
theorem kbinds_swap {K : PySem.W.Frag} {x qual a b : Str} {st : Stmt} {f : Addr} {fd : FuncData} (F : Fun K x qual st f fd)
    (h : ∀ (kV doc pm : Value) (an : Option Addr) (cdv ct : Value) (u v : Value), bindArgs (PySem.W.fnOf x qual (defArgs st) (defBody st) (defScope st) .none kV doc pm an cdv ct) ⟨[], [(b, u), (a, v)]⟩ = pure [(a, v), (b, u)]) : KBinds K fd [a, b] [b, a] swapG swapG := by
  obtain ⟨oc, od, kV, doc, pm, an, cdv, ct, osl, rfl, lk, hcd⟩ := F.ex
  refine ⟨fun s us ws _ hl => ?_, fun {vs us zs ws} r1 r2 => ?_⟩
  · match us, ws, hl with
    | [], [u, v], _ => exact .of_eq (h kV doc pm an cdv ct u v)
  · cases r1 with
    | nil =>
      cases r2 with
      | nil => exact .nil
      | cons x r3 =>
        cases r3 with
        | nil => exact .nil
        | cons y r4 =>
          cases r4 with
          | nil => exact .cons y (.cons x .nil)
          | cons z r5 => exact .nil
    | cons x r3 => exact .nil
/-! ### heaps -/
theorem same_new {H : Hp} {p : Addr} (h : H p = none) (o : HO) : Same H (upd H p o) := fun b u q => by rw [upd_ne (ne_of_none q h)]; exact q
theorem Same.tup {K : PySem.W.Frag} {H H' : Hp} {a : Addr} {xs : List V} (e : Same H H') (h : SqT K H a xs) : SqT K H' a xs := by
  rcases h with (h | ⟨o, h⟩) | h
  · exact .inl (.inl (e _ _ h))
  · exact .inl (.inr ⟨o, e _ _ h⟩)
  · exact .inr h
/-- a feed: a list of three ints -/
def Fd (H : Hp) (a : Addr) : Prop := ∃ x y z : Int, H a = some (.lst [.int x, .int y, .int z])
/-- all but the list at a is as it was -/
def Stp (a : Addr) (H H' : Hp) : Prop := (∀ b o, b ≠ a → H b = some o → H' b = some o) ∧ Fd H' a
theorem Stp.refl {a : Addr} {H : Hp} (h : Fd H a) : Stp a H H := ⟨fun _ _ _ q => q, h⟩
theorem Stp.trans {a : Addr} {H H1 H2 : Hp} (h : Stp a H H1) (g : Stp a H1 H2) : Stp a H H2 := ⟨fun b o n q => g.1 b o n (h.1 b o n q), g.2⟩
theorem Fd.same {a : Addr} {H H' : Hp} (h : Fd H a) (s : Same H H') : Fd H' a := by
  obtain ⟨x, y, z, e⟩ := h
  exact ⟨x, y, z, s _ _ e⟩
theorem Stp.same {a : Addr} {H H1 H2 : Hp} (h : Stp a H H1) (s : Same H1 H2) : Stp a H H2 := ⟨fun b o n q => s _ _ (h.1 b o n q), h.2.same s⟩
theorem Stp.of {a : Addr} {H H' : Hp} (h : Fd H a) (s : Same H H') : Stp a H H' := (Stp.refl h).same s
theorem Stp.tup {K : PySem.W.Frag} {a b : Addr} {H H' : Hp} {xs : List V} (h : Fd H a) (s : Stp a H H') (q : SqT K H b xs) : SqT K H' b xs := by
  obtain ⟨x, y, z, e⟩ := h
  rcases q with (q | ⟨o, q⟩) | q
  · exact .inl (.inl (s.1 _ _ (ne_of q e (by intro z; cases z)) q))
  · exact .inl (.inr ⟨o, s.1 _ _ (ne_of q e (by intro z; cases z)) q⟩)
  · exact .inr q
/-- tuples stay -/
def Tu (K : PySem.W.Frag) (H H' : Hp) : Prop := ∀ b xs, SqT K H b xs → SqT K H' b xs
theorem Same.tu {K : PySem.W.Frag} {H H' : Hp} (e : Same H H') : Tu K H H' := fun _ _ h => Vk.Same.tup e h
theorem Stp.tu {K : PySem.W.Frag} {a : Addr} {H H' : Hp} (s : Stp a H H') (h : Fd H a) : Tu K H H' := fun _ _ q => s.tup h q
theorem Tu.trans {K : PySem.W.Frag} {H H1 H2 : Hp} (a : Tu K H H1) (b : Tu K H1 H2) : Tu K H H2 := fun _ _ q => b _ _ (a _ _ q)
theorem Tu.refl {K : PySem.W.Frag} {H : Hp} : Tu K H H := fun _ _ q => q
/-! ### places -/
theorem atI_in {α : Type} {xs : List α} {i : Int} (h0 : 0 ≤ i) (h : i < xs.length) : ∃ v, v ∈ xs ∧ atI xs i = some v := by
  have hk : i.toNat < xs.length := by omega
  have ek : ((i.toNat : Nat) : Int) = i := by omega
  have q : atI xs ((i.toNat : Nat) : Int) = some (xs[i.toNat]) := atI_nat (List.getElem?_eq_getElem hk)
  rw [ek] at q
  exact ⟨xs[i.toNat], List.getElem_mem hk, q⟩
/-! ### the draws -/
def spTake : Sp := fun vs H Q _ => ∃ (a : Addr) (n : Int), vs = [.ref a, .int n] ∧ Fd H a ∧ 0 < n ∧ n < 1073741824 ∧ ∀ r H', 0 ≤ r → r < n → Stp a H H' → Q (.int r) H'
def spFeed : Sp := fun vs H Q _ => ∃ (n : Int), vs = [.int n] ∧ ∀ p H', Same H H' → H p = none → Fd H' p → Q (.ref p) H'
def spCellv (K : PySem.W.Frag) : Sp := fun vs H Q _ => ∃ (a : Addr) (ns : List Int) (k : Int), vs = [.ref a, .int k] ∧ SqL K H a (ns.map V.int) ∧ 0 ≤ k ∧ k < 1000 ∧ ∀ n : Int, Q (.int n) H
theorem fmod_lo {a b : Int} (h : 0 < b) : 0 ≤ a.fmod b := Int.fmod_nonneg_of_pos a h
theorem fmod_hi {a b : Int} (h : 0 < b) : a.fmod b < b := Int.fmod_lt_of_pos a h
theorem ite2' {c A B : Prop} [Decidable c] (h1 : c → A) (h2 : ¬ c → B) : if decide c = true then A else B := ite2 (fun h => h1 (of_decide_eq_true h)) (fun h => h2 (fun z => h (decide_eq_true z)))
theorem execs_app (xs ys : List Stmt) (env : Env) : execs (xs ++ ys) env = (execs xs env >>= fun f => match f with | .next => execs ys env | f => pure f) := by
  induction xs with
  | nil =>
    show execs ys env = (pure Flow.next >>= _)
    rw [pure_bind]
  | cons st rest ih =>
    show (exec st env >>= fun f => match f with | .next => execs (rest ++ ys) env | f => pure f) = ((exec st env >>= fun f => match f with | .next => execs rest env | f => pure f) >>= _)
    rw [bind_assoc]
    refine congrArg _ (funext fun f => ?_)
    cases f with
    | next => exact ih
    | ret v => exact (pure_bind _ _).symm
    | brk => exact (pure_bind _ _).symm
    | cont => exact (pure_bind _ _).symm
/-- a block cut behind its first n statements: what follows is shown once, from Mid -/
theorem pss_cutAt {X : Cx} {l : List Stmt} {t u : TS} (n : Nat) (h1 : PSs X (l.take n) t) (h2 : PSs X (l.drop n) u) : PSs X l (C8.tCut t u) := by
  refine ⟨fun pins s σ H D I h => ?_⟩
  obtain ⟨Mid, hm, hu⟩ := h
  rw [← List.take_append_drop n l, execs_app]
  refine wpAny_bind (thn (h1.run pins s σ H { D with nx := Mid } I hm) fun f s1 q => ?_)
  cases f with
  | next =>
    obtain ⟨σ', H', I', q⟩ := q
    exact h2.run pins s1 σ' H' D I' (hu σ' H' q)
  | ret v => exact wpAny_pure q
  | brk => exact wpAny_pure q
  | cont => exact wpAny_pure q
/-! ### tests whose answer is known -/
theorem itY {A B : Prop} {x : V} (h : A) : if decide (x = x) = true then A else B := by rw [decide_eq_true rfl]; exact iteT h
theorem itN {A B : Prop} {x y : V} (n : x ≠ y) (h : B) : if decide (x = y) = true then A else B := by rw [decide_eq_false n]; exact iteF h
theorem itYn {A B : Prop} {x : V} (h : B) : if (!decide (x = x)) = true then A else B := by rw [decide_eq_true rfl]; exact iteF h
theorem itNn {A B : Prop} {x y : V} (n : x ≠ y) (h : A) : if (!decide (x = y)) = true then A else B := by rw [decide_eq_false n]; exact iteT h
theorem strNe {x y : Str} (h : x ≠ y) : V.str x ≠ V.str y := fun z => h (V.str.inj z)
end Vk
namespace Vk
open PySem L2
/-- expressions -/
inductive Ex where
  | num (n : Int) | nam (w : Str) | op (s : Str) (l r : Ex) | rd (w : Str) (l : Ex)
  | c1 (w : Str) (a : Ex) | c2 (w : Str) (a b : Ex) | c3 (w : Str) (a b c : Ex)
abbrev okW (w : Str) : Prop := PyData.canLay0 (.str w) = true
namespace Ex
def dep : Ex → Nat
  | num _ => 1 | nam _ => 1
  | op _ l r => max l.dep r.dep + 1
  | rd _ l => l.dep + 1
  | c1 _ a => a.dep + 1
  | c2 _ a b => max a.dep b.dep + 1
  | c3 _ a b c => max a.dep (max b.dep c.dep) + 1
def ok : Ex → Prop
  | num _ => True | nam w => okW w
  | op s l r => okW s ∧ l.ok ∧ r.ok
  | rd w l => okW w ∧ l.ok
  | c1 w a => okW w ∧ a.ok
  | c2 w a b => okW w ∧ a.ok ∧ b.ok
  | c3 w a b c => okW w ∧ a.ok ∧ b.ok ∧ c.ok
def data : Ex → PyData
  | num n => .tuple [.str "number", .int n]
  | nam w => .tuple [.str "name", .str w]
  | op s l r => .tuple [.str "op", .str s, l.data, r.data]
  | rd w l => .tuple [.str "read", .str w, l.data]
  | c1 w a => .tuple [.str "call", .str w, .tuple [a.data]]
  | c2 w a b => .tuple [.str "call", .str w, .tuple [a.data, b.data]]
  | c3 w a b c => .tuple [.str "call", .str w, .tuple [a.data, b.data, c.data]]
/-- it stands there -/
def At (K : PySem.W.Frag) (H : Hp) : Ex → V → Prop
  | num n, v => ∃ a, v = .ref a ∧ SqT K H a [.str "number", .int n]
  | nam w, v => ∃ a, v = .ref a ∧ SqT K H a [.str "name", .str w]
  | op s l r, v => ∃ a x y, v = .ref a ∧ SqT K H a [.str "op", .str s, x, y] ∧ l.At K H x ∧ r.At K H y
  | rd w l, v => ∃ a x, v = .ref a ∧ SqT K H a [.str "read", .str w, x] ∧ l.At K H x
  | c1 w l, v => ∃ a t x, v = .ref a ∧ SqT K H a [.str "call", .str w, .ref t] ∧ SqT K H t [x] ∧ l.At K H x
  | c2 w l r, v => ∃ a t x y, v = .ref a ∧ SqT K H a [.str "call", .str w, .ref t] ∧ SqT K H t [x, y] ∧ l.At K H x ∧ r.At K H y
  | c3 w l r q, v => ∃ a t x y z, v = .ref a ∧ SqT K H a [.str "call", .str w, .ref t] ∧ SqT K H t [x, y, z] ∧ l.At K H x ∧ r.At K H y ∧ q.At K H z
theorem At.tu {K : PySem.W.Frag} {H H' : Hp} (t : Tu K H H') : ∀ {e : Ex} {v : V}, e.At K H v → e.At K H' v
  | num _, _, ⟨a, e, h⟩ => ⟨a, e, t _ _ h⟩
  | nam _, _, ⟨a, e, h⟩ => ⟨a, e, t _ _ h⟩
  | op _ _ _, _, ⟨a, x, y, e, h, h1, h2⟩ => ⟨a, x, y, e, t _ _ h, At.tu t h1, At.tu t h2⟩
  | rd _ _, _, ⟨a, x, e, h, h1⟩ => ⟨a, x, e, t _ _ h, At.tu t h1⟩
  | c1 _ _, _, ⟨a, p, x, e, h, h', h1⟩ => ⟨a, p, x, e, t _ _ h, t _ _ h', At.tu t h1⟩
  | c2 _ _ _, _, ⟨a, p, x, y, e, h, h', h1, h2⟩ => ⟨a, p, x, y, e, t _ _ h, t _ _ h', At.tu t h1, At.tu t h2⟩
  | c3 _ _ _ _, _, ⟨a, p, x, y, z, e, h, h', h1, h2, h3⟩ => ⟨a, p, x, y, z, e, t _ _ h, t _ _ h', At.tu t h1, At.tu t h2, At.tu t h3⟩
theorem At.dp {K : PySem.W.Frag} {H : Hp} : ∀ {e : Ex} {v : V}, e.At K H v → Dp K H v e.data
  | num _, _, ⟨a, e, h⟩ => by subst e; exact .tup h (.cons (.str _) (.cons (.int _) .nil))
  | nam _, _, ⟨a, e, h⟩ => by subst e; exact .tup h (.cons (.str _) (.cons (.str _) .nil))
  | op _ _ _, _, ⟨a, x, y, e, h, h1, h2⟩ => by subst e; exact .tup h (.cons (.str _) (.cons (.str _) (.cons (At.dp h1) (.cons (At.dp h2) .nil))))
  | rd _ _, _, ⟨a, x, e, h, h1⟩ => by subst e; exact .tup h (.cons (.str _) (.cons (.str _) (.cons (At.dp h1) .nil)))
  | c1 _ _, _, ⟨a, p, x, e, h, h', h1⟩ => by subst e; exact .tup h (.cons (.str _) (.cons (.str _) (.cons (.tup h' (.cons (At.dp h1) .nil)) .nil)))
  | c2 _ _ _, _, ⟨a, p, x, y, e, h, h', h1, h2⟩ => by subst e; exact .tup h (.cons (.str _) (.cons (.str _) (.cons (.tup h' (.cons (At.dp h1) (.cons (At.dp h2) .nil))) .nil)))
  | c3 _ _ _ _, _, ⟨a, p, x, y, z, e, h, h', h1, h2, h3⟩ => by subst e; exact .tup h (.cons (.str _) (.cons (.str _) (.cons (.tup h' (.cons (At.dp h1) (.cons (At.dp h2) (.cons (At.dp h3) .nil)))) .nil)))
theorem can : ∀ {e : Ex}, e.ok → e.data.canLay0 = true
  | num _, _ => by simp only [data, PyData.canLay0, PyData.canLayAll0]; decide +kernel
  | nam w, h => by
    have h1 : okW w := h
    have h0 : okW "name" := by decide +kernel
    show (PyData.canLay0 (.str "name") && (PyData.canLay0 (.str w) && true)) = true
    rw [h0, h1]; rfl
  | op s l r, h => by
    have h0 : okW "op" := by decide +kernel
    show (PyData.canLay0 (.str "op") && (PyData.canLay0 (.str s) && (l.data.canLay0 && (r.data.canLay0 && true)))) = true
    rw [h0, h.1, can h.2.1, can h.2.2]; rfl
  | rd w l, h => by
    have h0 : okW "read" := by decide +kernel
    show (PyData.canLay0 (.str "read") && (PyData.canLay0 (.str w) && (l.data.canLay0 && true))) = true
    rw [h0, h.1, can h.2]; rfl
  | c1 w a, h => by
    have h0 : okW "call" := by decide +kernel
    show (PyData.canLay0 (.str "call") && (PyData.canLay0 (.str w) && ((a.data.canLay0 && true) && true))) = true
    rw [h0, h.1, can h.2]; rfl
  | c2 w a b, h => by
    have h0 : okW "call" := by decide +kernel
    show (PyData.canLay0 (.str "call") && (PyData.canLay0 (.str w) && ((a.data.canLay0 && (b.data.canLay0 && true)) && true))) = true
    rw [h0, h.1, can h.2.1, can h.2.2]; rfl
  | c3 w a b c, h => by
    have h0 : okW "call" := by decide +kernel
    show (PyData.canLay0 (.str "call") && (PyData.canLay0 (.str w) && ((a.data.canLay0 && (b.data.canLay0 && (c.data.canLay0 && true))) && true))) = true
    rw [h0, h.1, can h.2.1, can h.2.2.1, can h.2.2.2]; rfl
theorem ddep : ∀ e : Ex, e.data.depth ≤ 2 * e.dep
  | num _ => by show max 0 (max 0 0) + 1 ≤ 2 * 1; decide
  | nam _ => by show max 0 (max 0 0) + 1 ≤ 2 * 1; decide
  | op _ l r => by
    have := ddep l; have := ddep r
    show max 0 (max 0 (max l.data.depth (max r.data.depth 0))) + 1 ≤ 2 * (max l.dep r.dep + 1); omega
  | rd _ l => by
    have := ddep l
    show max 0 (max 0 (max l.data.depth 0)) + 1 ≤ 2 * (l.dep + 1); omega
  | c1 _ l => by
    have := ddep l
    show max 0 (max 0 (max (max l.data.depth 0 + 1) 0)) + 1 ≤ 2 * (l.dep + 1); omega
  | c2 _ l r => by
    have := ddep l; have := ddep r
    show max 0 (max 0 (max (max l.data.depth (max r.data.depth 0) + 1) 0)) + 1 ≤ 2 * (max l.dep r.dep + 1); omega
  | c3 _ l r q => by
    have := ddep l; have := ddep r; have := ddep q
    show max 0 (max 0 (max (max l.data.depth (max r.data.depth (max q.data.depth 0)) + 1) 0)) + 1 ≤ 2 * (max l.dep (max r.dep q.dep) + 1); omega
theorem shaped {e : Ex} (h : e.ok) (d : e.dep ≤ 32) : SeqAt.shaped e.data = true := by
  have := ddep e
  unfold SeqAt.shaped
  rw [can h, decide_eq_true (show e.data.depth ≤ 64 by omega)]
  rfl
end Ex
end Vk
namespace Vk
open PySem L2
/-- one of a written list, drawn -/
theorem rd_menu {K : PySem.W.Frag} {σ : St} {H : Hp} {Q : VK} {a : Addr} {n : Int} {i : Nat} {tl : TE} (xs : List V) (hσ : σ[i]? = some (some (.ref a))) (hF : Fd H a) (hn : (xs.length : Int) = n) (n0 : 0 < n) (n1 : n < 1000)
    (hl : tl σ H = fun Q => xs.length ≤ sizeLine ∧ ∀ l, H l = none → Q (.ref l) (upd H l (.lst xs))) (q : ∀ v H', v ∈ xs → Stp a H H' → Q v H') :
    tOp (rIxL K) tl (tCall spTake [] E0 (tCons (tVar i) (tCons (tC (.int n)) tNil))) σ H Q := by
  show tl σ H _
  rw [hl]
  refine ⟨Nat.le_of_lt (small1000 (by omega)), fun l el => ?_⟩
  refine ⟨_, hσ, a, n, rfl, hF.same (same_new el _), n0, by omega, fun r H' r0 r1 s => ?_⟩
  obtain ⟨v, vm, ev⟩ := atI_in (xs := xs) r0 (by omega)
  have na : l ≠ a := by
    obtain ⟨x, y, z, e⟩ := hF
    exact (ne_of_none e el).symm
  refine ⟨_, _, _, _, rfl, rfl, SqL.of (s.1 _ _ na upd_same), ev, q v H' vm ?_⟩
  exact (Stp.of hF (same_new el _)).trans s
theorem rd_menuS {K : PySem.W.Frag} {σ : St} {H : Hp} {Q : VK} {a : Addr} {n : Int} {i : Nat} {tl : TE} (ws : List Str) (hσ : σ[i]? = some (some (.ref a))) (hF : Fd H a) (hn : ((ws.map V.str).length : Int) = n) (n0 : 0 < n) (n1 : n < 1000)
    (hl : tl σ H = fun Q => (ws.map V.str).length ≤ sizeLine ∧ ∀ l, H l = none → Q (.ref l) (upd H l (.lst (ws.map V.str)))) (hk : ∀ w ∈ ws, okW w) (q : ∀ w H', w ∈ ws → okW w → Stp a H H' → Q (.str w) H') :
    tOp (rIxL K) tl (tCall spTake [] E0 (tCons (tVar i) (tCons (tC (.int n)) tNil))) σ H Q := by
  refine rd_menu (ws.map V.str) hσ hF hn n0 n1 hl fun v H' vm s => ?_
  obtain ⟨w, wm, rfl⟩ := List.mem_map.mp vm
  exact q w H' wm (hk w wm) s
theorem rd_menuI {K : PySem.W.Frag} {σ : St} {H : Hp} {Q : VK} {a : Addr} {n : Int} {i : Nat} {tl : TE} (ws : List Int) (hσ : σ[i]? = some (some (.ref a))) (hF : Fd H a) (hn : ((ws.map V.int).length : Int) = n) (n0 : 0 < n) (n1 : n < 1000)
    (hl : tl σ H = fun Q => (ws.map V.int).length ≤ sizeLine ∧ ∀ l, H l = none → Q (.ref l) (upd H l (.lst (ws.map V.int)))) (q : ∀ w H', w ∈ ws → Stp a H H' → Q (.int w) H') :
    tOp (rIxL K) tl (tCall spTake [] E0 (tCons (tVar i) (tCons (tC (.int n)) tNil))) σ H Q := by
  refine rd_menu (ws.map V.int) hσ hF hn n0 n1 hl fun v H' vm s => ?_
  obtain ⟨w, wm, rfl⟩ := List.mem_map.mp vm
  exact q w H' wm s
/-- behind the making of a written list: a draw from it -/
theorem rd_in {K : PySem.W.Frag} {σ : St} {H : Hp} {Q : VK} {a l : Addr} {n : Int} {i : Nat} (xs : List V) (hσ : σ[i]? = some (some (.ref a))) (hF : Fd H a) (el : H l = none) (hn : (xs.length : Int) = n) (n0 : 0 < n) (n1 : n < 1000)
    (q : ∀ v H', v ∈ xs → Stp a H H' → Q v H') :
    tCall spTake [] E0 (tCons (tVar i) (tCons (tC (.int n)) tNil)) σ (upd H l (.lst xs)) (fun y H2 => rIxL K (.ref l) y H2 Q) := by
  refine ⟨_, hσ, a, n, rfl, hF.same (same_new el _), n0, by omega, fun r H' r0 r1 s => ?_⟩
  obtain ⟨v, vm, ev⟩ := atI_in (xs := xs) r0 (by omega)
  have na : l ≠ a := by
    obtain ⟨x, y, z, e⟩ := hF
    exact (ne_of_none e el).symm
  refine ⟨_, _, _, _, rfl, rfl, SqL.of (s.1 _ _ na upd_same), ev, q v H' vm ?_⟩
  exact (Stp.of hF (same_new el _)).trans s
theorem rd_inS {K : PySem.W.Frag} {σ : St} {H : Hp} {Q : VK} {a l : Addr} {n : Int} {i : Nat} (ws : List Str) (hσ : σ[i]? = some (some (.ref a))) (hF : Fd H a) (el : H l = none) (hn : ((ws.map V.str).length : Int) = n) (n0 : 0 < n) (n1 : n < 1000)
    (hk : ∀ w ∈ ws, okW w) (q : ∀ w H', w ∈ ws → okW w → Stp a H H' → Q (.str w) H') :
    tCall spTake [] E0 (tCons (tVar i) (tCons (tC (.int n)) tNil)) σ (upd H l (.lst (ws.map V.str))) (fun y H2 => rIxL K (.ref l) y H2 Q) := by
  refine rd_in (ws.map V.str) hσ hF el hn n0 n1 fun v H' vm s => ?_
  obtain ⟨w, wm, rfl⟩ := List.mem_map.mp vm
  exact q w H' wm (hk w wm) s
theorem rd_inI {K : PySem.W.Frag} {σ : St} {H : Hp} {Q : VK} {a l : Addr} {n : Int} {i : Nat} (ws : List Int) (hσ : σ[i]? = some (some (.ref a))) (hF : Fd H a) (el : H l = none) (hn : ((ws.map V.int).length : Int) = n) (n0 : 0 < n) (n1 : n < 1000)
    (q : ∀ w H', w ∈ ws → Stp a H H' → Q (.int w) H') :
    tCall spTake [] E0 (tCons (tVar i) (tCons (tC (.int n)) tNil)) σ (upd H l (.lst (ws.map V.int))) (fun y H2 => rIxL K (.ref l) y H2 Q) := by
  refine rd_in (ws.map V.int) hσ hF el hn n0 n1 fun v H' vm s => ?_
  obtain ⟨w, wm, rfl⟩ := List.mem_map.mp vm
  exact q w H' wm s
/-- a draw -/
theorem rd_take {σ : St} {H : Hp} {Q : VK} {a : Addr} {n : Int} {i : Nat} (hσ : σ[i]? = some (some (.ref a))) (hF : Fd H a) (n0 : 0 < n) (n1 : n < 1073741824) (q : ∀ r H', 0 ≤ r → r < n → Stp a H H' → Q (.int r) H') :
    tCall spTake [] E0 (tCons (tVar i) (tCons (tC (.int n)) tNil)) σ H Q := ⟨_, hσ, a, n, rfl, hF, n0, n1, q⟩
/-- what is wanted of an expression that is made with the feed at a -/
def XQ (K : PySem.W.Frag) (a : Addr) (N : Nat) (H : Hp) (Q : VK) : Prop := ∀ (v : V) (H' : Hp) (e : Ex), Stp a H H' → e.At K H' v → e.dep ≤ N → e.ok → Q v H'
theorem XQ.after {K : PySem.W.Frag} {a : Addr} {N : Nat} {H H1 : Hp} {Q : VK} (q : XQ K a N H Q) (s : Stp a H H1) : XQ K a N H1 Q := fun v H' e s' h1 h2 h3 => q v H' e (s.trans s') h1 h2 h3
theorem XQ.num {K : PySem.W.Frag} {a : Addr} {N : Nat} {H : Hp} {Q : VK} (q : XQ K a N H Q) (hF : Fd H a) (h : 1 ≤ N) (n : Int) {t : Addr} (ht : H t = none) : Q (.ref t) (upd H t (.tup [.str "number", .int n])) :=
  q _ _ (.num n) (Stp.of hF (same_new ht _)) ⟨t, rfl, SqT.of upd_same⟩ h trivial
theorem XQ.nam {K : PySem.W.Frag} {a : Addr} {N : Nat} {H : Hp} {Q : VK} (q : XQ K a N H Q) (hF : Fd H a) (h : 1 ≤ N) {w : Str} (hw : okW w) {t : Addr} (ht : H t = none) : Q (.ref t) (upd H t (.tup [.str "name", .str w])) :=
  q _ _ (.nam w) (Stp.of hF (same_new ht _)) ⟨t, rfl, SqT.of upd_same⟩ h hw
theorem XQ.op {K : PySem.W.Frag} {a : Addr} {N : Nat} {H : Hp} {Q : VK} (q : XQ K a N H Q) (hF : Fd H a) {w : Str} {x y : V} {l r : Ex} (hl : l.At K H x) (hr : r.At K H y) (h : max l.dep r.dep + 1 ≤ N) (hw : okW w) (kl : l.ok) (kr : r.ok) {t : Addr} (ht : H t = none) : Q (.ref t) (upd H t (.tup [.str "op", .str w, x, y])) :=
  q _ _ (.op w l r) (Stp.of hF (same_new ht _)) ⟨t, x, y, rfl, SqT.of upd_same, hl.tu (Same.tu (same_new ht _)), hr.tu (Same.tu (same_new ht _))⟩ h ⟨hw, kl, kr⟩
theorem XQ.rd {K : PySem.W.Frag} {a : Addr} {N : Nat} {H : Hp} {Q : VK} (q : XQ K a N H Q) (hF : Fd H a) {w : Str} {x : V} {l : Ex} (hl : l.At K H x) (h : l.dep + 1 ≤ N) (hw : okW w) (kl : l.ok) {t : Addr} (ht : H t = none) : Q (.ref t) (upd H t (.tup [.str "read", .str w, x])) :=
  q _ _ (.rd w l) (Stp.of hF (same_new ht _)) ⟨t, x, rfl, SqT.of upd_same, hl.tu (Same.tu (same_new ht _))⟩ h ⟨hw, kl⟩
end Vk
namespace Vk
open PySem L2
def okC (w : Str) : Prop := ∀ c ∈ w.cps.toList, c < 1114112
theorem okW_of {w : Str} (h : okC w) : okW w := by
  show PyData.strOk w = true
  unfold PyData.strOk
  rw [Array.all_eq_true_iff_forall_mem]
  intro c hc
  exact decide_eq_true (h c (Array.mem_toList_iff.mpr hc))
theorem okC_app {x y : Str} (h : okC x) (g : okC y) : okC (x ++ y) := by
  intro c hc
  rw [Str.cps_append, Array.toList_append] at hc
  rcases List.mem_append.mp hc with z | z
  · exact h c z
  · exact g c z
theorem okC_cut {x : Str} (h : okC x) (lo hi : Option Int) : okC (cutS x lo hi) := by
  intro c hc
  unfold cutS at hc
  exact h c (List.mem_of_mem_drop (List.mem_of_mem_take hc))
theorem okC_one {c : Nat} (h : c < 1114112) : okC ⟨#[c]⟩ := by
  intro d hd
  have : d = c := by simpa using hd
  omega
theorem len_one {c : Nat} : Str.length ⟨#[c]⟩ = 1 := rfl
theorem len_cut (x : Str) (lo hi : Option Int) : (cutS x lo hi).length = min (HT.sIx x.length x.length hi - HT.sIx x.length 0 lo) (x.length - HT.sIx x.length 0 lo) := by
  unfold cutS Str.length
  simp
theorem len_head (x : Str) (k : Nat) : (cutS x none (some (k : Int))).length = min k x.length := by
  rw [len_cut, HT.sIx_none, HT.sIx_nat]
  omega
theorem len_tail (x : Str) (k : Nat) : (cutS x (some (k : Int)) none).length = x.length - k := by
  rw [len_cut, HT.sIx_none, HT.sIx_nat]
  omega
theorem inV_str {z : Str} {ws : List Str} (h : inV (.str z) (ws.map V.str) = true) : z ∈ ws := by
  unfold inV at h
  obtain ⟨y, ym, ey⟩ := List.any_eq_true.mp h
  obtain ⟨w, wm, rfl⟩ := List.mem_map.mp ym
  have : w = z := eq_of_beq (show (w == z) = true from ey)
  rw [← this]
  exact wm
theorem mem_inV {z : Str} {ws : List Str} (h : z ∈ ws) : inV (.str z) (ws.map V.str) = true := by
  unfold inV
  exact List.any_eq_true.mpr ⟨.str z, List.mem_map.mpr ⟨z, h, rfl⟩, beq_self_eq_true z⟩
theorem flat_all {ws : List Str} : (ws.map V.str).all flatV = true := by
  rw [List.all_map]
  exact List.all_eq_true.mpr fun _ _ => rfl
/-- a word -/
structure WordOk (w : Str) : Prop where
  lo : 1 ≤ w.length
  hi : w.length ≤ 13
  ok : okC w
theorem WordOk.w {w : Str} (h : WordOk w) : okW w := okW_of h.ok
def wordB (w : Str) : Bool := decide (1 ≤ w.length) && decide (w.length ≤ 13) && w.cps.toList.all fun c => decide (c < 1114112)
theorem wordB_ok {w : Str} (h : wordB w = true) : WordOk w := by
  unfold wordB at h
  simp only [Bool.and_eq_true, decide_eq_true_eq, List.all_eq_true] at h
  exact ⟨h.1.1, h.1.2, h.2⟩
theorem words_ok {ws : List Str} (h : ws.all wordB = true) : ∀ w ∈ ws, WordOk w := fun w hw => wordB_ok (List.all_eq_true.mp h w hw)
theorem small_line {n : Nat} (h : n ≤ 1000) : n ≤ sizeLine := Nat.le_of_lt (small1000 h)
theorem okC_of_all {w : Str} (h : (w.cps.toList.all fun c => decide (c < 1114112)) = true) : okC w := fun c hc => of_decide_eq_true (List.all_eq_true.mp h c hc)
end Vk
namespace Vk
open PySem L2
def signsW : List Str := ["+", "-", "*", "div", "mod", "+", "-", "*", "div", "mod", "<", "<=", ">", ">=", "=", "!="]
def callsW : List Str := ["min", "max", "pick", "nth"]
namespace Ex
/-- over these names and arrays -/
def good (ns as : List Str) : Ex → Prop
  | num n => 0 ≤ n ∧ n ≤ 1000000000000
  | nam w => w ∈ ns
  | op s l r => s ∈ signsW ∧ l.good ns as ∧ r.good ns as
  | rd w l => w ∈ as ∧ l.good ns as
  | c1 w a => w = "nth" ∧ a.good ns as
  | c2 w a b => (w = "min" ∨ w = "max") ∧ a.good ns as ∧ b.good ns as
  | c3 w a b c => w = "pick" ∧ a.good ns as ∧ b.good ns as ∧ c.good ns as
def kids : Ex → List Ex
  | num _ => [] | nam _ => []
  | op _ l r => [l, r]
  | rd _ l => [l]
  | c1 _ a => [a]
  | c2 _ a b => [a, b]
  | c3 _ a b c => [a, b, c]
def AtAll (K : PySem.W.Frag) (H : Hp) : List Ex → List V → Prop
  | [], [] => True
  | e :: es, v :: vs => e.At K H v ∧ AtAll K H es vs
  | _, _ => False
theorem AtAll.tu {K : PySem.W.Frag} {H H' : Hp} (t : Tu K H H') : ∀ {es : List Ex} {vs : List V}, AtAll K H es vs → AtAll K H' es vs
  | [], [], _ => trivial
  | _ :: _, _ :: _, ⟨h, g⟩ => ⟨h.tu t, AtAll.tu t g⟩
  | [], _ :: _, h => h
  | _ :: _, [], h => h
theorem AtAll.app {K : PySem.W.Frag} {H : Hp} : ∀ {es fs : List Ex} {vs us : List V}, AtAll K H es vs → AtAll K H fs us → AtAll K H (es ++ fs) (vs ++ us)
  | [], _, [], _, _, g => g
  | _ :: _, _, _ :: _, _, ⟨h, r⟩, g => ⟨h, AtAll.app r g⟩
  | [], _, _ :: _, _, h, _ => h.elim
  | _ :: _, _, [], _, h, _ => h.elim
theorem AtAll.len {K : PySem.W.Frag} {H : Hp} : ∀ {es : List Ex} {vs : List V}, AtAll K H es vs → es.length = vs.length
  | [], [], _ => rfl
  | _ :: _, _ :: _, ⟨_, r⟩ => congrArg (· + 1) (AtAll.len r)
  | [], _ :: _, h => h.elim
  | _ :: _, [], h => h.elim
theorem AtAll.get {K : PySem.W.Frag} {H : Hp} : ∀ {es : List Ex} {vs : List V} {i : Nat} {v : V}, AtAll K H es vs → vs[i]? = some v → ∃ e, es[i]? = some e ∧ e.At K H v
  | [], [], i, _, _, e => by simp at e
  | f :: _, _ :: _, 0, _, ⟨h, _⟩, e => by cases e; exact ⟨f, rfl, h⟩
  | _ :: _, _ :: _, i + 1, _, ⟨_, r⟩, e => AtAll.get (i := i) r e
  | [], _ :: _, _, _, h, _ => h.elim
  | _ :: _, [], _, _, h, _ => h.elim
theorem AtAll.one {K : PySem.W.Frag} {H : Hp} : ∀ {e : Ex} {vs : List V}, AtAll K H [e] vs → ∃ v, vs = [v] ∧ e.At K H v
  | _, [v], ⟨h, _⟩ => ⟨v, rfl, h⟩
  | _, [], h => h.elim
  | _, _ :: _ :: _, ⟨_, h⟩ => h.elim
theorem AtAll.two {K : PySem.W.Frag} {H : Hp} : ∀ {e f : Ex} {vs : List V}, AtAll K H [e, f] vs → ∃ v u, vs = [v, u] ∧ e.At K H v ∧ f.At K H u
  | _, _, [v, u], ⟨h, g, _⟩ => ⟨v, u, rfl, h, g⟩
  | _, _, [], h => h.elim
  | _, _, [_], ⟨_, h⟩ => h.elim
  | _, _, _ :: _ :: _ :: _, ⟨_, _, h⟩ => h.elim
theorem AtAll.three {K : PySem.W.Frag} {H : Hp} : ∀ {e f g : Ex} {vs : List V}, AtAll K H [e, f, g] vs → ∃ v u t, vs = [v, u, t] ∧ e.At K H v ∧ f.At K H u ∧ g.At K H t
  | _, _, _, [v, u, t], ⟨h, g, r, _⟩ => ⟨v, u, t, rfl, h, g, r⟩
  | _, _, _, [], h => h.elim
  | _, _, _, [_], ⟨_, h⟩ => h.elim
  | _, _, _, [_, _], ⟨_, _, h⟩ => h.elim
  | _, _, _, _ :: _ :: _ :: _ :: _, ⟨_, _, _, h⟩ => h.elim
theorem dep1 : ∀ e : Ex, 1 ≤ e.dep
  | num _ => Nat.le_refl 1
  | nam _ => Nat.le_refl 1
  | op _ _ _ => Nat.succ_le_succ (Nat.zero_le _)
  | rd _ _ => Nat.succ_le_succ (Nat.zero_le _)
  | c1 _ _ => Nat.succ_le_succ (Nat.zero_le _)
  | c2 _ _ _ => Nat.succ_le_succ (Nat.zero_le _)
  | c3 _ _ _ _ => Nat.succ_le_succ (Nat.zero_le _)
theorem kids_dep : ∀ {e k : Ex}, k ∈ e.kids → k.dep + 1 ≤ e.dep
  | num _, _, h => by cases h
  | nam _, _, h => by cases h
  | op _ l r, k, h => by
    simp only [kids, List.mem_cons, List.not_mem_nil, or_false] at h
    show k.dep + 1 ≤ max l.dep r.dep + 1
    rcases h with rfl | rfl <;> omega
  | rd _ l, k, h => by
    simp only [kids, List.mem_cons, List.not_mem_nil, or_false] at h
    subst h; exact Nat.le_refl _
  | c1 _ l, k, h => by
    simp only [kids, List.mem_cons, List.not_mem_nil, or_false] at h
    subst h; exact Nat.le_refl _
  | c2 _ l r, k, h => by
    simp only [kids, List.mem_cons, List.not_mem_nil, or_false] at h
    show k.dep + 1 ≤ max l.dep r.dep + 1
    rcases h with rfl | rfl <;> omega
  | c3 _ l r q, k, h => by
    simp only [kids, List.mem_cons, List.not_mem_nil, or_false] at h
    show k.dep + 1 ≤ max l.dep (max r.dep q.dep) + 1
    rcases h with rfl | rfl | rfl <;> omega
theorem kids_good {ns as : List Str} : ∀ {e k : Ex}, k ∈ e.kids → e.good ns as → k.good ns as
  | num _, _, h, _ => by cases h
  | nam _, _, h, _ => by cases h
  | op _ l r, k, h, g => by
    simp only [kids, List.mem_cons, List.not_mem_nil, or_false] at h
    rcases h with rfl | rfl
    · exact g.2.1
    · exact g.2.2
  | rd _ l, k, h, g => by
    simp only [kids, List.mem_cons, List.not_mem_nil, or_false] at h
    subst h; exact g.2
  | c1 _ l, k, h, g => by
    simp only [kids, List.mem_cons, List.not_mem_nil, or_false] at h
    subst h; exact g.2
  | c2 _ l r, k, h, g => by
    simp only [kids, List.mem_cons, List.not_mem_nil, or_false] at h
    rcases h with rfl | rfl
    · exact g.2.1
    · exact g.2.2
  | c3 _ l r q, k, h, g => by
    simp only [kids, List.mem_cons, List.not_mem_nil, or_false] at h
    rcases h with rfl | rfl | rfl
    · exact g.2.1
    · exact g.2.2.1
    · exact g.2.2.2
/-- an expression and its parts -/
def subs : Ex → List Ex
  | num n => [num n] | nam w => [nam w]
  | op s l r => op s l r :: (l.subs ++ r.subs)
  | rd w l => rd w l :: l.subs
  | c1 w a => c1 w a :: a.subs
  | c2 w a b => c2 w a b :: (a.subs ++ b.subs)
  | c3 w a b c => c3 w a b c :: (a.subs ++ (b.subs ++ c.subs))
theorem subs_all {p : Ex → Prop} (hk : ∀ e k, k ∈ e.kids → p e → p k) : ∀ {e : Ex}, p e → ∀ f ∈ e.subs, p f
  | num n, h, f, hf => by rw [List.mem_singleton.mp hf]; exact h
  | nam n, h, f, hf => by rw [List.mem_singleton.mp hf]; exact h
  | op s l r, h, f, hf => by
    rcases List.mem_cons.mp hf with z | z
    · rw [z]; exact h
    rcases List.mem_append.mp z with z | z
    · exact subs_all hk (hk _ l (by simp [kids]) h) f z
    · exact subs_all hk (hk _ r (by simp [kids]) h) f z
  | rd s l, h, f, hf => by
    rcases List.mem_cons.mp hf with z | z
    · rw [z]; exact h
    · exact subs_all hk (hk _ l (by simp [kids]) h) f z
  | c1 s l, h, f, hf => by
    rcases List.mem_cons.mp hf with z | z
    · rw [z]; exact h
    · exact subs_all hk (hk _ l (by simp [kids]) h) f z
  | c2 s l r, h, f, hf => by
    rcases List.mem_cons.mp hf with z | z
    · rw [z]; exact h
    rcases List.mem_append.mp z with z | z
    · exact subs_all hk (hk _ l (by simp [kids]) h) f z
    · exact subs_all hk (hk _ r (by simp [kids]) h) f z
  | c3 s l r q, h, f, hf => by
    rcases List.mem_cons.mp hf with z | z
    · rw [z]; exact h
    rcases List.mem_append.mp z with z | z
    · exact subs_all hk (hk _ l (by simp [kids]) h) f z
    rcases List.mem_append.mp z with z | z
    · exact subs_all hk (hk _ r (by simp [kids]) h) f z
    · exact subs_all hk (hk _ q (by simp [kids]) h) f z
theorem subs_len : ∀ e : Ex, e.subs.length ≤ 4 ^ e.dep
  | num _ => by show 1 ≤ 4 ^ 1; decide
  | nam _ => by show 1 ≤ 4 ^ 1; decide
  | op s l r => by
    have h1 := subs_len l; have h2 := subs_len r
    show (l.subs ++ r.subs).length + 1 ≤ 4 ^ (max l.dep r.dep + 1)
    rw [List.length_append, Nat.pow_succ]
    have m1 : 4 ^ l.dep ≤ 4 ^ max l.dep r.dep := Nat.pow_le_pow_right (by decide) (Nat.le_max_left _ _)
    have m2 : 4 ^ r.dep ≤ 4 ^ max l.dep r.dep := Nat.pow_le_pow_right (by decide) (Nat.le_max_right _ _)
    have m3 : 1 ≤ 4 ^ max l.dep r.dep := Nat.one_le_pow _ _ (by decide)
    omega
  | rd s l => by
    have h1 := subs_len l
    show l.subs.length + 1 ≤ 4 ^ (l.dep + 1)
    rw [Nat.pow_succ]
    have m3 : 1 ≤ 4 ^ l.dep := Nat.one_le_pow _ _ (by decide)
    omega
  | c1 s l => by
    have h1 := subs_len l
    show l.subs.length + 1 ≤ 4 ^ (l.dep + 1)
    rw [Nat.pow_succ]
    have m3 : 1 ≤ 4 ^ l.dep := Nat.one_le_pow _ _ (by decide)
    omega
  | c2 s l r => by
    have h1 := subs_len l; have h2 := subs_len r
    show (l.subs ++ r.subs).length + 1 ≤ 4 ^ (max l.dep r.dep + 1)
    rw [List.length_append, Nat.pow_succ]
    have m1 : 4 ^ l.dep ≤ 4 ^ max l.dep r.dep := Nat.pow_le_pow_right (by decide) (Nat.le_max_left _ _)
    have m2 : 4 ^ r.dep ≤ 4 ^ max l.dep r.dep := Nat.pow_le_pow_right (by decide) (Nat.le_max_right _ _)
    have m3 : 1 ≤ 4 ^ max l.dep r.dep := Nat.one_le_pow _ _ (by decide)
    omega
  | c3 s l r q => by
    have h1 := subs_len l; have h2 := subs_len r; have h3 := subs_len q
    show (l.subs ++ (r.subs ++ q.subs)).length + 1 ≤ 4 ^ (max l.dep (max r.dep q.dep) + 1)
    rw [List.length_append, List.length_append, Nat.pow_succ]
    have m1 : 4 ^ l.dep ≤ 4 ^ max l.dep (max r.dep q.dep) := Nat.pow_le_pow_right (by decide) (by omega)
    have m2 : 4 ^ r.dep ≤ 4 ^ max l.dep (max r.dep q.dep) := Nat.pow_le_pow_right (by decide) (by omega)
    have m4 : 4 ^ q.dep ≤ 4 ^ max l.dep (max r.dep q.dep) := Nat.pow_le_pow_right (by decide) (by omega)
    have m3 : 1 ≤ 4 ^ max l.dep (max r.dep q.dep) := Nat.one_le_pow _ _ (by decide)
    omega
end Ex
/-- a list of one int -/
def Rm (H : Hp) (b : Addr) : Prop := ∃ n : Int, H b = some (.lst [.int n])
theorem Fd.ne_rm {H : Hp} {a b : Addr} (h : Fd H a) (g : Rm H b) : a ≠ b := by
  obtain ⟨x, y, z, e⟩ := h
  obtain ⟨n, e'⟩ := g
  exact ne_of e e' (by intro z; cases z)
theorem Rm.same {H H' : Hp} {b : Addr} (h : Rm H b) (s : Same H H') : Rm H' b := by
  obtain ⟨n, e⟩ := h
  exact ⟨n, s _ _ e⟩
/-- all but the lists at a and b is as it was -/
def St2 (a b : Addr) (H H' : Hp) : Prop := (∀ x o, x ≠ a → x ≠ b → H x = some o → H' x = some o) ∧ Fd H' a ∧ Rm H' b
theorem St2.refl {a b : Addr} {H : Hp} (h : Fd H a) (g : Rm H b) : St2 a b H H := ⟨fun _ _ _ _ q => q, h, g⟩
theorem St2.trans {a b : Addr} {H H1 H2 : Hp} (h : St2 a b H H1) (g : St2 a b H1 H2) : St2 a b H H2 := ⟨fun x o n m q => g.1 x o n m (h.1 x o n m q), g.2⟩
theorem St2.same {a b : Addr} {H H1 H2 : Hp} (h : St2 a b H H1) (s : Same H1 H2) : St2 a b H H2 := ⟨fun x o n m q => s _ _ (h.1 x o n m q), h.2.1.same s, h.2.2.same s⟩
theorem St2.stp {a b : Addr} {H H1 H2 : Hp} (h : St2 a b H H1) (s : Stp a H1 H2) : St2 a b H H2 := by
  refine ⟨fun x o n m q => s.1 x o n (h.1 x o n m q), s.2, ?_⟩
  have ne := h.2.1.ne_rm h.2.2
  obtain ⟨n, e⟩ := h.2.2
  exact ⟨n, s.1 _ _ ne.symm e⟩
theorem St2.tu {K : PySem.W.Frag} {a b : Addr} {H H' : Hp} (s : St2 a b H H') (h : Fd H a) (g : Rm H b) : Tu K H H' := fun c xs q => by
  obtain ⟨x, y, z, e⟩ := h
  obtain ⟨n, e'⟩ := g
  rcases q with (q | ⟨o, q⟩) | q
  · exact .inl (.inl (s.1 _ _ (ne_of q e (by intro z; cases z)) (ne_of q e' (by intro z; cases z)) q))
  · exact .inl (.inr ⟨o, s.1 _ _ (ne_of q e (by intro z; cases z)) (ne_of q e' (by intro z; cases z)) q⟩)
  · exact .inr q
/-- a list of texts, none of them lacking -/
structure Ws (H : Hp) (c : Addr) (ws : List Str) : Prop where
  at' : H c = some (.lst (ws.map V.str))
  pos : 0 < ws.length
  sz : ws.length ≤ 100
theorem Ws.ne_fd {H : Hp} {a c : Addr} {ws : List Str} (h : Ws H c ws) (g : Fd H a) : c ≠ a := by
  obtain ⟨x, y, z, e⟩ := g
  refine ne_of h.at' e ?_
  intro q
  have h0 := h.pos
  cases ws with
  | nil => exact absurd h0 (Nat.lt_irrefl 0)
  | cons w r => cases q
theorem Ws.ne_rm {H : Hp} {b c : Addr} {ws : List Str} (h : Ws H c ws) (g : Rm H b) : c ≠ b := by
  obtain ⟨n, e⟩ := g
  refine ne_of h.at' e ?_
  intro q
  have h0 := h.pos
  cases ws with
  | nil => exact absurd h0 (Nat.lt_irrefl 0)
  | cons w r => cases q
theorem Ws.stp {H H' : Hp} {a c : Addr} {ws : List Str} (h : Ws H c ws) (g : Fd H a) (s : Stp a H H') : Ws H' c ws := ⟨s.1 _ _ (h.ne_fd g) h.at', h.pos, h.sz⟩
theorem Ws.st2 {H H' : Hp} {a b c : Addr} {ws : List Str} (h : Ws H c ws) (g : Fd H a) (r : Rm H b) (s : St2 a b H H') : Ws H' c ws := ⟨s.1 _ _ (h.ne_fd g) (h.ne_rm r) h.at', h.pos, h.sz⟩
theorem Ws.same {H H' : Hp} {c : Addr} {ws : List Str} (h : Ws H c ws) (s : Same H H') : Ws H' c ws := ⟨s _ _ h.at', h.pos, h.sz⟩
end Vk
/-! enumerate over a tuple -/
namespace Vk
open PySem PySem.Spec PyProof.Rows L2
section
open Sem (wp)
open AutoSeq1 (wpAny_loadPart')
abbrev tiObj (l : Addr) : Obj := { cls := .type "tuple_iterator", data := .fields #[.ref l, .int 0 0] }
theorem enum_new_tup (l : Addr) (items : Array Value) (n : Nat) (dct : Option Addr) (sl : Array (Option Value)) :
    Meets (Builtin.«enumerate.__new__» ⟨[.type "enumerate", .ref l], []⟩) (fun _ R s => s.heap.get? l = some { cls := .type "tuple", dict := dct, data := .seq items n, slots := sl } ∧
      R (.ok (.ret (.ref (s.heap.push (tiObj l)).objs.size)))
        { s with heap := (s.heap.push (tiObj l)).push { cls := .type "enumerate", data := .fields #[.none, .bool false, .ref s.heap.objs.size, rawInt 0, .none, .none] } }) :=
  .of_wp fun prog w A R s h => by
    obtain ⟨hp, g, d, tk, os⟩ := s; obtain ⟨hl, h⟩ := h
    have hsub := sub_enumerate
    have hL : Heap.IsTuple (Shared.heap ⟨hp, g, d, tk, os⟩) l items := ⟨_, hl, rfl, n, rfl⟩
    wp_walk using wpAny_loadPart' hl
    refine wpAny_stack_any fun st => wpAny_pure ?_
    split
    · rename_i c _ _ _ _ _
      cases (c == Value.type "enumerate")
      · wp_walk using wpAny_loadPart' hl, wpAny_pyIter_tuple hL
        exact ⟨_, rfl, h⟩
      · wp_walk using wpAny_loadPart' hl, wpAny_pyIter_tuple hL
        exact ⟨_, rfl, h⟩
    · wp_walk using wpAny_loadPart' hl, wpAny_pyIter_tuple hL
      exact ⟨_, rfl, h⟩
end
section
variable {prog : Program} {w : World} {A : Around} {E : Value → Shared → Prop} {s : Shared}
theorem enum_tup {l : Addr} {items : Array Value} {Q : Value → Shared → Prop} (hL : s.heap.IsTuple l items)
    (h : ∀ h', IsEnum h' (s.heap.objs.size + 1) s.heap.objs.size 0 .none → h'.IsTupleIter s.heap.objs.size l 0 → (∀ b o, s.heap.get? b = some o → h'.get? b = some o) → Q (.ref (s.heap.objs.size + 1)) { s with heap := h' }) :
    wpAny (model prog w) A (call (.type "enumerate") [.ref l]) Q E s := by
  obtain ⟨⟨c, dct, dt, sl⟩, hl, hc, n, hd⟩ := hL
  replace hc : c = .type "tuple" := hc
  replace hd : dt = .seq items n := hd
  subst hc hd
  refine callType_new F.called_enumerate (by decide) (F.typeCall_enumerate_1 _) (F.newCall_enumerate_1 _) (fun obj => F.args_object_init_2 obj _) F.entry_enumerate_new
    (enum_new_tup l items n dct sl) ⟨hl, ?_⟩
  have hz : (s.heap.push (tiObj l)).objs.size = s.heap.objs.size + 1 := Heap.size_push ..
  show _ ∧ _
  rw [hz]
  have he : IsEnum ((s.heap.push (tiObj l)).push { cls := .type "enumerate", data := .fields #[.none, .bool false, .ref s.heap.objs.size, rawInt 0, .none, .none] }) (s.heap.objs.size + 1) s.heap.objs.size 0 .none := by
    have := Heap.get?_push_size (s.heap.push (tiObj l)) (o := { cls := .type "enumerate", data := .fields #[.none, .bool false, .ref s.heap.objs.size, rawInt 0, .none, .none] }) rfl
    rw [hz] at this; exact this
  exact ⟨⟨_, he, rfl⟩, h _ he ⟨_, Heap.get?_push_of_some _ (Heap.get?_push_size _ rfl), rfl, rfl⟩ fun b o x => Heap.get?_push_of_some _ (Heap.get?_push_of_some _ x)⟩
end
theorem enum_end_tup {prog : Program} {w : World} {A : Around} {E : Value → Shared → Prop} {s : Shared} {e it l : Addr} {i : Nat} {items : Array Value} {old : Value} {Q : Option Value → Shared → Prop} (hh : A.handled = none)
    (he : IsEnum s.heap e it i old) (hit : s.heap.IsTupleIter it l i) (hl : s.heap.IsTuple l items) (hx : items[i]? = none)
    (hQ : ∀ h', Heap.ExtBut it s.heap h' → Q none { s with heap := h' }) : wpAny (model prog w) A (pyNext (.ref e)) Q E s := by
  have hT : s.TypeIs (.ref e) "enumerate" := ⟨_, he, rfl⟩
  unfold pyNext
  refine wpAny_bind (wpAny_attempt (wpAny_callSpecial?_slot (name := Str.ofString "__next__") hT F.slot_enumerate_next
    (wpAny_call_entry F.slot_enumerate_next hT F.entry_enumerate_next ?_ (F.args_enumerate_next_1 _))))
  show wpAny _ _ (field (.ref e) 2 >>= _) _ _ _
  refine wpAny_bind (wpAny_field he rfl (x := .ref it) rfl ?_)
  refine wpAny_bind (wpAny_nextOf_tuple_end hh hit hl hx fun h' x he' hx' => ?_)
  obtain ⟨o, ho, hc⟩ := hx'
  refine wpAny_bind (wpAny_isInstance (T := "StopIteration") (b := true) ⟨o, ho, hc⟩ isSubtype_stop ?_)
  exact wpAny_pure (hQ _ he')
/-- the tuple at a, each item in a new pair -/
def IteT (K : PySem.W.Frag) (a : Addr) : It :=
  ⟨fun i H => ∃ (xs : List V) (x : V), SqT K H a xs ∧ xs[i]? = some x, fun i H v H' => ∃ T x, v = .ref T ∧ H T = none ∧ H' = upd H T (.tup [.int (i : Nat), x]) ∧ ∀ xs, SqT K H a xs → xs[i]? = some x, fun i H => ∃ xs : List V, SqT K H a xs ∧ xs.length ≤ i⟩
theorem turn_enumT {P : Program} {w : World} {K : PySem.W.Frag} {elts : List Expr} {kk : Nat} {tpos : Pos} (a e it : Addr) :
    Turn P w K (.Tuple elts kk tpos) (IteT K a) [e, it] e (fun i h => (∃ old, IsEnum h e it ((i : Nat) : Int) old) ∧ h.IsTupleIter it a i ∧ e ≠ it) where
  mem := by simp
  obj := fun i h st b hb => by
    obtain ⟨⟨old, he⟩, ⟨o, ho, hc, hd⟩, _⟩ := st
    have e' : b = e ∨ b = it := by simpa using hb
    rcases e' with z | z
    · rw [z]; exact ⟨_, he, fun v q => nomatch q⟩
    · rw [z]; exact ⟨o, ho, fun v q => by rw [hd] at q; cases q⟩
  keep := fun i h h' st k => let ⟨⟨old, he⟩, hi, hne⟩ := st; ⟨⟨old, k e (by simp) _ he⟩, hi.at fun o q => k it (by simp) o q, hne⟩
  item := by
    intro X hP hw hK hc i pins s σ H E I hf st hg
    subst hP hw hK
    obtain ⟨⟨old, he⟩, hit, hne⟩ := st
    obtain ⟨xs, x, hq, hx⟩ := hg
    obtain ⟨its, rv, p, hz⟩ := I.tuple hq
    obtain ⟨u, hu, ru⟩ := rv.get hx
    have pt : s.heap.IsTuple a its.toArray := p
    have hel : e < s.heap.objs.size := Heap.lt_size he
    have hil : it < s.heap.objs.size := by obtain ⟨_, q, _⟩ := hit; exact Heap.lt_size q
    have nai : a ≠ it := by
      intro z
      obtain ⟨o1, h1, c1, _⟩ := pt
      obtain ⟨o2, h2, c2, _⟩ := hit
      rw [z, h2] at h1
      cases h1
      rw [c1] at c2
      exact absurd c2 (by intro z; injection z with z; exact absurd z (by decide))
    have nae : e ≠ a := by
      intro z
      obtain ⟨o1, h1, c1, _⟩ := pt
      rw [← z, he] at h1
      cases h1
      exact absurd c1 (by intro z; injection z with z; exact absurd z (by decide))
    have lt : i < its.toArray.size := by
      rw [List.size_toArray]
      exact (List.getElem?_eq_some_iff.mp hu).1
    refine wpAny_pyNext_enum_itemD (Draws.tuple (A := X.A.in1) (show X.A.in1.handled = none from I.ok.hd hc) it a nai its.toArray) he ⟨hit, pt⟩ lt hne (by simp [hne, nae]) fun u' h' tk hP ho st' hT hsz hk => ?_
    have eu : u' = u := by
      have : its.toArray[i]? = some u' := hP
      rw [List.getElem?_toArray, hu] at this
      exact (Option.some.inj this).symm
    subst eu
    refine ⟨_, rfl, wpAny_letOwnedTupleGo_enum (s := { s with heap := h', toks := tk + 1 }) ho fun h'' he' sb => ?_⟩
    have hT2 : h''.get? s.heap.objs.size = some { cls := .type "tuple", data := .seq #[.int i tk, u'] } := (sb.2 _ (Nat.ne_of_gt hel)).trans hT
    have new : ObjOk X.prog X.w (upd H s.heap.objs.size (.tup [.int (i : Nat), x])) h'' s.heap.objs.size (.tup [.int (i : Nat), x]) :=
      ⟨by show 2 ≤ sizeLine; decide, [.int i tk, u'], .cons ⟨_, rfl⟩ (.cons ru .nil), ⟨_, hT2, rfl, _, rfl⟩⟩
    have I1 : Inv X pins σ (upd H s.heap.objs.size (.tup [.int (i : Nat), x])) { s with heap := h'', toks := tk + 1 } :=
      I.turnedNew (ch := [e, it]) (fun b ob hb q => (sb.2 b (fun z => hb (by simp [z]))).trans (hk b ob (fun z => hb (by simp [z])) (fun z => hb (by simp [z])) q)) hf (Nat.le_refl _) new
    refine ⟨.ref s.heap.objs.size, _, I1, rfl, ⟨_, x, rfl, I.hok.fresh (Nat.le_refl _), rfl, fun ys hy => by rw [I.tuple_inj hy hq]; exact hx⟩, ⟨⟨u', ?_⟩, st'.1.at fun o q => (sb.2 it (Ne.symm hne)).trans q, hne⟩, fun b hb => ?_⟩
    · have e1 : ((i + 1 : Nat) : Int) = (i : Int) + 1 := by omega
      rw [e1]; exact he'
    · have hb' : b < s.heap.objs.size := by
        have e' : b = e ∨ b = it := by simpa using hb
        rcases e' with z | z
        · rw [z]; exact hel
        · rw [z]; exact hil
      rw [upd_ne (Nat.ne_of_lt hb')]
      exact (hf b hb).1
  done := by
    intro X hP hw hK hc i pins s σ H E I hf st hg
    subst hP hw hK
    obtain ⟨⟨old, he⟩, hit, hne⟩ := st
    obtain ⟨xs, hq, hx⟩ := hg
    obtain ⟨its, rv, p, hz⟩ := I.tuple hq
    obtain ⟨f0, f1, f2, f3, f4, f5⟩ := hf it (by simp)
    have hl := rv.length
    exact enum_end_tup (I.ok.hd hc) he hit (show s.heap.IsTuple a its.toArray from p) (by simp; omega) fun h' eb => ⟨rfl, I.turned (t' := s.toks) (fun b o hb q => eb b o hb q) f0 f1 f3 f4 f5⟩
  self := fun A i s Q E st h => let ⟨⟨_, he⟩, _⟩ := st; wpAny_pyIter_enum he h
/-- enumerate of a list or a tuple -/
def iEnumS (K : PySem.W.Frag) (ta : TA) : TI := fun σ H R => ta σ H fun vs H1 => ∃ a xs, vs = [.ref a] ∧ ((SqL K H1 a xs ∧ R (Ite K a) H1) ∨ (SqT K H1 a xs ∧ R (IteT K a) H1))
theorem pi_enumS {X : Cx} {e : Expr} {ta : TA} {p pos tpos : Pos} {elts : List Expr} {kk : Nat} (hg : Gl X "enumerate") (hm : X.mg "enumerate" = none) (ha : PA X [e] ta) (hs : starEach [e] X.env = [(false, eval e X.env)] := by rfl) :
    PI X (.Tuple elts kk tpos) (.Call (.Name "enumerate" p) [e] [] pos) (iEnumS X.K ta) := by
  refine ⟨fun pins s σ H R I h => ?_⟩
  refine Call_ (ld_blt I hg hm boot_enumerate (PyProof.Rows.callWith_type1 (thn (ha.run pos pins s σ H _ I h) fun us s1 ⟨vs, H1, I1, r1, q1⟩ => ?_) hs rfl))
  obtain ⟨a, xs, ex, q⟩ := q1
  subst ex
  cases r1 with
  | cons r rr =>
    cases rr
    cases r
    have fin : ∀ {J : It} {st : Nat → Heap → Prop} {h' : Heap}, Turn X.prog X.w X.K (.Tuple elts kk tpos) J [s1.heap.objs.size + 1, s1.heap.objs.size] (s1.heap.objs.size + 1) st → st 0 h' → IsEnum h' (s1.heap.objs.size + 1) s1.heap.objs.size 0 .none → (∀ b o, s1.heap.get? b = some o → h'.get? b = some o) → R J H1 →
        PIE X pins σ (.Tuple elts kk tpos) R (.ref (s1.heap.objs.size + 1)) { s1 with heap := h' } := fun {J st h'} T s0 he hk qq => by
      have I2 : Inv X pins σ H1 { s1 with heap := h' } := I1.kept (t' := s1.toks) hk
      refine ⟨s1.heap.objs.size + 1, [s1.heap.objs.size + 1, s1.heap.objs.size], _, _, H1, rfl, I2, T, s0, fun b hb => ?_, qq⟩
      have e' : b = s1.heap.objs.size + 1 ∨ b = s1.heap.objs.size := by simpa using hb
      have hle : s1.heap.objs.size ≤ b := by
        rcases e' with z | z
        · rw [z]; exact Nat.le_add_right _ _
        · rw [z]; exact Nat.le_refl _
      exact I1.fpOk hle (I1.hok.fresh hle)
    rcases q with ⟨hq, q⟩ | ⟨hq, q⟩
    · obtain ⟨its, rv, p', hz⟩ := I1.list hq
      exact call_enumerate_list p'.isList fun h' he hit hsz hk => wpAny_pyIter_enum he (fin (turn_enum a (s1.heap.objs.size + 1) s1.heap.objs.size) ⟨⟨.none, he⟩, hit, Nat.succ_ne_self _⟩ he hk q)
    · obtain ⟨its, rv, p', hz⟩ := I1.tuple hq
      exact enum_tup (show s1.heap.IsTuple a its.toArray from p') fun h' he hit hk => wpAny_pyIter_enum he (fin (turn_enumT a (s1.heap.objs.size + 1) s1.heap.objs.size) ⟨⟨.none, he⟩, hit, Nat.succ_ne_self _⟩ he hk q)
theorem walk_enumT {K : PySem.W.Frag} {a : Addr} {xs : List V} : Walk (IteT K a) xs.length (fun H => SqT K H a xs) (YPair (fun i => some (.int (i : Nat))) (fun i => xs[i]?)) := by
  refine ⟨fun i _ hi q => ⟨xs, xs[i], q, by simp [hi]⟩, fun _ q => ⟨xs, q, Nat.le_refl _⟩, fun i H v H' _ q y => ?_⟩
  obtain ⟨T, x, h1, h2, h3, h4⟩ := y
  exact ⟨T, .int (i : Nat), x, h1, h2, h3, rfl, h4 xs q⟩
end Vk
namespace Vk
open PySem L2
def clipI (n : Int) : Int := if (if n < 1000000000000 then n else 1000000000000) > -1000000000000 then (if n < 1000000000000 then n else 1000000000000) else -1000000000000
theorem clip_in {n : Int} : -1000000000000 ≤ clipI n ∧ clipI n ≤ 1000000000000 := by
  unfold clipI
  constructor <;> (split <;> split at * <;> omega)
def Lim (n : Int) : Prop := -1000000000000 ≤ n ∧ n ≤ 1000000000000
theorem clip_lim {n : Int} : Lim (clipI n) := clip_in
def b2n (b : Bool) : Int := if b then 1 else 0
/-- the value of a sign -/
def sgnV (s : Str) (l r : Int) : Int :=
  if s = "+" then clipI (l + r) else if s = "-" then clipI (l - r) else if s = "*" then clipI (l * r)
  else if s = "div" then (if r = 0 then 0 else l.fdiv r) else if s = "mod" then (if r = 0 then 0 else l - r * l.fdiv r)
  else if s = "<" then b2n (decide (l < r)) else if s = "<=" then b2n (decide (l ≤ r)) else if s = ">" then b2n (decide (r < l)) else if s = ">=" then b2n (decide (r ≤ l))
  else if s = "=" then b2n (decide (l = r)) else b2n (!decide (l = r))
theorem b2n_lim {b : Bool} : Lim (b2n b) := by
  unfold b2n Lim
  split <;> decide
theorem fdiv_pos {l r : Int} (h : -1000000000000 ≤ l ∧ l ≤ 1000000000000) (hr : 0 < r) : -1000000000000 ≤ l.fdiv r ∧ l.fdiv r ≤ 1000000000000 := by
  have h1 := Int.mul_fdiv_add_fmod l r
  have h2 := Int.fmod_nonneg_of_pos l hr
  have h3 := Int.fmod_lt_of_pos l hr
  generalize l.fdiv r = q at *
  constructor
  · refine Int.not_lt.mp fun c => ?_
    have m : (-(q + 1)) * 1 ≤ (-(q + 1)) * r := Int.mul_le_mul_of_nonneg_left (by omega) (by omega)
    have e : (-(q + 1)) * r = -(r * q) - r := by rw [Int.neg_mul, Int.add_mul, Int.mul_comm q r]; omega
    omega
  · refine Int.not_lt.mp fun c => ?_
    have m : q * 1 ≤ q * r := Int.mul_le_mul_of_nonneg_left (by omega) (by omega)
    rw [Int.mul_comm q r] at m
    omega
theorem fdiv_lim {l r : Int} (h : Lim l) (hr : ¬ r = 0) : Lim (l.fdiv r) := by
  unfold Lim at *
  by_cases p : 0 < r
  · exact fdiv_pos h p
  · have e : (-l).fdiv (-r) = l.fdiv r := Int.neg_fdiv_neg _ _
    rw [← e]
    exact fdiv_pos (by omega) (by omega)
theorem fmod_lim {l r : Int} (h : Lim r) (hr : ¬ r = 0) : Lim (l - r * l.fdiv r) := by
  unfold Lim at *
  rw [← Int.fmod_def]
  by_cases p : 0 < r
  · have h2 := Int.fmod_nonneg_of_pos l p
    have h3 := Int.fmod_lt_of_pos l p
    omega
  · have e : (-l).fmod (-r) = -(l.fmod r) := Int.neg_fmod_neg _ _
    have h2 := Int.fmod_nonneg_of_pos (-l) (b := -r) (by omega)
    have h3 := Int.fmod_lt_of_pos (-l) (b := -r) (by omega)
    omega
theorem sgn_lim {s : Str} {l r : Int} (hl : Lim l) (hr : Lim r) : Lim (sgnV s l r) := by
  unfold sgnV
  repeat' split
  all_goals first | exact clip_lim | exact b2n_lim | exact (by unfold Lim; decide) | exact fdiv_lim hl (by assumption) | exact fmod_lim hr (by assumption)
def cellAt (xs : List Int) (i : Int) : Int := if 0 ≤ i ∧ i < xs.length then xs.getD i.toNat 0 else 0
/-- the places of the zeros -/
def zerosN (k : Nat) : List Int → List Int
  | [] => []
  | x :: r => if x = 0 then (k : Int) :: zerosN (k + 1) r else zerosN (k + 1) r
def nthZ (xs : List Int) (n : Int) : Int := if 0 ≤ n ∧ n < (zerosN 0 xs).length then (zerosN 0 xs).getD n.toNat 0 else -1
def valE (nm : Str → Int) (ar : Str → List Int) : Ex → Int
  | .num n => n
  | .nam w => nm w
  | .op s l r => sgnV s (valE nm ar l) (valE nm ar r)
  | .rd w l => cellAt (ar w) (valE nm ar l)
  | .c1 _ a => nthZ (ar "place") (valE nm ar a)
  | .c2 w a b => if w = "min" then (if valE nm ar b < valE nm ar a then valE nm ar b else valE nm ar a) else (if valE nm ar b > valE nm ar a then valE nm ar b else valE nm ar a)
  | .c3 _ a b c => if valE nm ar a = 0 then valE nm ar c else valE nm ar b
theorem zeros_bd : ∀ (k : Nat) (xs : List Int), ∀ z ∈ zerosN k xs, 0 ≤ z ∧ z < (k + xs.length : Nat)
  | k, [], z, h => by cases h
  | k, x :: r, z, h => by
    unfold zerosN at h
    have ih := zeros_bd (k + 1) r z
    split at h
    · rcases List.mem_cons.mp h with e | e
      · subst e
        simp only [List.length_cons]
        omega
      · have := ih e
        simp only [List.length_cons]
        omega
    · have := ih h
      simp only [List.length_cons]
      omega
theorem zeros_len : ∀ (k : Nat) (xs : List Int), (zerosN k xs).length ≤ xs.length
  | k, [] => Nat.le_refl 0
  | k, x :: r => by
    unfold zerosN
    have ih := zeros_len (k + 1) r
    split
    · simp only [List.length_cons]; omega
    · simp only [List.length_cons]; omega
theorem zeros_cons (k : Nat) (x : Int) (r : List Int) : zerosN k (x :: r) = if x = 0 then (k : Int) :: zerosN (k + 1) r else zerosN (k + 1) r := rfl
theorem zeros_app : ∀ (k : Nat) (xs ys : List Int), zerosN k (xs ++ ys) = zerosN k xs ++ zerosN (k + xs.length) ys
  | k, [], ys => by simp [zerosN]
  | k, x :: r, ys => by
    have ih := zeros_app (k + 1) r ys
    have e : k + 1 + r.length = k + (x :: r).length := by simp only [List.length_cons]; omega
    rw [e] at ih
    rw [List.cons_append, zeros_cons, zeros_cons]
    split
    · rw [ih, List.cons_append]
    · exact ih
/-- one turn -/
theorem zeros_step {xs : List Int} {i : Nat} {x : Int} (h : xs[i]? = some x) : zerosN 0 (xs.take (i + 1)) = zerosN 0 (xs.take i) ++ (if x = 0 then [(i : Int)] else []) := by
  have hl : i < xs.length := (List.getElem?_eq_some_iff.mp h).1
  rw [List.take_add_one, h, zeros_app, List.length_take, Nat.min_eq_left (Nat.le_of_lt hl)]
  show _ ++ zerosN (0 + i) [x] = _
  rw [zeros_cons, Nat.zero_add]
  split <;> rfl
theorem getD_mem {xs : List Int} {i : Nat} (h : i < xs.length) : xs.getD i 0 ∈ xs := by
  rw [List.getD_eq_getElem?_getD, List.getElem?_eq_getElem h]
  exact List.getElem_mem h
theorem atI_int {xs : List Int} {i : Int} (h0 : 0 ≤ i) (h : i < xs.length) : atI (xs.map V.int) i = some (.int (xs.getD i.toNat 0)) := by
  have hk : i.toNat < xs.length := by omega
  have ek : ((i.toNat : Nat) : Int) = i := by omega
  have q : atI (xs.map V.int) ((i.toNat : Nat) : Int) = some (.int (xs.getD i.toNat 0)) := by
    refine atI_nat ?_
    rw [List.getElem?_map, List.getD_eq_getElem?_getD, List.getElem?_eq_getElem hk]
    rfl
  rwa [ek] at q
theorem zero_lim : Lim 0 := ⟨by decide, by decide⟩
/-- the memories that stand within the limit -/
theorem val_lim {nm : Str → Int} {ar : Str → List Int} {ns as : List Str} (hn : ∀ w ∈ ns, Lim (nm w)) (ha : ∀ w ∈ as, ∀ x ∈ ar w, Lim x) (hp : (ar "place").length ≤ 1000) : ∀ e : Ex, e.good ns as → Lim (valE nm ar e)
  | .num n, g => ⟨by have := g.1; show -1000000000000 ≤ n; omega, g.2⟩
  | .nam w, g => hn w g
  | .op s l r, g => sgn_lim (val_lim hn ha hp l g.2.1) (val_lim hn ha hp r g.2.2)
  | .rd w l, g => by
    show Lim (cellAt _ _)
    unfold cellAt
    split
    · rename_i h
      exact ha w g.1 _ (getD_mem (by omega))
    · exact ⟨by decide, by decide⟩
  | .c1 w a, g => by
    show Lim (nthZ _ _)
    unfold nthZ
    split
    · rename_i h
      have m : (zerosN 0 (ar "place")).getD (valE nm ar a).toNat 0 ∈ zerosN 0 (ar "place") := getD_mem (by omega)
      have b := zeros_bd 0 (ar "place") _ m
      unfold Lim
      omega
    · exact ⟨by decide, by decide⟩
  | .c2 w a b, g => by
    have h1 := val_lim hn ha hp a g.2.1
    have h2 := val_lim hn ha hp b g.2.2
    show Lim (if w = "min" then (if _ < _ then _ else _) else (if _ > _ then _ else _))
    repeat' split
    all_goals assumption
  | .c3 w a b c, g => by
    have h1 := val_lim hn ha hp b g.2.2.1
    have h2 := val_lim hn ha hp c g.2.2.2
    show Lim (if _ = (0 : Int) then _ else _)
    split
    · exact h2
    · exact h1
section
open PyProof.Rows
/-- // by a number within the limit -/
def CDv (_ j : Int) : Prop := j ≠ 0 ∧ Lim j
theorem op_fdivL {X : Cx} : OpR X (binaryOp .FloorDiv) (rI CDv fun i j => .int (i.fdiv j)) := opI fun i j _ _ _ _ _ hc q =>
  floordiv_int hc.1 q (.inl (PyProof.noPylong_of_log2 (Nat.lt_of_lt_of_le (PySem.Flt.log2_lt_of (show 0 < 40 by decide) (show j.natAbs < 2 ^ 40 by have h := hc.2; unfold Lim at h; omega)) (by decide))))
end
/-- no nth in it -/
def Ex.flat : Ex → Prop
  | .num _ => True | .nam _ => True
  | .op _ l r => l.flat ∧ r.flat
  | .rd _ l => l.flat
  | .c1 _ _ => False
  | .c2 _ a b => a.flat ∧ b.flat
  | .c3 _ a b c => a.flat ∧ b.flat ∧ c.flat
theorem Ex.kids_flat : ∀ {e k : Ex}, k ∈ e.kids → e.flat → k.flat
  | .num _, _, h, _ => by cases h
  | .nam _, _, h, _ => by cases h
  | .op _ l r, k, h, g => by
    simp only [Ex.kids, List.mem_cons, List.not_mem_nil, or_false] at h
    rcases h with rfl | rfl
    · exact g.1
    · exact g.2
  | .rd _ l, k, h, g => by
    simp only [Ex.kids, List.mem_cons, List.not_mem_nil, or_false] at h
    subst h; exact g
  | .c1 _ l, k, h, g => g.elim
  | .c2 _ l r, k, h, g => by
    simp only [Ex.kids, List.mem_cons, List.not_mem_nil, or_false] at h
    rcases h with rfl | rfl
    · exact g.1
    · exact g.2
  | .c3 _ l r q, k, h, g => by
    simp only [Ex.kids, List.mem_cons, List.not_mem_nil, or_false] at h
    rcases h with rfl | rfl | rfl
    · exact g.1
    · exact g.2.1
    · exact g.2.2
/-- a list or a tuple of these numbers -/
def SqI (K : PySem.W.Frag) (H : Hp) (p : Addr) (xs : List Int) : Prop := SqL K H p (xs.map V.int) ∨ SqT K H p (xs.map V.int)
theorem SqI.same {K : PySem.W.Frag} {H H' : Hp} {p : Addr} {xs : List Int} (h : SqI K H p xs) (s : Same H H') : SqI K H' p xs := by
  rcases h with h | h
  · exact .inl (s.seq h)
  · exact .inr (Vk.Same.tup s h)
/-- two dicts that hold these numbers and rows -/
structure Mem (K : PySem.W.Frag) (H : Hp) (dn da : Addr) (nm : Str → Int) (ar : Str → List Int) (ns as : List Str) : Prop where
  dn : ∃ kn, H dn = some (.dK kn) ∧ ∀ w ∈ ns, valV kn (.inr w) = some (.int (nm w))
  da : ∃ ka, H da = some (.dK ka) ∧ ∀ w ∈ as, ∃ p, valV ka (.inr w) = some (.ref p) ∧ SqI K H p (ar w) ∧ (ar w).length ≤ 100
  ln : ∀ w ∈ ns, Lim (nm w)
  la : ∀ w ∈ as, ∀ x ∈ ar w, Lim x
  lp : (ar "place").length ≤ 1000
theorem Mem.same {K : PySem.W.Frag} {H H' : Hp} {dn da : Addr} {nm : Str → Int} {ar : Str → List Int} {ns as : List Str} (m : Mem K H dn da nm ar ns as) (s : Same H H') : Mem K H' dn da nm ar ns as := by
  obtain ⟨⟨kn, h1, h2⟩, ⟨ka, h3, h4⟩, h5, h6, h7⟩ := m
  refine ⟨⟨kn, s _ _ h1, h2⟩, ⟨ka, s _ _ h3, fun w hw => ?_⟩, h5, h6, h7⟩
  obtain ⟨p, e1, e2, e3⟩ := h4 w hw
  exact ⟨p, e1, e2.same s, e3⟩
theorem dget_str {H : Hp} {a : Addr} {kvs : List (Key × V)} {x : Str} {v : V} (e : H a = some (.dK kvs)) (h : valV kvs (.inr x) = some v) : DGet H a (.str x) (some v) := by
  have := DGet.k (k := Sum.inr x) e
  rw [h] at this
  exact this
theorem same_put {H H1 : Hp} {D : Addr} {o : HO} (s : Same H H1) (h : H D = none) : Same H (upd H1 D o) := fun b u e => by
  rw [upd_ne (ne_of_none e h)]
  exact s b u e
end Vk
namespace Vk
open PySem L2 PyProof.Rows
theorem op_mulB {X : Cx} : OpR X (binaryOp .Mult) (rI IntMulOk fun i j => .int (i * j)) := opI fun _ _ _ _ _ _ _ hc q => mul_int q hc
def BitsOk (n : Int) : Prop := Builtin.Int.intBits n ≤ 1048576
theorem bits_small {n : Int} (h0 : 0 ≤ n) (h1 : n < 2147483647) : BitsOk n := by
  have b : Builtin.Int.intBits n ≤ n.natAbs.log2 + 1 := by
    unfold Builtin.Int.intBits
    split <;> omega
  have l := PySem.Flt.log2_lt_of (show 0 < 31 by decide) (show n.natAbs < 2 ^ 31 by omega)
  unfold BitsOk
  omega
theorem bits_mul {n : Int} (h : BitsOk n) : IntMulOk n n := by
  unfold BitsOk at h
  have e : bitsLine = 134217728 := by decide
  unfold IntMulOk
  intro z
  rw [Bool.and_eq_true] at z
  have z2 := z.2
  unfold Builtin.Int.intTooBig at z2
  have z3 := of_decide_eq_true z2
  rw [e] at z3
  omega
end Vk
namespace Vk
open PySem L2
section
variable {α : Type}
def getA (l : List (Str × α)) (w : Str) : Option α := (l.find? fun p => decide (p.1 = w)).map (·.2)
def putA (l : List (Str × α)) (w : Str) (x : α) : List (Str × α) := if (l.any fun p => decide (p.1 = w)) = true then l.map (fun p => if p.1 = w then (p.1, x) else p) else l ++ [(w, x)]
def dOf (f : α → V) (l : List (Str × α)) : List (Key × V) := l.map fun p => (.inr p.1, f p.2)
theorem inr_dec (a b : Str) : decide ((Sum.inr a : Key) = Sum.inr b) = decide (a = b) := by
  by_cases h : a = b
  · subst h; rw [decide_eq_true rfl, decide_eq_true rfl]
  · rw [decide_eq_false h, decide_eq_false fun z => h (Sum.inr.inj z)]
theorem valV_d (f : α → V) (w : Str) : ∀ l : List (Str × α), valV (dOf f l) (.inr w) = (getA l w).map f
  | [] => rfl
  | p :: r => by
    have ih := valV_d f w r
    unfold valV getA dOf at *
    rw [List.map_cons, List.find?_cons, List.find?_cons]
    show Option.map _ (match decide ((Sum.inr p.1 : Key) = Sum.inr w) with | true => _ | false => _) = _
    rw [inr_dec]
    cases decide (p.1 = w)
    · exact ih
    · rfl
theorem any_d (f : α → V) (w : Str) : ∀ l : List (Str × α), ((dOf f l).any fun kv => decide (kv.1 = Sum.inr w)) = l.any fun p => decide (p.1 = w)
  | [] => rfl
  | p :: r => by
    have ih := any_d f w r
    unfold dOf at *
    rw [List.map_cons, List.any_cons, List.any_cons, ih]
    show (decide ((Sum.inr p.1 : Key) = Sum.inr w) || _) = _
    rw [inr_dec]
theorem putK_d (f : α → V) (w : Str) (x : α) (l : List (Str × α)) : putK (dOf f l) (.inr w) (f x) = dOf f (putA l w x) := by
  unfold putK putA
  rw [any_d]
  by_cases h : (l.any fun p => decide (p.1 = w)) = true
  · rw [if_pos h, if_pos h]
    unfold dOf
    rw [List.map_map, List.map_map]
    refine List.map_congr_left fun p _ => ?_
    show (if (Sum.inr p.1 : Key) = Sum.inr w then ((Sum.inr p.1 : Key), f x) else (Sum.inr p.1, f p.2)) = _
    by_cases e : p.1 = w
    · rw [if_pos (by rw [e])]
      show _ = ((Sum.inr (if p.1 = w then (p.1, x) else p).1 : Key), f (if p.1 = w then (p.1, x) else p).2)
      rw [if_pos e]
    · rw [if_neg (fun z => e (Sum.inr.inj z))]
      show _ = ((Sum.inr (if p.1 = w then (p.1, x) else p).1 : Key), f (if p.1 = w then (p.1, x) else p).2)
      rw [if_neg e]
  · rw [if_neg h, if_neg h]
    unfold dOf
    rw [List.map_append]
    rfl
theorem getA_cons (p : Str × α) (r : List (Str × α)) (v : Str) : getA (p :: r) v = if p.1 = v then some p.2 else getA r v := by
  unfold getA
  rw [List.find?_cons]
  by_cases e : p.1 = v
  · rw [decide_eq_true e, if_pos e]; rfl
  · rw [decide_eq_false e, if_neg e]
theorem getA_app_none {l : List (Str × α)} {v w : Str} {x : α} (h : getA l v = none) : getA (l ++ [(w, x)]) v = if w = v then some x else none := by
  induction l with
  | nil => rw [List.nil_append, getA_cons]; rfl
  | cons p r ih =>
    rw [getA_cons] at h
    rw [List.cons_append, getA_cons]
    by_cases e : p.1 = v
    · rw [if_pos e] at h; cases h
    · rw [if_neg e] at h ⊢; exact ih h
theorem getA_app_some {l r : List (Str × α)} {v : Str} {y : α} (h : getA l v = some y) : getA (l ++ r) v = some y := by
  induction l with
  | nil => cases h
  | cons p t ih =>
    rw [getA_cons] at h
    rw [List.cons_append, getA_cons]
    by_cases e : p.1 = v
    · rw [if_pos e] at h ⊢; exact h
    · rw [if_neg e] at h ⊢; exact ih h
theorem any_get {l : List (Str × α)} {w : Str} : (l.any fun p => decide (p.1 = w)) = (getA l w).isSome := by
  induction l with
  | nil => rfl
  | cons p r ih =>
    rw [List.any_cons, getA_cons, ih]
    by_cases e : p.1 = w
    · rw [decide_eq_true e, if_pos e]; rfl
    · rw [decide_eq_false e, if_neg e]; rfl
theorem getA_map {l : List (Str × α)} {w v : Str} {x : α} : getA (l.map (fun p => if p.1 = w then (p.1, x) else p)) v = if v = w then (getA l v).map (fun _ => x) else getA l v := by
  induction l with
  | nil => split <;> rfl
  | cons p r ih =>
    rw [List.map_cons, getA_cons, getA_cons, ih]
    by_cases e : p.1 = w
    · rw [if_pos e]
      by_cases ev : v = w
      · subst ev
        rw [if_pos e, if_pos rfl, if_pos e]
        rfl
      · rw [if_neg ev, if_neg ev]
        show (if p.1 = v then some x else _) = _
        rw [if_neg (fun z => ev (z.symm.trans e)), if_neg (fun z => ev (z.symm.trans e))]
    · rw [if_neg e]
      by_cases ev : v = w
      · subst ev
        rw [if_neg e, if_pos rfl, if_neg e, if_pos rfl]
      · rw [if_neg ev, if_neg ev]
theorem getA_put (l : List (Str × α)) (w v : Str) (x : α) : getA (putA l w x) v = if v = w then some x else getA l v := by
  unfold putA
  by_cases h : (l.any fun p => decide (p.1 = w)) = true
  · rw [if_pos h, getA_map]
    by_cases e : v = w
    · subst e
      rw [if_pos rfl, if_pos rfl]
      rw [any_get] at h
      obtain ⟨y, hy⟩ := Option.isSome_iff_exists.mp h
      rw [hy]; rfl
    · rw [if_neg e, if_neg e]
  · rw [if_neg h]
    rw [any_get] at h
    by_cases e : v = w
    · subst e
      have hn : getA l v = none := by
        cases g : getA l v with
        | none => rfl
        | some y => rw [g] at h; exact absurd rfl h
      rw [if_pos rfl, getA_app_none hn, if_pos rfl]
    · rw [if_neg e]
      cases g : getA l v with
      | none => rw [getA_app_none g, if_neg (fun z => e z.symm)]
      | some y => rw [getA_app_some g]
theorem mem_put {l : List (Str × α)} {w : Str} {x : α} {p : Str × α} (h : p ∈ putA l w x) : p ∈ l ∨ p = (w, x) := by
  unfold putA at h
  split at h
  · obtain ⟨q, hq, e⟩ := List.mem_map.mp h
    split at e
    · rename_i c
      rw [← e, c]; exact .inr rfl
    · rw [← e]; exact .inl hq
  · rcases List.mem_append.mp h with z | z
    · exact .inl z
    · exact .inr (List.mem_singleton.mp z)
theorem mem_get {l : List (Str × α)} {w : Str} {x : α} (h : getA l w = some x) : (w, x) ∈ l := by
  induction l with
  | nil => cases h
  | cons p r ih =>
    rw [getA_cons] at h
    by_cases e : p.1 = w
    · rw [if_pos e] at h
      cases h
      rw [← e]
      exact List.mem_cons_self ..
    · rw [if_neg e] at h
      exact List.mem_cons_of_mem _ (ih h)
theorem keys_put {l : List (Str × α)} {w : Str} {x : α} : (putA l w x).map (·.1) = if (getA l w).isSome = true then l.map (·.1) else l.map (·.1) ++ [w] := by
  unfold putA
  rw [any_get]
  split
  · rw [List.map_map]
    refine List.map_congr_left fun p _ => ?_
    show (if p.1 = w then (p.1, x) else p).1 = p.1
    split <;> rfl
  · rw [List.map_append]; rfl
theorem get_of_mem {l : List (Str × α)} {w : Str} (h : w ∈ l.map (·.1)) : (getA l w).isSome = true := by
  rw [← any_get, List.any_eq_true]
  obtain ⟨p, hp, e⟩ := List.mem_map.mp h
  exact ⟨p, hp, decide_eq_true e⟩
theorem mem_of_get {l : List (Str × α)} {w : Str} (h : (getA l w).isSome = true) : w ∈ l.map (·.1) := by
  obtain ⟨y, hy⟩ := Option.isSome_iff_exists.mp h
  exact List.mem_map.mpr ⟨_, mem_get hy, rfl⟩
theorem nodup_put {l : List (Str × α)} {w : Str} {x : α} (h : (l.map (·.1)).Nodup) : ((putA l w x).map (·.1)).Nodup := by
  rw [keys_put]
  split
  · exact h
  · rename_i c
    rw [List.nodup_append]
    refine ⟨h, List.nodup_cons.mpr ⟨by simp, List.nodup_nil⟩, fun a ha b hb => ?_⟩
    rw [List.mem_singleton.mp hb]
    intro z
    subst z
    exact c (get_of_mem ha)
theorem get_at {l : List (Str × α)} (h : (l.map (·.1)).Nodup) {p : Str × α} (hp : p ∈ l) : getA l p.1 = some p.2 := by
  induction l with
  | nil => cases hp
  | cons q r ih =>
    rw [List.map_cons, List.nodup_cons] at h
    rw [getA_cons]
    rcases List.mem_cons.mp hp with z | z
    · rw [z, if_pos rfl]
    · have : q.1 ≠ p.1 := fun e => h.1 (by rw [e]; exact List.mem_map.mpr ⟨p, z, rfl⟩)
      rw [if_neg this]
      exact ih h.2 z
theorem len_put {l : List (Str × α)} {w : Str} {x : α} : (putA l w x).length ≤ l.length + 1 := by
  unfold putA
  split
  · rw [List.length_map]; omega
  · rw [List.length_append]; exact Nat.le_refl _
end
/-- a row of a shelf: where it stands, its numbers -/
abbrev Row := Addr × List Int
abbrev rf (r : Row) : V := .ref r.1
def nmF (nl : List (Str × Int)) (w : Str) : Int := (getA nl w).getD 0
def arF (al : List (Str × Row)) (w : Str) : List Int := ((getA al w).map (·.2)).getD []
/-- the numbers of a shelf, without the places -/
def bare (al : List (Str × Row)) : List (Str × List Int) := al.map fun p => (p.1, p.2.2)
theorem getA_bare (w : Str) : ∀ al : List (Str × Row), getA (bare al) w = (getA al w).map (·.2)
  | [] => rfl
  | p :: r => by
    have ih := getA_bare w r
    unfold bare at *
    rw [List.map_cons, getA_cons, getA_cons, ih]
    split <;> rfl
theorem arF_bare {al al2 : List (Str × Row)} (h : bare al2 = bare al) : arF al2 = arF al := by
  funext w
  unfold arF
  rw [← getA_bare, ← getA_bare, h]
theorem bare_put {al : List (Str × Row)} {w : Str} {r : Row} : bare (putA al w r) = putA (bare al) w r.2 := by
  unfold putA
  have e : ((bare al).any fun p => decide (p.1 = w)) = (al.any fun p => decide (p.1 = w)) := by
    unfold bare
    rw [List.any_map]
    rfl
  rw [e]
  split
  · unfold bare
    rw [List.map_map, List.map_map]
    refine List.map_congr_left fun p _ => ?_
    show ((if p.1 = w then (p.1, r) else p).1, (if p.1 = w then (p.1, r) else p).2.2) = (if p.1 = w then (p.1, r.2) else (p.1, p.2.2))
    split <;> rfl
  · unfold bare
    rw [List.map_append]
    rfl
structure NamesOk (nl : List (Str × Int)) : Prop where
  lim : ∀ p ∈ nl, Lim p.2
  nd : (nl.map (·.1)).Nodup
  sz : nl.length ≤ 100
structure RowsOk (al : List (Str × Row)) : Prop where
  lim : ∀ p ∈ al, (∀ x ∈ p.2.2, Lim x) ∧ p.2.2.length ≤ 100
  nd : (al.map (·.1)).Nodup
  sz : al.length ≤ 100
def RowsAt (K : PySem.W.Frag) (H : Hp) (al : List (Str × Row)) : Prop := ∀ p ∈ al, SqI K H p.2.1 p.2.2
theorem RowsAt.same {K : PySem.W.Frag} {H H' : Hp} {al : List (Str × Row)} (h : RowsAt K H al) (s : Same H H') : RowsAt K H' al := fun p hp => (h p hp).same s
theorem mem_mk {K : PySem.W.Frag} {H : Hp} {dn da : Addr} {nl : List (Str × Int)} {al : List (Str × Row)} {ns as : List Str} (h1 : H dn = some (.dK (dOf V.int nl))) (h2 : H da = some (.dK (dOf rf al))) (n1 : ∀ p ∈ nl, Lim p.2) (r1 : ∀ p ∈ al, (∀ x ∈ p.2.2, Lim x) ∧ p.2.2.length ≤ 100) (ra : RowsAt K H al)
    (hn : ∀ w ∈ ns, (getA nl w).isSome = true) (ha : ∀ w ∈ as, (getA al w).isSome = true) : Mem K H dn da (nmF nl) (arF al) ns as := by
  refine ⟨⟨_, h1, fun w hw => ?_⟩, ⟨_, h2, fun w hw => ?_⟩, fun w hw => ?_, fun w hw x hx => ?_, ?_⟩
  · obtain ⟨y, hy⟩ := Option.isSome_iff_exists.mp (hn w hw)
    rw [valV_d, hy]
    unfold nmF
    rw [hy]; rfl
  · obtain ⟨y, hy⟩ := Option.isSome_iff_exists.mp (ha w hw)
    have m := mem_get hy
    refine ⟨y.1, by rw [valV_d, hy]; rfl, ?_, ?_⟩
    · unfold arF; rw [hy]; exact ra _ m
    · unfold arF; rw [hy]; exact (r1 _ m).2
  · obtain ⟨y, hy⟩ := Option.isSome_iff_exists.mp (hn w hw)
    unfold nmF; rw [hy]
    exact n1 _ (mem_get hy)
  · obtain ⟨y, hy⟩ := Option.isSome_iff_exists.mp (ha w hw)
    unfold arF at hx; rw [hy] at hx
    exact (r1 _ (mem_get hy)).1 x hx
  · unfold arF
    cases hy : getA al "place" with
    | none => exact Nat.zero_le _
    | some y =>
      have := (r1 _ (mem_get hy)).2
      show y.2.length ≤ 1000
      have e : y.2.length ≤ 100 := this
      omega
end Vk
namespace Vk
open PySem L2
theorem hu0 {k : Nat} {A : Around} (hr : Room k A) : A.units < cLine := hr.units0
theorem put_new {α : Type} {l : List (Str × α)} {w : Str} {x : α} (h : getA l w = none) : putA l w x = l ++ [(w, x)] := by
  unfold putA
  rw [any_get, h]
  rfl
theorem put_again {α : Type} {l : List (Str × α)} {w : Str} {x : α} (h : getA l w = none) : putA (l ++ [(w, x)]) w x = l ++ [(w, x)] := by
  unfold putA
  have e : ((l ++ [(w, x)]).any fun p => decide (p.1 = w)) = true := by
    rw [List.any_append]
    simp
  rw [if_pos e, List.map_append]
  have e2 : l.map (fun p => if p.1 = w then (p.1, x) else p) = l := by
    have : l.map (fun p => if p.1 = w then (p.1, x) else p) = l.map id := by
      refine List.map_congr_left fun p hp => ?_
      have : p.1 ≠ w := fun z => by
        have := get_of_mem (l := l) (w := w) (List.mem_map.mpr ⟨p, hp, z⟩)
        rw [h] at this
        cases this
      rw [if_neg this]; rfl
    rw [this, List.map_id]
  rw [e2]
  simp
theorem dget_frz {H : Hp} {a : Addr} {o : Obj} {kvs : List (Key × V)} {x : Str} {v : V} (e : H a = some (.frz o (.dK kvs))) (h : valV kvs (.inr x) = some v) : DGet H a (.str x) (some v) := by
  refine .inl ⟨kvs, Sum.inr x, .inr ⟨o, e⟩, rfl, ?_⟩
  rw [h]
theorem take_none {α : Type} {l : List (Str × α)} (h : (l.map (·.1)).Nodup) {i : Nat} {p : Str × α} (hp : l[i]? = some p) : getA (l.take i) p.1 = none := by
  cases g : getA (l.take i) p.1 with
  | none => rfl
  | some y =>
    exfalso
    have m := mem_get g
    obtain ⟨j, hj, ej⟩ := List.getElem_of_mem m
    rw [List.length_take] at hj
    rw [List.getElem_take] at ej
    have hi : i < l.length := (List.getElem?_eq_some_iff.mp hp).1
    have ei : l[i] = p := (List.getElem?_eq_some_iff.mp hp).2
    have e : (l.map (·.1))[j]'(by rw [List.length_map]; omega) = (l.map (·.1))[i]'(by rw [List.length_map]; exact hi) := by
      rw [List.getElem_map, List.getElem_map, ej, ei]
    have := (List.getElem_inj h).mp e
    omega
end Vk
namespace Vk
open PySem L2
theorem SqI.keep {K : PySem.W.Frag} {H H' : Hp} {p : Addr} {xs : List Int} (h : SqI K H p xs) (k : ∀ o, H p = some o → H' p = some o) : SqI K H' p xs := by
  rcases h with ((h | ⟨o, h⟩) | h) | ((h | ⟨o, h⟩) | h)
  · exact .inl (.inl (.inl (k _ h)))
  · exact .inl (.inl (.inr ⟨o, k _ h⟩))
  · exact .inl (.inr h)
  · exact .inr (.inl (.inl (k _ h)))
  · exact .inr (.inl (.inr ⟨o, k _ h⟩))
  · exact .inr (.inr h)
theorem SqL_keep {K : PySem.W.Frag} {H H' : Hp} {p : Addr} {xs : List V} (h : SqL K H p xs) (k : ∀ o, H p = some o → H' p = some o) : SqL K H' p xs := by
  rcases h with (h | ⟨o, h⟩) | h
  · exact .inl (.inl (k _ h))
  · exact .inl (.inr ⟨o, k _ h⟩)
  · exact .inr h
/-- the rows stand, apart from these -/
def RowsN (K : PySem.W.Frag) (H : Hp) (al : List (Str × Row)) (a dr da : Addr) : Prop := ∀ p ∈ al, SqI K H p.2.1 p.2.2 ∧ p.2.1 ≠ a ∧ p.2.1 ≠ dr ∧ p.2.1 ≠ da
theorem RowsN.keep {K : PySem.W.Frag} {H H' : Hp} {al : List (Str × Row)} {a dr da : Addr} (h : RowsN K H al a dr da) (k : ∀ b o, b ≠ a → b ≠ dr → b ≠ da → H b = some o → H' b = some o) : RowsN K H' al a dr da := fun p hp => by
  obtain ⟨h1, h2, h3, h4⟩ := h p hp
  exact ⟨h1.keep (fun o e => k _ o h2 h3 h4 e), h2, h3, h4⟩
end Vk
namespace Vk
open PySem L2
def intsD (xs : List Int) : PyData := .list (xs.map PyData.int)
theorem dp_ints {K : PySem.W.Frag} {H : Hp} : ∀ xs : List Int, DpAll K H (xs.map V.int) (xs.map PyData.int)
  | [] => .nil
  | x :: r => .cons (.int x) (dp_ints r)
theorem eqv_ints : ∀ xs : List Int, PyData.eqvAll (xs.map PyData.int) (xs.map PyData.int) = true
  | [] => rfl
  | x :: r => by
    show (PyData.eqv (.int x) (.int x) && PyData.eqvAll (r.map PyData.int) (r.map PyData.int)) = true
    rw [eqv_ints r]
    simp [PyData.eqv]
theorem can_ints : ∀ xs : List Int, PyData.canLayAll0 (xs.map PyData.int) = true
  | [] => rfl
  | x :: r => by
    show (PyData.canLay0 (.int x) && PyData.canLayAll0 (r.map PyData.int)) = true
    rw [can_ints r]
    rfl
theorem dep_ints : ∀ xs : List Int, PyData.depthAll (xs.map PyData.int) = 0
  | [] => rfl
  | x :: r => by
    show max (PyData.depth (.int x)) (PyData.depthAll (r.map PyData.int)) = 0
    rw [dep_ints r]
    rfl
theorem shaped_ints (xs : List Int) : SeqAt.shaped (intsD xs) = true := by
  unfold SeqAt.shaped
  have h1 : (intsD xs).canLay0 = true := can_ints xs
  have h2 : (intsD xs).depth = 1 := by
    show PyData.depthAll (xs.map PyData.int) + 1 = 1
    rw [dep_ints]
  rw [h1, h2]
  rfl
theorem eqv_intsD (xs : List Int) : PyData.eqv (intsD xs) (intsD xs) = true := eqv_ints xs
end Vk
namespace K01
open PySem L2 Vk
def topS (i : Nat) : Stmt := PySem.Challenge.pw_stillinstep_k01_reads_picks_and_nth.main.body.getD i (.Pass ⟨0, 0, 0, 0⟩)
abbrev s_clip : Stmt := topS 2
abbrev N_clip : List Str := ["number"]
abbrev P_clip : List Str := ["number"]
theorem sc_clip : FnScope N_clip P_clip (defScope s_clip) := ⟨rfl, rfl, rfl, by decide +kernel, rfl, by decide +kernel, by decide +kernel⟩
abbrev s_value_of : Stmt := topS 4
abbrev N_value_of : List Str := ["expression", "names", "arrays", "kind", "values", "part"]
abbrev P_value_of : List Str := ["expression", "names", "arrays"]
theorem sc_value_of : FnScope N_value_of P_value_of (defScope s_value_of) := ⟨rfl, rfl, rfl, by decide +kernel, rfl, by decide +kernel, by decide +kernel⟩
abbrev s_operands_of : Stmt := topS 5
abbrev N_operands_of : List Str := ["expression", "kind"]
abbrev P_operands_of : List Str := ["expression"]
theorem sc_operands_of : FnScope N_operands_of P_operands_of (defScope s_operands_of) := ⟨rfl, rfl, rfl, by decide +kernel, rfl, by decide +kernel, by decide +kernel⟩
abbrev s_cell_of : Stmt := topS 6
abbrev N_cell_of : List Str := ["array", "at"]
abbrev P_cell_of : List Str := ["array", "at"]
theorem sc_cell_of : FnScope N_cell_of P_cell_of (defScope s_cell_of) := ⟨rfl, rfl, rfl, by decide +kernel, rfl, by decide +kernel, by decide +kernel⟩
abbrev s_joined_value : Stmt := topS 7
abbrev N_joined_value : List Str := ["sign", "left", "right"]
abbrev P_joined_value : List Str := ["sign", "left", "right"]
theorem sc_joined_value : FnScope N_joined_value P_joined_value (defScope s_joined_value) := ⟨rfl, rfl, rfl, by decide +kernel, rfl, by decide +kernel, by decide +kernel⟩
abbrev s_holds : Stmt := topS 8
abbrev N_holds : List Str := ["sign", "left", "right"]
abbrev P_holds : List Str := ["sign", "left", "right"]
theorem sc_holds : FnScope N_holds P_holds (defScope s_holds) := ⟨rfl, rfl, rfl, by decide +kernel, rfl, by decide +kernel, by decide +kernel⟩
abbrev s_called_value : Stmt := topS 9
abbrev N_called_value : List Str := ["word", "values", "arrays"]
abbrev P_called_value : List Str := ["word", "values", "arrays"]
theorem sc_called_value : FnScope N_called_value P_called_value (defScope s_called_value) := ⟨rfl, rfl, rfl, by decide +kernel, rfl, by decide +kernel, by decide +kernel⟩
abbrev s_index_of_zero : Stmt := topS 10
abbrev N_index_of_zero : List Str := ["array", "number", "zeros", "at", "cell"]
abbrev P_index_of_zero : List Str := ["array", "number"]
theorem sc_index_of_zero : FnScope N_index_of_zero P_index_of_zero (defScope s_index_of_zero) := ⟨rfl, rfl, rfl, by decide +kernel, rfl, by decide +kernel, by decide +kernel⟩
abbrev s_law_whole : Stmt := topS 12
abbrev N_law_whole : List Str := ["value"]
abbrev P_law_whole : List Str := ["value"]
theorem sc_law_whole : FnScope N_law_whole P_law_whole (defScope s_law_whole) := ⟨rfl, rfl, rfl, by decide +kernel, rfl, by decide +kernel, by decide +kernel⟩
abbrev s_law_cell : Stmt := topS 13
abbrev N_law_cell : List Str := ["script", "k", "seed", "cell"]
abbrev P_law_cell : List Str := ["script", "k"]
theorem sc_law_cell : FnScope N_law_cell P_law_cell (defScope s_law_cell) := ⟨rfl, rfl, rfl, by decide +kernel, rfl, by decide +kernel, by decide +kernel⟩
abbrev s_law_feed : Stmt := topS 14
abbrev N_law_feed : List Str := ["cell", "rest"]
abbrev P_law_feed : List Str := ["cell"]
theorem sc_law_feed : FnScope N_law_feed P_law_feed (defScope s_law_feed) := ⟨rfl, rfl, rfl, by decide +kernel, rfl, by decide +kernel, by decide +kernel⟩
abbrev s_law_take : Stmt := topS 15
abbrev N_law_take : List Str := ["feed", "size", "digit", "twice"]
abbrev P_law_take : List Str := ["feed", "size"]
theorem sc_law_take : FnScope N_law_take P_law_take (defScope s_law_take) := ⟨rfl, rfl, rfl, by decide +kernel, rfl, by decide +kernel, by decide +kernel⟩
abbrev s_law_number : Stmt := topS 16
abbrev N_law_number : List Str := ["feed", "kind"]
abbrev P_law_number : List Str := ["feed"]
theorem sc_law_number : FnScope N_law_number P_law_number (defScope s_law_number) := ⟨rfl, rfl, rfl, by decide +kernel, rfl, by decide +kernel, by decide +kernel⟩
abbrev s_law_datum : Stmt := topS 17
abbrev N_law_datum : List Str := ["feed", "number"]
abbrev P_law_datum : List Str := ["feed"]
theorem sc_law_datum : FnScope N_law_datum P_law_datum (defScope s_law_datum) := ⟨rfl, rfl, rfl, by decide +kernel, rfl, by decide +kernel, by decide +kernel⟩
abbrev s_law_word : Stmt := topS 18
abbrev N_law_word : List Str := ["feed", "menu", "letters", "kind", "size", "word", "k"]
abbrev P_law_word : List Str := ["feed"]
theorem sc_law_word : FnScope N_law_word P_law_word (defScope s_law_word) := ⟨rfl, rfl, rfl, by decide +kernel, rfl, by decide +kernel, by decide +kernel⟩
abbrev s_law_near : Stmt := topS 19
abbrev N_law_near : List Str := ["feed", "word", "letters", "kind", "near", "at"]
abbrev P_law_near : List Str := ["feed", "word"]
theorem sc_law_near : FnScope N_law_near P_law_near (defScope s_law_near) := ⟨rfl, rfl, rfl, by decide +kernel, rfl, by decide +kernel, by decide +kernel⟩
abbrev s_law_word_row : Stmt := topS 20
abbrev N_law_word_row : List Str := ["feed", "many", "words", "k", "word"]
abbrev P_law_word_row : List Str := ["feed", "many"]
theorem sc_law_word_row : FnScope N_law_word_row P_law_word_row (defScope s_law_word_row) := ⟨rfl, rfl, rfl, by decide +kernel, rfl, by decide +kernel, by decide +kernel⟩
abbrev s_law_leaf : Stmt := topS 21
abbrev N_law_leaf : List Str := ["feed", "names"]
abbrev P_law_leaf : List Str := ["feed", "names"]
theorem sc_law_leaf : FnScope N_law_leaf P_law_leaf (defScope s_law_leaf) := ⟨rfl, rfl, rfl, by decide +kernel, rfl, by decide +kernel, by decide +kernel⟩
abbrev s_law_tree : Stmt := topS 22
abbrev N_law_tree : List Str := ["feed", "room", "deep", "tight", "names", "arrays", "menu", "sort", "signs", "word", "many", "spine", "parts", "k"]
abbrev P_law_tree : List Str := ["feed", "room", "deep", "tight", "names", "arrays", "menu"]
theorem sc_law_tree : FnScope N_law_tree P_law_tree (defScope s_law_tree) := ⟨rfl, rfl, rfl, by decide +kernel, rfl, by decide +kernel, by decide +kernel⟩
abbrev s_law_deep : Stmt := topS 23
abbrev N_law_deep : List Str := ["feed", "kind"]
abbrev P_law_deep : List Str := ["feed"]
theorem sc_law_deep : FnScope N_law_deep P_law_deep (defScope s_law_deep) := ⟨rfl, rfl, rfl, by decide +kernel, rfl, by decide +kernel, by decide +kernel⟩
abbrev s_law_parts : Stmt := topS 24
abbrev N_law_parts : List Str := ["expr"]
abbrev P_law_parts : List Str := ["expr"]
theorem sc_law_parts : FnScope N_law_parts P_law_parts (defScope s_law_parts) := ⟨rfl, rfl, rfl, by decide +kernel, rfl, by decide +kernel, by decide +kernel⟩
abbrev s_law_subs : Stmt := topS 25
abbrev N_law_subs : List Str := ["expr", "rows", "part"]
abbrev P_law_subs : List Str := ["expr"]
theorem sc_law_subs : FnScope N_law_subs P_law_subs (defScope s_law_subs) := ⟨rfl, rfl, rfl, by decide +kernel, rfl, by decide +kernel, by decide +kernel⟩
abbrev s_law_clip : Stmt := topS 26
abbrev N_law_clip : List Str := ["number"]
abbrev P_law_clip : List Str := ["number"]
theorem sc_law_clip : FnScope N_law_clip P_law_clip (defScope s_law_clip) := ⟨rfl, rfl, rfl, by decide +kernel, rfl, by decide +kernel, by decide +kernel⟩
abbrev s_law_sign_value : Stmt := topS 27
abbrev N_law_sign_value : List Str := ["sign", "left", "right"]
abbrev P_law_sign_value : List Str := ["sign", "left", "right"]
theorem sc_law_sign_value : FnScope N_law_sign_value P_law_sign_value (defScope s_law_sign_value) := ⟨rfl, rfl, rfl, by decide +kernel, rfl, by decide +kernel, by decide +kernel⟩
abbrev s_law_value : Stmt := topS 28
abbrev N_law_value : List Str := ["expr", "names", "arrays", "spot", "row", "parts", "part", "free", "k"]
abbrev P_law_value : List Str := ["expr", "names", "arrays"]
theorem sc_law_value : FnScope N_law_value P_law_value (defScope s_law_value) := ⟨rfl, rfl, rfl, by decide +kernel, rfl, by decide +kernel, by decide +kernel⟩
abbrev s_law_handed : Stmt := topS 29
abbrev N_law_handed : List Str := ["feed", "names", "arrays", "rows", "word"]
abbrev P_law_handed : List Str := ["feed", "names", "arrays"]
theorem sc_law_handed : FnScope N_law_handed P_law_handed (defScope s_law_handed) := ⟨rfl, rfl, rfl, by decide +kernel, rfl, by decide +kernel, by decide +kernel⟩
abbrev s_law_stayed : Stmt := topS 30
abbrev N_law_stayed : List Str := ["given", "names", "arrays", "word"]
abbrev P_law_stayed : List Str := ["given", "names", "arrays"]
theorem sc_law_stayed : FnScope N_law_stayed P_law_stayed (defScope s_law_stayed) := ⟨rfl, rfl, rfl, by decide +kernel, rfl, by decide +kernel, by decide +kernel⟩
abbrev s_law_valued : Stmt := topS 31
abbrev N_law_valued : List Str := ["expr", "given", "names", "arrays", "actual"]
abbrev P_law_valued : List Str := ["expr", "given", "names", "arrays"]
theorem sc_law_valued : FnScope N_law_valued P_law_valued (defScope s_law_valued) := ⟨rfl, rfl, rfl, by decide +kernel, rfl, by decide +kernel, by decide +kernel⟩
abbrev s_law_row : Stmt := topS 32
abbrev N_law_row : List Str := ["feed", "kind", "size", "style", "row", "k", "number"]
abbrev P_law_row : List Str := ["feed"]
theorem sc_law_row : FnScope N_law_row P_law_row (defScope s_law_row) := ⟨rfl, rfl, rfl, by decide +kernel, rfl, by decide +kernel, by decide +kernel⟩
abbrev s_law_memory : Stmt := topS 33
abbrev N_law_memory : List Str := ["cell", "words", "shelves", "feed", "names", "word", "arrays"]
abbrev P_law_memory : List Str := ["cell", "words", "shelves"]
theorem sc_law_memory : FnScope N_law_memory P_law_memory (defScope s_law_memory) := ⟨rfl, rfl, rfl, by decide +kernel, rfl, by decide +kernel, by decide +kernel⟩
abbrev s_law_spots : Stmt := topS 34
abbrev N_law_spots : List Str := ["feed", "size", "spots"]
abbrev P_law_spots : List Str := ["feed", "size"]
theorem sc_law_spots : FnScope N_law_spots P_law_spots (defScope s_law_spots) := ⟨rfl, rfl, rfl, by decide +kernel, rfl, by decide +kernel, by decide +kernel⟩
abbrev s_law_spotted : Stmt := topS 35
abbrev N_law_spotted : List Str := ["feed", "given", "arrays", "head", "word", "size", "spot", "names", "inner", "part", "expr"]
abbrev P_law_spotted : List Str := ["feed", "given", "arrays", "head", "word", "size"]
theorem sc_law_spotted : FnScope N_law_spotted P_law_spotted (defScope s_law_spotted) := ⟨rfl, rfl, rfl, by decide +kernel, rfl, by decide +kernel, by decide +kernel⟩
abbrev s_law_picked : Stmt := topS 36
abbrev N_law_picked : List Str := ["feed", "base", "words", "parts", "x", "y", "turn", "names", "call", "check"]
abbrev P_law_picked : List Str := ["feed", "base"]
theorem sc_law_picked : FnScope N_law_picked P_law_picked (defScope s_law_picked) := ⟨rfl, rfl, rfl, by decide +kernel, rfl, by decide +kernel, by decide +kernel⟩
abbrev s_law : Stmt := topS 37
abbrev N_law : List Str := ["script", "feed", "words", "shelves", "here", "there", "draw", "given", "other", "shelf", "free", "number", "size", "grown", "room", "menu", "expr", "part"]
abbrev P_law : List Str := ["script"]
theorem sc_law : FnScope N_law P_law (defScope s_law) := ⟨rfl, rfl, rfl, by decide +kernel, rfl, by decide +kernel, by decide +kernel⟩
end K01
namespace K01
open PySem L2 Vk
section
variable {P : Program} {w : World} {K : PySem.W.Frag} {mg : Str → Option Value} {base : Heap}
theorem ok_take {f : Addr} {fd : FuncData} {k : Nat} (F : Fun K "_law_take" "_law_take" s_law_take f fd) (mint : mg "int" = none) : FnOk P w K mg base CX0 (k + 1) f fd P_law_take spTake := by
  refine F.ok sc_law_take (fun vs H Q E h => ?_) (fun cdv A outer s H vs Q E hr h => ?_)
  · obtain ⟨a, n, rfl, _⟩ := h
    rfl
  obtain ⟨a, n, rfl, ⟨x, y, z, e⟩, n0, n1, q⟩ := h
  refine ⟨_, (pss_cons (ps_asg (pe_op op_add (pe_ix ix_list (pv 0) pe_int (fun _ _ => rfl)) pe_int) (pg_sub (pv 0) pe_int set_list))
    (C8.pss_cut (ps_if (PW.pt (pw_and (pt_cmpR op_eq (pe_ix ix_list (pv 0) pe_int (fun _ _ => rfl)) pe_int (nomark _)) (pw_and1 (pt_cmpR op_eq (pe_ix ix_list (pv 0) pe_int (fun _ _ => rfl)) pe_int (nomark _)))))
      (pss_cons (ps_asg pe_int (pg_sub (pv 0) pe_int set_list))
      (pss_one (ps_asg (pe_op op_add pe_int (pe_ix ix_list (pv 0) pe_int (fun _ _ => rfl))) (pg_sub (pv 0) pe_int set_list))))
      pss_nil)
    (pss_cons (ps_if (pt_cmpR op_eq (pe_ix ix_list (pv 0) pe_int (fun _ _ => rfl)) pe_int (nomark _))
      (pss_cons (ps_set (i := 2) sc_law_take.nd rfl (Or.inl rfl) (pe_op op_modN (pe_callTy call_int1 (by rfl) mint (by decide +kernel) (pa_cons (pe_ix ix_list (pv 0) pe_int (fun _ _ => rfl)) pa_nil)) (pv 1)))
      (pss_cons (ps_asg (pe_op op_fdivN (pe_callTy call_int1 (by rfl) mint (by decide +kernel) (pa_cons (pe_ix ix_list (pv 0) pe_int (fun _ _ => rfl)) pa_nil)) (pv 1)) (pg_sub (pv 0) pe_int set_list))
      (pss_one (ps_ret (pv 2)))))
      pss_nil)
    (pss_cons (ps_asg (pe_op op_modN (pe_callTy call_int1 (by rfl) mint (by decide +kernel) (pa_cons (pe_op op_add (pe_op op_add (pe_op op_mul (pe_ix ix_list (pv 0) pe_int (fun _ _ => rfl)) pe_int) (pe_op op_mul pe_int (pe_ix ix_list (pv 0) pe_int (fun _ _ => rfl)))) pe_int) pa_nil)) pe_int) (pg_sub (pv 0) pe_int set_list))
    (pss_cons (ps_set (i := 3) sc_law_take.nd rfl (Or.inl rfl) (pe_op op_modN (pe_callTy call_int1 (by rfl) mint (by decide +kernel) (pa_cons (pe_op op_mul (pe_ix ix_list (pv 0) pe_int (fun _ _ => rfl)) (pe_op op_add (pe_op op_fdivN (pe_ix ix_list (pv 0) pe_int (fun _ _ => rfl)) pe_int) pe_int)) pa_nil)) pe_int))
    (pss_one (ps_ret (pe_op op_modN (pe_op op_fdivN (pv 3) pe_int) (pv 1))))))))), ?_⟩
  -- feed[2] = feed[2] + 1
  refine ⟨_, rfl, _, _, _, _, rfl, rfl, SqL.of e, atI_nat (j := 2) rfl, _, _, rfl, rfl, _, rfl, _, _, _, _, rfl, rfl, e, rfl, ?_⟩
  have e1 : (upd H a (.lst [.int x, .int y, .int (z + 1)])) a = some (.lst [.int x, .int y, .int (z + 1)]) := upd_same
  have g1 : ∀ b o, b ≠ a → H b = some o → (upd H a (.lst [.int x, .int y, .int (z + 1)])) b = some o := fun b o nb eb => by rw [upd_ne nb]; exact eb
  refine ⟨fun σ' H' => ∃ x y z : Int, σ' = [some (.ref a), some (.int n), none, none] ∧ H' a = some (.lst [.int x, .int y, .int z]) ∧ (∀ b o, b ≠ a → H b = some o → H' b = some o), ?_, fun σ' H' hm => ?_⟩
  · refine ⟨_, rfl, _, _, _, _, rfl, rfl, SqL.of e1, atI_nat (j := 0) rfl, rfl, _, rfl, ite2 (fun c => ?_) (fun c => ?_)⟩
    · refine ⟨_, rfl, _, _, _, _, rfl, rfl, SqL.of e1, atI_nat (j := 1) rfl, rfl, _, rfl, ite2 (fun c => ?_) (fun c => ?_)⟩
      · refine ⟨_, rfl, _, _, _, _, rfl, rfl, e1, rfl, ?_⟩
        refine ⟨_, rfl, _, _, _, _, rfl, rfl, SqL.of upd_same, atI_nat (j := 2) rfl, _, _, rfl, rfl, _, rfl, _, _, _, _, rfl, rfl, upd_same, rfl, ?_⟩
        exact ⟨_, _, _, rfl, upd_same, fun b o nb eb => by rw [upd_ne nb, upd_ne nb]; exact g1 b o nb eb⟩
      · exact ⟨_, _, _, rfl, e1, g1⟩
    · exact ⟨_, _, _, rfl, e1, g1⟩
  obtain ⟨x, y, z, rfl, e2, g2⟩ := hm
  refine ⟨_, rfl, _, _, _, _, rfl, rfl, SqL.of e2, atI_nat (j := 0) rfl, rfl, _, rfl, ite2 (fun c => ?_) (fun c => ?_)⟩
  · refine ⟨_, rfl, _, _, _, _, rfl, rfl, SqL.of e2, atI_nat (j := 1) rfl, .inl ⟨_, rfl, _, rfl, _, _, rfl, rfl, by omega, ?_⟩⟩
    refine ⟨_, rfl, _, _, _, _, rfl, rfl, SqL.of e2, atI_nat (j := 1) rfl, .inl ⟨_, rfl, _, rfl, _, _, rfl, rfl, ⟨by omega, by omega⟩, ?_⟩⟩
    refine ⟨_, rfl, _, _, _, _, rfl, rfl, e2, rfl, ?_⟩
    refine ⟨_, rfl, ?_⟩
    exact q _ _ (fmod_lo n0) (fmod_hi n0) ⟨fun b o nb eb => by rw [upd_ne nb]; exact g2 b o nb eb, ⟨_, _, _, upd_same⟩⟩
  · refine ⟨_, rfl, _, _, _, _, rfl, rfl, SqL.of e2, atI_nat (j := 1) rfl, _, _, rfl, rfl, .inr ⟨by decide, by decide⟩, ?_⟩
    refine ⟨_, rfl, _, _, _, _, rfl, rfl, SqL.of e2, atI_nat (j := 2) rfl, _, _, rfl, rfl, .inl ⟨by decide, by decide⟩, _, _, rfl, rfl, _, _, rfl, rfl, .inl ⟨_, rfl, _, _, rfl, rfl, by omega, ?_⟩⟩
    refine ⟨_, rfl, _, _, _, _, rfl, rfl, e2, rfl, ?_⟩
    have b0 := fmod_lo (a := y * 48271 + 974711 * z + 12345) (b := 2147483647) (by decide)
    have b1 := fmod_hi (a := y * 48271 + 974711 * z + 12345) (b := 2147483647) (by decide)
    refine ⟨_, rfl, _, _, _, _, rfl, rfl, SqL.of upd_same, atI_nat (j := 1) rfl, _, rfl, _, _, _, _, rfl, rfl, SqL.of upd_same, atI_nat (j := 1) rfl, _, _, rfl, rfl, ⟨by decide, by decide⟩, _, _, rfl, rfl, _, _, rfl, rfl, .inl ⟨by omega, by omega⟩, .inl ⟨_, rfl, _, _, rfl, rfl, by omega, ?_⟩⟩
    refine ⟨_, rfl, _, _, rfl, rfl, ⟨by decide, by decide⟩, _, rfl, _, _, rfl, rfl, by omega, ?_⟩
    exact q _ _ (fmod_lo n0) (fmod_hi n0) ⟨fun b o nb eb => by rw [upd_ne nb]; exact g2 b o nb eb, ⟨_, _, _, upd_same⟩⟩
theorem ok_feed {f : Addr} {fd : FuncData} {k : Nat} (F : Fun K "_law_feed" "_law_feed" s_law_feed f fd) (mint : mg "int" = none) : FnOk P w K mg base CX0 (k + 1) f fd P_law_feed spFeed := by
  refine F.ok sc_law_feed (fun vs H Q E h => ?_) (fun cdv A outer s H vs Q E hr h => ?_)
  · obtain ⟨n, rfl, _⟩ := h
    rfl
  obtain ⟨n, rfl, q⟩ := h
  refine ⟨_, (pss_cons (ps_set (i := 1) sc_law_feed.nd rfl (Or.inl rfl) (pe_callTy call_int1 (by rfl) mint (by decide +kernel) (pa_cons (pv 0) pa_nil)))
    (pss_cons (ps_if (pt_cmpR op_ge (pv 1) (pe_op op_pow pe_int pe_int) (nomark _))
      (pss_one (ps_ret (pe_lst (pa_cons pe_int (pa_cons (pe_op op_sub (pv 1) (pe_op op_pow pe_int pe_int)) (pa_cons pe_int pa_nil))))))
      pss_nil)
    (pss_one (ps_ret (pe_lst (pa_cons pe_int (pa_cons (pe_op op_modN (pe_callTy call_int1 (by rfl) mint (by decide +kernel) (pa_cons (pv 1) pa_nil)) pe_int) (pa_cons pe_int pa_nil)))))))), ?_⟩
  refine ⟨_, rfl, .inl ⟨_, rfl, ?_⟩⟩
  refine ⟨_, rfl, _, _, rfl, rfl, ⟨by decide, by decide, by decide⟩, _, _, rfl, rfl, _, rfl, ite2 (fun c => ?_) (fun c => ?_)⟩
  · refine ⟨_, rfl, _, _, rfl, rfl, ⟨by decide, by decide, by decide⟩, _, _, rfl, rfl, (by show 3 ≤ sizeLine; decide), fun p hp => ?_⟩
    exact q _ _ (same_new hp _) hp ⟨_, _, _, upd_same⟩
  · refine ⟨_, rfl, .inl ⟨_, rfl, _, _, rfl, rfl, by omega, (by show 3 ≤ sizeLine; decide), fun p hp => ?_⟩⟩
    exact q _ _ (same_new hp _) hp ⟨_, _, _, upd_same⟩
theorem ok_cell {f : Addr} {fd : FuncData} {k : Nat} (F : Fun K "_law_cell" "_law_cell" s_law_cell f fd) (mint : mg "int" = none) (mlen : mg "len" = none) : FnOk P w K mg base CX0 (k + 1) f fd P_law_cell (spCellv K) := by
  refine F.ok sc_law_cell (fun vs H Q E h => ?_) (fun cdv A outer s H vs Q E hr h => ?_)
  · obtain ⟨a, ns, j, rfl, _⟩ := h
    rfl
  obtain ⟨a, ns, j, rfl, hS, j0, j1, q⟩ := h
  refine ⟨_, (pss_cons (ps_if (pt_cmpR op_lt (pv 1) (pe_callB call_len_seq (by rfl) mlen (by decide +kernel) (pa_cons (pv 0) pa_nil)) (nomark _))
      (pss_one (ps_ret (pe_ix ix_list (pv 0) (pv 1) (fun _ _ => rfl))))
      pss_nil)
    (pss_cons (ps_set (i := 2) sc_law_cell.nd rfl (Or.inl rfl) pe_int)
    (pss_cons (ps_for PassesOwn.never rfl (pi_list (pv 0)) (pg_name (i := 3) sc_law_cell.nd rfl (Or.inl rfl))
      (pss_one (ps_set (i := 2) sc_law_cell.nd rfl (Or.inl rfl) (pe_op op_modN (pe_callTy call_int1 (by rfl) mint (by decide +kernel) (pa_cons (pe_op op_add (pe_op op_mul (pv 2) pe_int) (pe_op op_modN (pe_callTy call_int1 (by rfl) mint (by decide +kernel) (pa_cons (pv 3) pa_nil)) pe_int)) pa_nil)) pe_int))))
    (pss_one (ps_ret (pe_op op_modN (pe_callTy call_int1 (by rfl) mint (by decide +kernel) (pa_cons (pe_op op_mul (pe_op op_mul (pe_op op_add (pv 2) pe_int) (pe_op op_add (pv 1) pe_int)) pe_int) pa_nil)) pe_int)))))), ?_⟩
  refine ⟨_, rfl, _, rfl, _, _, rfl, .inl hS, _, _, rfl, rfl, _, rfl, ite2' (fun c => ?_) (fun c => ?_)⟩
  · obtain ⟨v, vm, ev⟩ := atI_in (xs := ns.map V.int) j0 c
    obtain ⟨n, _, rfl⟩ := List.mem_map.mp vm
    exact ⟨_, rfl, _, rfl, _, _, _, _, rfl, rfl, hS, ev, q n⟩
  · refine ⟨_, rfl, a, rfl, ⟨_, hS⟩, ?_⟩
    refine for_list (xs := ns.map V.int) (fun i σ H' => ∃ (sd : Int) (y : Option V), σ = [some (.ref a), some (.int j), some (.int sd), y] ∧ 0 ≤ sd ∧ sd < 1000003 ∧ H' = H) ⟨_, _, rfl, by decide, by decide, rfl⟩ (fun i σ H' _ hp => ?_) (fun i x σ H' hx hp => ?_) (fun σ H' hp => ?_)
    · obtain ⟨sd, y, _, _, _, rfl⟩ := hp
      exact hS
    · obtain ⟨sd, y, rfl, b0, b1, rfl⟩ := hp
      obtain ⟨n, _, rfl⟩ := List.mem_map.mp (List.mem_of_getElem? hx)
      refine ⟨_, rfl, _, _, rfl, rfl, .inl ⟨by omega, by omega⟩, _, rfl, .inl ⟨_, rfl, _, _, rfl, rfl, by omega, _, _, rfl, rfl, .inl ⟨_, rfl, _, _, rfl, rfl, by omega, ?_⟩⟩⟩
      exact ⟨_, _, rfl, fmod_lo (by decide), fmod_hi (by decide), rfl⟩
    · obtain ⟨sd, y, rfl, b0, b1, rfl⟩ := hp
      refine ⟨_, rfl, _, _, rfl, rfl, _, rfl, _, _, rfl, rfl, _, _, rfl, rfl, .inl ⟨by omega, by omega⟩, _, _, rfl, rfl, .inr ⟨by decide, by decide⟩, .inl ⟨_, rfl, _, _, rfl, rfl, by omega, ?_⟩⟩
      exact q _
end
end K01
namespace K01
open PySem L2 Vk
theorem p12 : (10 : Int) ^ (12 : Int).toNat = 1000000000000 := by decide
theorem p6 : (10 : Int) ^ (6 : Int).toNat = 1000000 := by decide
def menuW : List Str := ["a", "b", "me", "x_1", "place", "divs", "mode", "min2", "maxi", "pick_", "nth0", "whenever", "mo", "first", "sum", "end", "in", "do", "for", "step", "lanes", "most", "least", "array"]
def lettersW : Str := "abcdefghijklmnopqrstuvwxyz0123456789_"
def barredW : List Str := ["div", "mod", "min", "max", "pick", "nth", "when"]
theorem menu_ok : ∀ w ∈ menuW, WordOk w := words_ok (by decide +kernel)
theorem letters_ok : okC lettersW := okC_of_all (by decide +kernel)
theorem letters_len : lettersW.length = 37 := by decide +kernel
theorem letters_line : lettersW.length ≤ sizeLine := by rw [letters_len]; decide
theorem letters_lst : lettersW.cps.toList.length = 37 := by decide +kernel
theorem barred_len : ∀ z ∈ barredW, z.length ≤ 4 := fun z hz => of_decide_eq_true (List.all_eq_true.mp (show (barredW.all fun z => decide (z.length ≤ 4)) = true by decide +kernel) z hz)
def spNumber : Sp := fun vs H Q _ => ∃ (a : Addr), vs = [.ref a] ∧ Fd H a ∧ ∀ n H', 0 ≤ n → n ≤ 1000000000000 → Stp a H H' → Q (.int n) H'
def spWord : Sp := fun vs H Q _ => ∃ (a : Addr), vs = [.ref a] ∧ Fd H a ∧ ∀ w H', WordOk w → Stp a H H' → Q (.str w) H'
def spNear : Sp := fun vs H Q _ => ∃ (a : Addr) (w : Str), vs = [.ref a, .str w] ∧ Fd H a ∧ WordOk w ∧ ∀ w H', WordOk w → Stp a H H' → Q (.str w) H'
def spWordRow : Sp := fun vs H Q _ => ∃ (a : Addr) (n : Int), vs = [.ref a, .int n] ∧ Fd H a ∧ 0 ≤ n ∧ n ≤ 40 ∧ ∀ (p : Addr) (H' : Hp) (ws : List Str), Stp a H H' → H p = none → H' p = some (.lst (ws.map V.str)) → (ws.length : Int) = n → (∀ w ∈ ws, WordOk w) → Q (.ref p) H'
def spDeep : Sp := fun vs H Q _ => ∃ (a : Addr), vs = [.ref a] ∧ Fd H a ∧ ∀ n H', 1 ≤ n → n ≤ 12 → Stp a H H' → Q (.int n) H'
section
variable {P : Program} {w : World} {K : PySem.W.Frag} {mg : Str → Option Value} {base : Heap}
theorem ok_number {f : Addr} {fd : FuncData} {k : Nat} (F : Fun K "_law_number" "_law_number" s_law_number f fd) (mmin : mg "min" = none) (O_law_take : Ok P w K mg base k "_law_take" P_law_take spTake) : FnOk P w K mg base CX0 (k + 1) f fd P_law_number spNumber := by
  refine F.ok sc_law_number (fun vs H Q E h => ?_) (fun cdv A outer s H vs Q E hr h => ?_)
  · obtain ⟨a, rfl, _⟩ := h
    rfl
  obtain ⟨a, rfl, hF, q⟩ := h
  refine ⟨_, (pss_cons (ps_set (i := 1) sc_law_number.nd rfl (Or.inl rfl) (pe_c O_law_take hr (by rfl) (pa_cons (pv 0) (pa_cons pe_int pa_nil))))
    (pss_cons (ps_if (pt_cmpR op_lt (pv 1) pe_int (nomark _))
      (pss_one (ps_ret (pe_c O_law_take hr (by rfl) (pa_cons (pv 0) (pa_cons pe_int pa_nil)))))
      pss_nil)
    (pss_cons (ps_if (pt_cmpR op_eq (pv 1) pe_int (nomark _))
      (pss_one (ps_ret (pe_c O_law_take hr (by rfl) (pa_cons (pv 0) (pa_cons pe_int pa_nil)))))
      pss_nil)
    (pss_cons (ps_if (pt_cmpR op_eq (pv 1) pe_int (nomark _))
      (pss_one (ps_ret (pe_op op_sub (pe_op op_pow pe_int pe_int) (pe_c O_law_take hr (by rfl) (pa_cons (pv 0) (pa_cons pe_int pa_nil))))))
      pss_nil)
    (pss_cons (ps_if (pt_cmpR op_eq (pv 1) pe_int (nomark _))
      (pss_one (ps_ret (pe_op op_sub (pe_op op_add (pe_op op_pow pe_int pe_int) (pe_c O_law_take hr (by rfl) (pa_cons (pv 0) (pa_cons pe_int pa_nil)))) pe_int)))
      pss_nil)
    (pss_cons (ps_if (pt_cmpR op_eq (pv 1) pe_int (nomark _))
      (pss_one (ps_ret (pe_c O_law_take hr (by rfl) (pa_cons (pv 0) (pa_cons pe_int pa_nil)))))
      pss_nil)
    (pss_one (ps_ret (pe_callB (call_min2 rfl) (by rfl) mmin (by decide +kernel) (pa_cons (pe_op op_pow pe_int pe_int) (pa_cons (pe_op op_add (pe_op op_mul (pe_c O_law_take hr (by rfl) (pa_cons (pv 0) (pa_cons (pe_op op_add (pe_op op_pow pe_int pe_int) pe_int) pa_nil))) (pe_op op_pow pe_int pe_int)) (pe_c O_law_take hr (by rfl) (pa_cons (pv 0) (pa_cons (pe_op op_pow pe_int pe_int) pa_nil)))) pa_nil))))))))))), ?_⟩
  refine rd_take rfl hF (by decide) (by decide) fun kind H1 k0 k1 s1 => ?_
  have q1 : ∀ n H', 0 ≤ n → n ≤ 1000000000000 → Stp a H1 H' → Q (.int n) H' := fun n H' h0 h1 s => q n H' h0 h1 (s1.trans s)
  refine ⟨_, rfl, _, _, rfl, rfl, _, rfl, ite2 (fun c => ?_) (fun c => ?_)⟩
  · exact rd_take rfl s1.2 (by decide) (by decide) fun n H2 n0 n1 s2 => q1 n H2 n0 (by omega) s2
  refine ⟨_, rfl, rfl, _, rfl, ite2 (fun c => ?_) (fun c => ?_)⟩
  · exact rd_take rfl s1.2 (by decide) (by decide) fun n H2 n0 n1 s2 => q1 n H2 n0 (by omega) s2
  refine ⟨_, rfl, rfl, _, rfl, ite2 (fun c => ?_) (fun c => ?_)⟩
  · refine ⟨_, _, rfl, rfl, ⟨by decide, by decide, by decide⟩, rd_take rfl s1.2 (by decide) (by decide) fun n H2 n0 n1 s2 => ⟨_, _, rfl, rfl, ?_⟩⟩
    rw [p12]
    exact q1 _ H2 (by omega) (by omega) s2
  refine ⟨_, rfl, rfl, _, rfl, ite2 (fun c => ?_) (fun c => ?_)⟩
  · refine ⟨_, _, rfl, rfl, ⟨by decide, by decide, by decide⟩, rd_take rfl s1.2 (by decide) (by decide) fun n H2 n0 n1 s2 => ⟨_, _, rfl, rfl, _, _, rfl, rfl, ?_⟩⟩
    rw [p6]
    exact q1 _ H2 (by omega) (by omega) s2
  refine ⟨_, rfl, rfl, _, rfl, ite2 (fun c => ?_) (fun c => ?_)⟩
  · exact rd_take rfl s1.2 (by decide) (by decide) fun n H2 n0 n1 s2 => q1 n H2 n0 (by omega) s2
  · refine ⟨_, _, rfl, rfl, ⟨by decide, by decide, by decide⟩, _, rfl, _, _, rfl, rfl, ⟨by decide, by decide, by decide⟩, _, _, rfl, rfl, a, _, rfl, s1.2, by decide, by decide, fun x H2 x0 x1 s2 => ?_⟩
    refine ⟨_, _, rfl, rfl, ⟨by decide, by decide, by decide⟩, _, _, rfl, rfl, .inr ⟨by decide, by decide⟩, _, rfl, _, _, rfl, rfl, ⟨by decide, by decide, by decide⟩, a, _, rfl, s2.2, by decide, by decide, fun y H3 y0 y1 s3 => ?_⟩
    refine ⟨_, _, rfl, rfl, _, _, rfl, ?_⟩
    rw [p6] at *
    rw [p12]
    refine q1 _ H3 ?_ ?_ (s2.trans s3)
    · split <;> omega
    · split <;> omega
theorem ok_deep {f : Addr} {fd : FuncData} {k : Nat} (F : Fun K "_law_deep" "_law_deep" s_law_deep f fd) (O_law_take : Ok P w K mg base k "_law_take" P_law_take spTake) : FnOk P w K mg base CX0 (k + 1) f fd P_law_deep spDeep := by
  refine F.ok sc_law_deep (fun vs H Q E h => ?_) (fun cdv A outer s H vs Q E hr h => ?_)
  · obtain ⟨a, rfl, _⟩ := h
    rfl
  obtain ⟨a, rfl, hF, q⟩ := h
  refine ⟨_, (pss_cons (ps_set (i := 1) sc_law_deep.nd rfl (Or.inl rfl) (pe_c O_law_take hr (by rfl) (pa_cons (pv 0) (pa_cons pe_int pa_nil))))
    (pss_cons (ps_if (pt_cmpR op_lt (pv 1) pe_int (nomark _))
      (pss_one (ps_ret pe_int))
      pss_nil)
    (pss_cons (ps_if (pt_cmpR op_lt (pv 1) pe_int (nomark _))
      (pss_one (ps_ret (pe_op op_add pe_int (pe_c O_law_take hr (by rfl) (pa_cons (pv 0) (pa_cons pe_int pa_nil))))))
      pss_nil)
    (pss_one (ps_ret (pe_op op_add pe_int (pe_c O_law_take hr (by rfl) (pa_cons (pv 0) (pa_cons pe_int pa_nil))))))))), ?_⟩
  refine rd_take rfl hF (by decide) (by decide) fun kind H1 k0 k1 s1 => ?_
  refine ⟨_, rfl, _, _, rfl, rfl, _, rfl, ite2 (fun c => ?_) (fun c => ?_)⟩
  · exact q 12 H1 (by decide) (by decide) s1
  refine ⟨_, rfl, _, _, rfl, rfl, _, rfl, ite2 (fun c => ?_) (fun c => ?_)⟩
  · exact rd_take rfl s1.2 (by decide) (by decide) fun n H2 n0 n1 s2 => ⟨_, _, rfl, rfl, q _ H2 (by omega) (by omega) (s1.trans s2)⟩
  · exact rd_take rfl s1.2 (by decide) (by decide) fun n H2 n0 n1 s2 => ⟨_, _, rfl, rfl, q _ H2 (by omega) (by omega) (s1.trans s2)⟩
/-- one letter, drawn -/
theorem rd_letter {σ : St} {H : Hp} {Q : VK} {a : Addr} {n : Int} {i : Nat} (hσ : σ[i]? = some (some (.ref a))) (hF : Fd H a) (n0 : 0 < n) (n1 : n ≤ 37) (q : ∀ z H', z.length = 1 → okC z → Stp a H H' → Q (.str z) H') :
    tCall spTake [] E0 (tCons (tVar i) (tCons (tC (.int n)) tNil)) σ H (fun y H2 => rIxS (.str lettersW) y H2 Q) := by
  refine rd_take hσ hF n0 (by omega) fun r H' r0 r1 s => ?_
  obtain ⟨c, cm, ec⟩ := atI_in (xs := lettersW.cps.toList) (i := r) r0 (by rw [letters_lst]; omega)
  exact ⟨_, _, c, rfl, rfl, letters_line, ec, q _ H' rfl (okC_one (letters_ok c cm)) s⟩
theorem ok_word {f : Addr} {fd : FuncData} {k : Nat} (F : Fun K "_law_word" "_law_word" s_law_word f fd) (mrange : mg "range" = none) (O_law_take : Ok P w K mg base k "_law_take" P_law_take spTake) : FnOk P w K mg base CX0 (k + 1) f fd P_law_word spWord := by
  refine F.ok sc_law_word (fun vs H Q E h => ?_) (fun cdv A outer s H vs Q E hr h => ?_)
  · obtain ⟨a, rfl, _⟩ := h
    rfl
  obtain ⟨a, rfl, hF, q⟩ := h
  refine ⟨_, (pss_cons (ps_set (i := 1) sc_law_word.nd rfl (Or.inl rfl) (pe_lst (pa_cons pe_str (pa_cons pe_str (pa_cons pe_str (pa_cons pe_str (pa_cons pe_str (pa_cons pe_str (pa_cons pe_str (pa_cons pe_str (pa_cons pe_str (pa_cons pe_str (pa_cons pe_str (pa_cons pe_str (pa_cons pe_str (pa_cons pe_str (pa_cons pe_str pa_nil)))))))))))))))))
    (pss_cons (ps_set (i := 1) sc_law_word.nd rfl (Or.inl rfl) (pe_op op_cat (pv 1) (pe_lst (pa_cons pe_str (pa_cons pe_str (pa_cons pe_str (pa_cons pe_str (pa_cons pe_str (pa_cons pe_str (pa_cons pe_str (pa_cons pe_str (pa_cons pe_str pa_nil))))))))))))
    (pss_cons (ps_set (i := 2) sc_law_word.nd rfl (Or.inl rfl) pe_str)
    (pss_cons (ps_set (i := 3) sc_law_word.nd rfl (Or.inl rfl) (pe_c O_law_take hr (by rfl) (pa_cons (pv 0) (pa_cons pe_int pa_nil))))
    (pss_cons (ps_if (pt_cmpR op_eq (pv 3) pe_int (nomark _))
      (pss_one (ps_ret (pe_ix ix_list (pv 1) (pe_c O_law_take hr (by rfl) (pa_cons (pv 0) (pa_cons pe_int pa_nil))) (fun _ _ => rfl))))
      pss_nil)
    (pss_cons (ps_set (i := 4) sc_law_word.nd rfl (Or.inl rfl) (pe_ix ix_list (pe_lst (pa_cons pe_int (pa_cons pe_int (pa_cons pe_int (pa_cons (pe_op op_add pe_int (pe_c O_law_take hr (by rfl) (pa_cons (pv 0) (pa_cons pe_int pa_nil)))) pa_nil))))) (pe_op op_sub (pv 3) pe_int) (fun _ _ => rfl)))
    (pss_cons (ps_set (i := 5) sc_law_word.nd rfl (Or.inl rfl) (pe_ix ix_str (pv 2) (pe_c O_law_take hr (by rfl) (pa_cons (pv 0) (pa_cons pe_int pa_nil))) (fun _ _ => rfl)))
    (pss_cons (ps_for PassesOwn.never rfl (pi_range1 (by rfl) mrange (pa_cons (pe_op op_sub (pv 4) pe_int) pa_nil)) (pg_name (i := 6) sc_law_word.nd rfl (Or.inl rfl))
      (pss_one (ps_set (i := 5) sc_law_word.nd rfl (Or.inl rfl) (pe_op op_add_str (pv 5) (pe_ix ix_str (pv 2) (pe_c O_law_take hr (by rfl) (pa_cons (pv 0) (pa_cons pe_int pa_nil))) (fun _ _ => rfl))))))
    (C8.pss_cut (ps_if (pt_cmpR op_in_seq (pv 5) (pe_lst (pa_cons pe_str (pa_cons pe_str (pa_cons pe_str (pa_cons pe_str (pa_cons pe_str (pa_cons pe_str (pa_cons pe_str pa_nil)))))))) (by rfl))
      (pss_one (ps_set (i := 5) sc_law_word.nd rfl (Or.inl rfl) (pe_op op_add_str (pv 5) pe_str)))
      pss_nil)
    (pss_one (ps_ret (pv 5)))))))))))), ?_⟩
  refine ⟨(by show 15 ≤ sizeLine; decide), fun l1 h1 => ⟨_, rfl, (by show 9 ≤ sizeLine; decide), fun l2 h2 => ⟨l1, l2, _, _, rfl, rfl, same_new h2 _ _ _ upd_same, upd_same, (by show 24 ≤ sizeLine; decide), fun p hp => ?_⟩⟩⟩
  have g1 := same_new h1 (.lst [.str "a", .str "b", .str "me", .str "x_1", .str "place", .str "divs", .str "mode", .str "min2", .str "maxi", .str "pick_", .str "nth0", .str "whenever", .str "mo", .str "first", .str "sum"])
  have g2 := same_new h2 (.lst [.str "end", .str "in", .str "do", .str "for", .str "step", .str "lanes", .str "most", .str "least", .str "array"])
  have g3 := same_new hp (.lst (menuW.map V.str))
  have ga := g1.trans (g2.trans g3)
  have hm : (upd (upd (upd H l1 (.lst [.str "a", .str "b", .str "me", .str "x_1", .str "place", .str "divs", .str "mode", .str "min2", .str "maxi", .str "pick_", .str "nth0", .str "whenever", .str "mo", .str "first", .str "sum"])) l2 (.lst [.str "end", .str "in", .str "do", .str "for", .str "step", .str "lanes", .str "most", .str "least", .str "array"])) p (.lst (menuW.map V.str))) p = some (.lst (menuW.map V.str)) := upd_same
  have fa := hF.same ga
  have pa : p ≠ a := by
    obtain ⟨x, y, z, e⟩ := hF.same (g1.trans g2)
    exact (ne_of_none e hp).symm
  have s0 := Stp.of hF ga
  refine rd_take rfl fa (by decide) (by decide) fun kind H1 k0 k1 s1 => ?_
  have hm1 := s1.1 _ _ pa hm
  refine ⟨_, rfl, rfl, _, rfl, ite2 (fun c => ?_) (fun c => ?_)⟩
  · refine ⟨_, rfl, rd_take rfl s1.2 (by decide) (by decide) fun r H2 r0 r1 s2 => ?_⟩
    obtain ⟨v, vm, ev⟩ := atI_in (xs := menuW.map V.str) (i := r) r0 r1
    obtain ⟨z, zm, rfl⟩ := List.mem_map.mp vm
    exact ⟨_, _, _, _, rfl, rfl, SqL.of (s2.1 _ _ pa hm1), ev, q z H2 (menu_ok z zm) (s0.trans (s1.trans s2))⟩
  have kn : kind ≠ 0 := fun z => c (decide_eq_true (by rw [z]))
  refine rd_take rfl s1.2 (by decide) (by decide) fun n H2 n0 n1 s2 => ⟨_, _, rfl, rfl, (by show 4 ≤ sizeLine; decide), fun l hl => ⟨_, rfl, _, _, rfl, rfl, ?_⟩⟩
  obtain ⟨v, vm, ev⟩ := atI_in (xs := ([1, 2, 12, 1 + n] : List Int).map V.int) (i := kind - 1) (by omega) (show kind - 1 < 4 by omega)
  obtain ⟨sz, szm, rfl⟩ := List.mem_map.mp vm
  have szb : 1 ≤ sz ∧ sz ≤ 12 := by
    simp only [List.mem_cons, List.not_mem_nil, or_false] at szm
    omega
  refine ⟨_, _, _, _, rfl, rfl, SqL.of upd_same, ev, ?_⟩
  have s3 := s2.same (same_new hl (.lst [.int 1, .int 2, .int 12, .int (1 + n)]))
  have s03 := s0.trans (s1.trans s3)
  refine ⟨_, rfl, rd_letter rfl s3.2 (by decide) (by decide) fun z H3 z1 zo s4 => ?_⟩
  refine ⟨_, rfl, _, _, rfl, rfl, sz - 1, rfl, by omega, by omega, for_range (n := (sz - 1).toNat) (fun i σ H' => ∃ (wd : Str) (y6 : Option V), σ = [some (.ref a), some (.ref p), some (.str lettersW), some (.int kind), some (.int sz), some (.str wd), y6] ∧ Stp a H H' ∧ wd.length = 1 + i ∧ okC wd)
    ⟨z, _, rfl, s03.trans s4, by omega, zo⟩ (fun i σ H' hi hv => ?_) (fun σ H' hv => ?_)⟩
  · obtain ⟨wd, y6, rfl, sm, ln, oc⟩ := hv
    refine ⟨_, rfl, _, rfl, rd_letter rfl sm.2 (by decide) (by decide) fun z H3 z1 zo s4 => ⟨_, _, rfl, rfl, small_line (by omega), ?_⟩⟩
    exact ⟨_, _, rfl, sm.trans s4, by rw [Str.length_append]; omega, okC_app oc zo⟩
  · obtain ⟨wd, y6, rfl, sm, ln, oc⟩ := hv
    refine ⟨fun σ2 H2 => ∃ (wd : Str) (y6 : Option V), σ2 = [some (.ref a), some (.ref p), some (.str lettersW), some (.int kind), some (.int sz), some (.str wd), y6] ∧ Stp a H H2 ∧ WordOk wd, ?_, fun σ2 H2 hm2 => ?_⟩
    · refine ⟨_, rfl, (by show 7 ≤ sizeLine; decide), fun l3 hl3 => ⟨l3, barredW.map V.str, rfl, .inl (SqL.of upd_same), rfl, flat_all, _, rfl, ite2 (fun c => ?_) (fun c => ?_)⟩⟩
      · refine ⟨_, rfl, _, _, rfl, rfl, small_line (by show wd.length + 1 ≤ 1000; omega), ?_⟩
        exact ⟨_, _, rfl, sm.same (same_new hl3 _), ⟨by rw [Str.length_append]; omega, by rw [Str.length_append]; show wd.length + 1 ≤ 13; omega, okC_app oc (okC_of_all (by decide +kernel))⟩⟩
      · exact ⟨_, _, rfl, sm.same (same_new hl3 _), ⟨by omega, by omega, oc⟩⟩
    · obtain ⟨wd, y6, rfl, sm, wo⟩ := hm2
      exact ⟨_, rfl, q wd H2 wo sm⟩
end
end K01
namespace K01
open PySem L2 Vk
section
variable {P : Program} {w : World} {K : PySem.W.Frag} {mg : Str → Option Value} {base : Heap}
theorem ok_near {f : Addr} {fd : FuncData} {k : Nat} (F : Fun K "_law_near" "_law_near" s_law_near f fd) (mlen : mg "len" = none) (O_law_take : Ok P w K mg base k "_law_take" P_law_take spTake) : FnOk P w K mg base CX0 (k + 1) f fd P_law_near spNear := by
  refine F.ok sc_law_near (fun vs H Q E h => ?_) (fun cdv A outer s H vs Q E hr h => ?_)
  · obtain ⟨a, w, rfl, _⟩ := h
    rfl
  obtain ⟨a, wd, rfl, hF, wo, q⟩ := h
  refine ⟨_, (pss_cons (ps_set (i := 2) sc_law_near.nd rfl (Or.inl rfl) pe_str)
    (pss_cons (ps_set (i := 3) sc_law_near.nd rfl (Or.inl rfl) (pe_c O_law_take hr (by rfl) (pa_cons (pv 0) (pa_cons pe_int pa_nil))))
    (pss_cons (ps_set (i := 4) sc_law_near.nd rfl (Or.inl rfl) (pe_op op_add_str (pe_slice sl_str (pv 1) po_none (po_some pe_int)) (pe_ix ix_str (pv 2) (pe_c O_law_take hr (by rfl) (pa_cons (pv 0) (pa_cons pe_int pa_nil))) (fun _ _ => rfl))))
    (C8.pss_cut (ps_if (PW.pt (pw_and (pt_cmpR op_eq (pv 3) pe_int (nomark _)) (pw_and1 (pt_cmpR op_gt (pe_callB call_len_str (by rfl) mlen (by decide +kernel) (pa_cons (pv 1) pa_nil)) pe_int (nomark _)))))
      (pss_one (ps_set (i := 4) sc_law_near.nd rfl (Or.inl rfl) (pe_slice sl_str (pv 1) po_none (po_some (pe_op op_sub (pe_callB call_len_str (by rfl) mlen (by decide +kernel) (pa_cons (pv 1) pa_nil)) pe_int)))))
      pss_nil)
    (C8.pss_cut (ps_if (pt_cmpR op_eq (pv 3) pe_int (nomark _))
      (pss_cons (ps_set (i := 5) sc_law_near.nd rfl (Or.inl rfl) (pe_c O_law_take hr (by rfl) (pa_cons (pv 0) (pa_cons (pe_callB call_len_str (by rfl) mlen (by decide +kernel) (pa_cons (pv 1) pa_nil)) pa_nil))))
      (pss_one (ps_set (i := 4) sc_law_near.nd rfl (Or.inl rfl) (pe_op op_add_str (pe_op op_add_str (pe_slice sl_str (pv 1) po_none (po_some (pv 5))) (pe_ix ix_str (pv 2) (pe_c O_law_take hr (by rfl) (pa_cons (pv 0) (pa_cons pe_int pa_nil))) (fun _ _ => rfl))) (pe_slice sl_str (pv 1) (po_some (pe_op op_add (pv 5) pe_int)) po_none)))))
      pss_nil)
    (C8.pss_cut (ps_if (pt_cmpR op_in_seq (pv 4) (pe_lst (pa_cons pe_str (pa_cons pe_str (pa_cons pe_str (pa_cons pe_str (pa_cons pe_str (pa_cons pe_str (pa_cons pe_str pa_nil)))))))) (by rfl))
      (pss_one (ps_set (i := 4) sc_law_near.nd rfl (Or.inl rfl) (pe_op op_add_str (pv 4) pe_str)))
      pss_nil)
    (pss_one (ps_ret (pv 4))))))))), ?_⟩
  have wl : wd.length ≤ sizeLine := small_line (by have := wo.hi; omega)
  have hlo := wo.lo
  have hhi := wo.hi
  refine rd_take rfl hF (by decide) (by decide) fun kind H1 k0 k1 s1 => ?_
  refine ⟨_, rfl, 11, rfl, wd, rfl, wl, _, rfl, rd_letter rfl s1.2 (by decide) (by decide) fun z H2 z1 zo s2 => ⟨_, _, rfl, rfl, ?_, ?_⟩⟩
  · have := len_head wd 11
    exact small_line (by rw [show ((11 : Int)) = ((11 : Nat) : Int) from rfl, this]; omega)
  have s12 := s1.trans s2
  have n1 : WordOk (cutS wd none (some 11) ++ z) := by
    have e := len_head wd 11
    have e' : (cutS wd none (some 11)).length = min 11 wd.length := e
    exact ⟨by rw [Str.length_append]; omega, by rw [Str.length_append]; omega, okC_app (okC_cut wo.ok _ _) zo⟩
  refine ⟨fun σ2 H2 => ∃ (nr : Str) (y5 : Option V), σ2 = [some (.ref a), some (.str wd), some (.str lettersW), some (.int kind), some (.str nr), y5] ∧ Stp a H H2 ∧ WordOk nr, ?_, fun σ2 H2 hm => ?_⟩
  · refine ⟨_, rfl, rfl, _, rfl, ite2 (fun c => ?_) (fun c => ⟨_, _, rfl, s12, n1⟩)⟩
    refine ⟨_, rfl, _, rfl, wl, _, _, rfl, rfl, _, rfl, ite2' (fun c => ?_) (fun c => ⟨_, _, rfl, s12, n1⟩)⟩
    refine ⟨_, rfl, _, rfl, _, rfl, wl, _, _, rfl, rfl, _, rfl, wd, rfl, wl, ?_⟩
    have e : (wd.length : Int) - 1 = ((wd.length - 1 : Nat) : Int) := by omega
    have c2 : 1 < wd.length := by omega
    refine ⟨_, _, rfl, s12, ⟨?_, ?_, okC_cut wo.ok _ _⟩⟩
    · rw [e, len_head]; omega
    · rw [e, len_head]; omega
  obtain ⟨nr, y5, rfl, s3, n3⟩ := hm
  refine ⟨fun σ2 H2 => ∃ (nr : Str) (y5 : Option V), σ2 = [some (.ref a), some (.str wd), some (.str lettersW), some (.int kind), some (.str nr), y5] ∧ Stp a H H2 ∧ WordOk nr, ?_, fun σ2 H2 hm => ?_⟩
  · refine ⟨_, rfl, rfl, _, rfl, ite2 (fun c => ?_) (fun c => ⟨_, _, rfl, s3, n3⟩)⟩
    refine ⟨_, rfl, _, rfl, _, rfl, wl, a, _, rfl, s3.2, by omega, by omega, fun r H4 r0 r1 s4 => ?_⟩
    obtain ⟨j, rfl⟩ := Int.eq_ofNat_of_zero_le r0
    have e1 := len_head wd j
    have e2 := len_tail wd (j + 1)
    refine ⟨_, rfl, _, rfl, _, rfl, wd, rfl, wl, _, rfl, rd_letter rfl s4.2 (by decide) (by decide) fun z H5 z1 zo s5 => ⟨_, _, rfl, rfl, small_line (by rw [e1]; omega), ?_⟩⟩
    refine ⟨_, rfl, _, rfl, _, _, rfl, rfl, _, rfl, wd, rfl, wl, _, _, rfl, rfl, small_line (by rw [Str.length_append, e1, show ((j : Nat) : Int) + 1 = ((j + 1 : Nat) : Int) from rfl, e2]; omega), ?_⟩
    refine ⟨_, _, rfl, s3.trans (s4.trans s5), ⟨?_, ?_, okC_app (okC_app (okC_cut wo.ok _ _) zo) (okC_cut wo.ok _ _)⟩⟩
    · rw [Str.length_append, Str.length_append, e1]; omega
    · rw [Str.length_append, Str.length_append, e1, show ((j : Nat) : Int) + 1 = ((j + 1 : Nat) : Int) from rfl, e2]; omega
  obtain ⟨nr, y5, rfl, s6, n6⟩ := hm
  refine ⟨fun σ2 H2 => ∃ (nr : Str) (y5 : Option V), σ2 = [some (.ref a), some (.str wd), some (.str lettersW), some (.int kind), some (.str nr), y5] ∧ Stp a H H2 ∧ WordOk nr, ?_, fun σ2 H2 hm => ?_⟩
  · refine ⟨_, rfl, (by show 7 ≤ sizeLine; decide), fun l3 hl3 => ⟨l3, barredW.map V.str, rfl, .inl (SqL.of upd_same), rfl, flat_all, _, rfl, ite2 (fun c => ?_) (fun c => ?_)⟩⟩
    · have b4 := barred_len nr (inV_str c)
      refine ⟨_, rfl, _, _, rfl, rfl, small_line (by show nr.length + 1 ≤ 1000; omega), ?_⟩
      exact ⟨_, _, rfl, s6.same (same_new hl3 _), ⟨by rw [Str.length_append]; show 1 ≤ nr.length + 1; omega, by rw [Str.length_append]; show nr.length + 1 ≤ 13; omega, okC_app n6.ok (okC_of_all (by decide +kernel))⟩⟩
    · exact ⟨_, _, rfl, s6.same (same_new hl3 _), n6⟩
  obtain ⟨nr, y5, rfl, s7, n7⟩ := hm
  exact ⟨_, rfl, q nr H2 n7 s7⟩
theorem ok_word_row {f : Addr} {fd : FuncData} {k : Nat} (F : Fun K "_law_word_row" "_law_word_row" s_law_word_row f fd) (mrange : mg "range" = none) (O_law_take : Ok P w K mg base k "_law_take" P_law_take spTake) (O_law_word : Ok P w K mg base k "_law_word" P_law_word spWord)
    (O_law_near : Ok P w K mg base k "_law_near" P_law_near spNear) : FnOk P w K mg base CX0 (k + 1) f fd P_law_word_row spWordRow := by
  refine F.ok sc_law_word_row (fun vs H Q E h => ?_) (fun cdv A outer s H vs Q E hr h => ?_)
  · obtain ⟨a, w, rfl, _⟩ := h
    rfl
  obtain ⟨a, n, rfl, hF, n0, n1, q⟩ := h
  refine ⟨_, (pss_cons (ps_set (i := 2) sc_law_word_row.nd rfl (Or.inl rfl) (pe_lst pa_nil))
    (pss_cons (ps_for PassesOwn.never rfl (pi_range1 (by rfl) mrange (pa_cons (pv 1) pa_nil)) (pg_name (i := 3) sc_law_word_row.nd rfl (Or.inl rfl))
      (pss_cons (ps_set (i := 4) sc_law_word_row.nd rfl (Or.inl rfl) (pe_c O_law_word hr (by rfl) (pa_cons (pv 0) pa_nil)))
      (C8.pss_cut (ps_if (PW.pt (pw_and (pt_cmpR op_gt (pv 3) pe_int (nomark _)) (pw_and1 (pt_cmpR op_eq (pe_c O_law_take hr (by rfl) (pa_cons (pv 0) (pa_cons pe_int pa_nil))) pe_int (nomark _)))))
        (pss_one (ps_set (i := 4) sc_law_word_row.nd rfl (Or.inl rfl) (pe_c O_law_near hr (by rfl) (pa_cons (pv 0) (pa_cons (pe_ix ix_list (pv 2) (pe_c O_law_take hr (by rfl) (pa_cons (pv 0) (pa_cons (pv 3) pa_nil))) (fun _ _ => rfl)) pa_nil)))))
        pss_nil)
      (pss_one (ps_expr (pe_bm PySem.F.plainAttrs_list PySem.F.slot_list_append PySem.F.type_list_append mt_append (pv 2) (pa_cons (pv 4) pa_nil)))))))
    (pss_one (ps_ret (pv 2))))), ?_⟩
  refine ⟨(by show 0 ≤ sizeLine; decide), fun p hp => ⟨_, rfl, n, rfl, by omega, by omega, ?_⟩⟩
  have pa : p ≠ a := by
    obtain ⟨x, y, z, e⟩ := hF
    exact (ne_of_none e hp).symm
  refine for_range (n := n.toNat) (fun i σ H' => ∃ (ws : List Str) (y3 y4 : Option V), σ = [some (.ref a), some (.int n), some (.ref p), y3, y4] ∧ Stp a H H' ∧ H' p = some (.lst (ws.map V.str)) ∧ ws.length = i ∧ ∀ w ∈ ws, WordOk w)
    ⟨[], _, _, rfl, Stp.of hF (same_new hp _), upd_same, rfl, by simp⟩ (fun i σ H' hi hv => ?_) (fun σ H' hv => ?_)
  · obtain ⟨ws, y3, y4, rfl, sm, ep, ln, wo⟩ := hv
    refine ⟨_, rfl, a, rfl, sm.2, fun wd H2 wo2 s2 => ?_⟩
    refine ⟨fun σ3 H3 => ∃ (wd : Str), σ3 = [some (.ref a), some (.int n), some (.ref p), some (.int (0 + i)), some (.str wd)] ∧ Stp a H' H3 ∧ WordOk wd, ?_, fun σ3 H3 hm => ?_⟩
    · refine ⟨_, rfl, _, _, rfl, rfl, _, rfl, ite2' (fun c => ?_) (fun c => ⟨wd, rfl, s2, wo2⟩)⟩
      refine rd_take rfl s2.2 (by decide) (by decide) fun r4 H4 _ _ s4 => ⟨rfl, _, rfl, ite2 (fun c => ?_) (fun c => ⟨wd, rfl, s2.trans s4, wo2⟩)⟩
      refine ⟨_, rfl, _, rfl, _, rfl, _, rfl, a, _, rfl, s4.2, by omega, by omega, fun r5 H5 r50 r51 s5 => ?_⟩
      obtain ⟨v, vm, ev⟩ := atI_in (xs := ws.map V.str) (i := r5) r50 (by rw [List.length_map]; omega)
      obtain ⟨z, zm, rfl⟩ := List.mem_map.mp vm
      refine ⟨_, _, _, _, rfl, rfl, SqL.of ((s2.trans (s4.trans s5)).1 _ _ pa ep), ev, a, z, rfl, s5.2, wo z zm, fun w' H6 wo6 s6 => ?_⟩
      exact ⟨w', rfl, s2.trans (s4.trans (s5.trans s6)), wo6⟩
    · obtain ⟨wd, rfl, s3, wo3⟩ := hm
      have ep3 := s3.1 _ _ pa ep
      refine ⟨_, rfl, .inl ⟨rfl, _, SqL.of ep3⟩, _, rfl, p, _, _, rfl, rfl, ep3, Nat.lt_of_le_of_lt (by rw [List.length_map]; show ws.length ≤ 1000; omega) (small1000 (Nat.le_refl 1000)), ?_⟩
      refine ⟨ws ++ [wd], _, _, rfl, ⟨fun b o nb eb => ?_, ?_⟩, ?_, by rw [List.length_append, ln]; rfl, ?_⟩
      · rw [upd_ne (ne_of_none eb hp)]
        exact s3.1 b o nb (sm.1 b o nb eb)
      · obtain ⟨x, y, z, e⟩ := s3.2
        exact ⟨x, y, z, by rw [upd_ne pa.symm]; exact e⟩
      · rw [upd_same, List.map_append]
        rfl
      · intro w hw
        rcases List.mem_append.mp hw with z | z
        · exact wo w z
        · rw [List.mem_singleton.mp z]
          exact wo3
  · obtain ⟨ws, y3, y4, rfl, sm, ep, ln, wo⟩ := hv
    exact ⟨_, rfl, q p H' ws sm hp ep (by omega) wo⟩
end
end K01
namespace K01
open PySem L2 Vk
def spLeaf (K : PySem.W.Frag) : Sp := fun vs H Q _ => ∃ (a c : Addr) (ns as : List Str), vs = [.ref a, .ref c] ∧ Fd H a ∧ Ws H c ns ∧ ∀ (v : V) (H' : Hp) (e : Ex), Stp a H H' → e.At K H' v → e.dep ≤ 1 → e.good ns as → Q v H'
def spTree (K : PySem.W.Frag) (m : Nat) : Sp := fun vs H Q _ => ∃ (a b c d g : Addr) (n : Int) (tight : Bool) (ns as ms : List Str), vs = [.ref a, .ref b, .int n, .bl tight, .ref c, .ref d, .ref g] ∧ Fd H a ∧ Rm H b ∧ Ws H c ns ∧ Ws H d as ∧ Ws H g ms ∧ 1 ≤ n ∧ n ≤ m ∧ n ≤ 1000 ∧
  ∀ (v : V) (H' : Hp) (e : Ex), St2 a b H H' → e.At K H' v → e.dep ≤ m → e.good ns as → Q v H'
def spParts (K : PySem.W.Frag) : Sp := fun vs H Q _ => ∃ (v : V) (e : Ex), vs = [v] ∧ e.At K H v ∧ ∀ (p : Addr) (H' : Hp) (us : List V), Same H H' → H p = none → H' p = some (.lst us) → Ex.AtAll K H' e.kids us → Q (.ref p) H'
def spSubs (K : PySem.W.Frag) (n : Nat) : Sp := fun vs H Q _ => ∃ (v : V) (e : Ex), vs = [v] ∧ e.At K H v ∧ e.dep ≤ n ∧ n ≤ 12 ∧ ∀ (p : Addr) (H' : Hp) (us : List V), Same H H' → H p = none → H' p = some (.lst us) → Ex.AtAll K H' e.subs us → Q (.ref p) H'
/-- what the draws of a sort, a word and a number of parts come to -/
def Chosen (as : List Str) (sort word : Str) (many : Int) : Prop :=
  (sort = "read" ∧ word ∈ as ∧ many = 1) ∨ (sort = "call" ∧ (((word = "min" ∨ word = "max") ∧ many = 2) ∨ (word = "pick" ∧ many = 3) ∨ (word = "nth" ∧ many = 1))) ∨ (sort ≠ "read" ∧ sort ≠ "call" ∧ word ∈ signsW ∧ many = 2)
theorem Chosen.bd {as : List Str} {sort word : Str} {many : Int} (h : Chosen as sort word many) : 1 ≤ many ∧ many ≤ 3 := by
  rcases h with ⟨_, _, rfl⟩ | ⟨_, ⟨_, rfl⟩ | ⟨_, rfl⟩ | ⟨_, rfl⟩⟩ | ⟨_, _, _, rfl⟩ <;> decide
section
variable {P : Program} {w : World} {K : PySem.W.Frag} {mg : Str → Option Value} {base : Heap}
theorem ok_leaf {f : Addr} {fd : FuncData} {k : Nat} (F : Fun K "_law_leaf" "_law_leaf" s_law_leaf f fd) (mlen : mg "len" = none) (O_law_take : Ok P w K mg base k "_law_take" P_law_take spTake) (O_law_number : Ok P w K mg base k "_law_number" P_law_number spNumber) : FnOk P w K mg base CX0 (k + 1) f fd P_law_leaf (spLeaf K) := by
  refine F.ok sc_law_leaf (fun vs H Q E h => ?_) (fun cdv A outer s H vs Q E hr h => ?_)
  · obtain ⟨a, c, ns, as, rfl, _⟩ := h
    rfl
  obtain ⟨a, c, ns, as, rfl, hF, hW, q⟩ := h
  refine ⟨_, (pss_cons (ps_if (pt_cmpR op_lt (pe_c O_law_take hr (by rfl) (pa_cons (pv 0) (pa_cons pe_int pa_nil))) pe_int (nomark _))
      (pss_one (ps_ret (pe_tup (pa_cons pe_str (pa_cons (pe_c O_law_number hr (by rfl) (pa_cons (pv 0) pa_nil)) pa_nil)))))
      pss_nil)
    (pss_one (ps_ret (pe_tup (pa_cons pe_str (pa_cons (pe_ix ix_list (pv 1) (pe_c O_law_take hr (by rfl) (pa_cons (pv 0) (pa_cons (pe_callB call_len_seq (by rfl) mlen (by decide +kernel) (pa_cons (pv 1) pa_nil)) pa_nil))) (fun _ _ => rfl)) pa_nil)))))), ?_⟩
  refine rd_take rfl hF (by decide) (by decide) fun kind H1 k0 k1 s1 => ⟨_, _, rfl, rfl, _, rfl, ite2 (fun cc => ?_) (fun cc => ?_)⟩
  · refine ⟨_, rfl, a, rfl, s1.2, fun n H2 n0 n1 s2 => ⟨(by show 2 ≤ sizeLine; decide), fun t ht => ?_⟩⟩
    exact q _ _ (.num n) ((s1.trans s2).same (same_new ht _)) ⟨t, rfl, SqT.of upd_same⟩ (Nat.le_refl 1) ⟨n0, n1⟩
  · have hW1 := hW.stp hF s1
    have hlen : (ns.map V.str).length = ns.length := List.length_map _
    have hz := hW.sz
    have hp := hW.pos
    refine ⟨_, rfl, _, rfl, _, rfl, _, _, rfl, .inl (SqL.of hW1.at'), a, _, rfl, s1.2, by omega, by omega, fun r H2 r0 r1 s2 => ?_⟩
    obtain ⟨v, vm, ev⟩ := atI_in (xs := ns.map V.str) (i := r) r0 r1
    obtain ⟨z, zm, rfl⟩ := List.mem_map.mp vm
    refine ⟨_, _, _, _, rfl, rfl, SqL.of (hW1.stp s1.2 s2).at', ev, (by show 2 ≤ sizeLine; decide), fun t ht => ?_⟩
    exact q _ _ (.nam z) ((s1.trans s2).same (same_new ht _)) ⟨t, rfl, SqT.of upd_same⟩ (Nat.le_refl 1) zm
theorem ok_parts {f : Addr} {fd : FuncData} {k : Nat} (F : Fun K "_law_parts" "_law_parts" s_law_parts f fd) (mlist : mg "list" = none) : FnOk P w K mg base CX0 (k + 1) f fd P_law_parts (spParts K) := by
  refine F.ok sc_law_parts (fun vs H Q E h => ?_) (fun cdv A outer s H vs Q E hr h => ?_)
  · obtain ⟨a, c, rfl, _⟩ := h
    rfl
  obtain ⟨v, e, rfl, hAt, q⟩ := h
  refine ⟨_, (pss_cons (ps_if (pt_cmpR op_eq (pe_ix ix_tup (pv 0) pe_int (fun _ _ => rfl)) pe_str (nomark _))
      (pss_one (ps_ret (pe_lst (pa_cons (pe_ix ix_tup (pv 0) pe_int (fun _ _ => rfl)) pa_nil))))
      pss_nil)
    (pss_cons (ps_if (pt_cmpR op_eq (pe_ix ix_tup (pv 0) pe_int (fun _ _ => rfl)) pe_str (nomark _))
      (pss_one (ps_ret (pe_lst (pa_cons (pe_ix ix_tup (pv 0) pe_int (fun _ _ => rfl)) (pa_cons (pe_ix ix_tup (pv 0) pe_int (fun _ _ => rfl)) pa_nil)))))
      pss_nil)
    (pss_cons (ps_if (pt_cmpR op_eq (pe_ix ix_tup (pv 0) pe_int (fun _ _ => rfl)) pe_str (nomark _))
      (pss_one (ps_ret (pe_callTy call_list_of (by rfl) mlist (by decide +kernel) (pa_cons (pe_ix ix_tup (pv 0) pe_int (fun _ _ => rfl)) pa_nil))))
      pss_nil)
    (pss_one (ps_ret (pe_lst pa_nil)))))), ?_⟩
  cases e with
  | num n =>
    obtain ⟨a, rfl, hT⟩ := hAt
    refine ⟨_, rfl, _, _, _, _, rfl, rfl, hT, atI_nat (j := 0) rfl, rfl, _, rfl, itN (by decide +kernel) ⟨_, rfl, _, _, _, _, rfl, rfl, hT, atI_nat (j := 0) rfl, rfl, _, rfl, itN (by decide +kernel) ⟨_, rfl, _, _, _, _, rfl, rfl, hT, atI_nat (j := 0) rfl, rfl, _, rfl, itN (by decide +kernel) ?_⟩⟩⟩
    exact ⟨(by show 0 ≤ sizeLine; decide), fun p hp => q p _ [] (same_new hp _) hp upd_same trivial⟩
  | nam n =>
    obtain ⟨a, rfl, hT⟩ := hAt
    refine ⟨_, rfl, _, _, _, _, rfl, rfl, hT, atI_nat (j := 0) rfl, rfl, _, rfl, itN (by decide +kernel) ⟨_, rfl, _, _, _, _, rfl, rfl, hT, atI_nat (j := 0) rfl, rfl, _, rfl, itN (by decide +kernel) ⟨_, rfl, _, _, _, _, rfl, rfl, hT, atI_nat (j := 0) rfl, rfl, _, rfl, itN (by decide +kernel) ?_⟩⟩⟩
    exact ⟨(by show 0 ≤ sizeLine; decide), fun p hp => q p _ [] (same_new hp _) hp upd_same trivial⟩
  | op s l r =>
    obtain ⟨a, x, y, rfl, hT, hl, hr1⟩ := hAt
    refine ⟨_, rfl, _, _, _, _, rfl, rfl, hT, atI_nat (j := 0) rfl, rfl, _, rfl, itN (by decide +kernel) ⟨_, rfl, _, _, _, _, rfl, rfl, hT, atI_nat (j := 0) rfl, rfl, _, rfl, itY ?_⟩⟩
    refine ⟨_, rfl, _, _, _, _, rfl, rfl, hT, atI_nat (j := 2) rfl, _, rfl, _, _, _, _, rfl, rfl, hT, atI_nat (j := 3) rfl, (by show 2 ≤ sizeLine; decide), fun p hp => ?_⟩
    have t := Same.tu (K := K) (same_new hp (.lst [x, y]))
    exact q p _ [x, y] (same_new hp _) hp upd_same ⟨hl.tu t, hr1.tu t, trivial⟩
  | rd s l =>
    obtain ⟨a, x, rfl, hT, hl⟩ := hAt
    refine ⟨_, rfl, _, _, _, _, rfl, rfl, hT, atI_nat (j := 0) rfl, rfl, _, rfl, itY ?_⟩
    refine ⟨_, rfl, _, _, _, _, rfl, rfl, hT, atI_nat (j := 2) rfl, (by show 1 ≤ sizeLine; decide), fun p hp => ?_⟩
    have t := Same.tu (K := K) (same_new hp (.lst [x]))
    exact q p _ [x] (same_new hp _) hp upd_same ⟨hl.tu t, trivial⟩
  | c1 s l =>
    obtain ⟨a, tt, x, rfl, hT, hT2, hl⟩ := hAt
    refine ⟨_, rfl, _, _, _, _, rfl, rfl, hT, atI_nat (j := 0) rfl, rfl, _, rfl, itN (by decide +kernel) ⟨_, rfl, _, _, _, _, rfl, rfl, hT, atI_nat (j := 0) rfl, rfl, _, rfl, itN (by decide +kernel) ⟨_, rfl, _, _, _, _, rfl, rfl, hT, atI_nat (j := 0) rfl, rfl, _, rfl, itY ?_⟩⟩⟩
    refine ⟨_, rfl, _, _, _, _, rfl, rfl, hT, atI_nat (j := 2) rfl, tt, _, rfl, .inr hT2, fun p hp => ?_⟩
    have t := Same.tu (K := K) (same_new hp (.lst [x]))
    exact q p _ [x] (same_new hp _) hp upd_same ⟨hl.tu t, trivial⟩
  | c2 s l r =>
    obtain ⟨a, tt, x, y, rfl, hT, hT2, hl, hr1⟩ := hAt
    refine ⟨_, rfl, _, _, _, _, rfl, rfl, hT, atI_nat (j := 0) rfl, rfl, _, rfl, itN (by decide +kernel) ⟨_, rfl, _, _, _, _, rfl, rfl, hT, atI_nat (j := 0) rfl, rfl, _, rfl, itN (by decide +kernel) ⟨_, rfl, _, _, _, _, rfl, rfl, hT, atI_nat (j := 0) rfl, rfl, _, rfl, itY ?_⟩⟩⟩
    refine ⟨_, rfl, _, _, _, _, rfl, rfl, hT, atI_nat (j := 2) rfl, tt, _, rfl, .inr hT2, fun p hp => ?_⟩
    have t := Same.tu (K := K) (same_new hp (.lst [x, y]))
    exact q p _ [x, y] (same_new hp _) hp upd_same ⟨hl.tu t, hr1.tu t, trivial⟩
  | c3 s l r z =>
    obtain ⟨a, tt, x, y, u, rfl, hT, hT2, hl, hr1, hz⟩ := hAt
    refine ⟨_, rfl, _, _, _, _, rfl, rfl, hT, atI_nat (j := 0) rfl, rfl, _, rfl, itN (by decide +kernel) ⟨_, rfl, _, _, _, _, rfl, rfl, hT, atI_nat (j := 0) rfl, rfl, _, rfl, itN (by decide +kernel) ⟨_, rfl, _, _, _, _, rfl, rfl, hT, atI_nat (j := 0) rfl, rfl, _, rfl, itY ?_⟩⟩⟩
    refine ⟨_, rfl, _, _, _, _, rfl, rfl, hT, atI_nat (j := 2) rfl, tt, _, rfl, .inr hT2, fun p hp => ?_⟩
    have t := Same.tu (K := K) (same_new hp (.lst [x, y, u]))
    exact q p _ [x, y, u] (same_new hp _) hp upd_same ⟨hl.tu t, hr1.tu t, hz.tu t, trivial⟩
theorem subs_eq : ∀ e : Ex, e.subs = e :: e.kids.flatMap Ex.subs
  | .num _ => rfl
  | .nam _ => rfl
  | .op _ _ _ => by simp [Ex.subs, Ex.kids]
  | .rd _ _ => by simp [Ex.subs, Ex.kids]
  | .c1 _ _ => by simp [Ex.subs, Ex.kids]
  | .c2 _ _ _ => by simp [Ex.subs, Ex.kids]
  | .c3 _ _ _ _ => by simp [Ex.subs, Ex.kids]
theorem ok_subs {f : Addr} {fd : FuncData} {k n : Nat} (F : Fun K "_law_subs" "_law_subs" s_law_subs f fd) (O_law_parts : Ok P w K mg base k "_law_parts" P_law_parts (spParts K)) (O_law_subs : Ok P w K mg base k "_law_subs" P_law_subs (spSubs K n)) : FnOk P w K mg base CX0 (k + 1) f fd P_law_subs (spSubs K (n + 1)) := by
  refine F.ok sc_law_subs (fun vs H Q E h => ?_) (fun cdv A outer s H vs Q E hr h => ?_)
  · obtain ⟨a, c, rfl, _⟩ := h
    rfl
  obtain ⟨v, e, rfl, hAt, hd, hn, q⟩ := h
  refine ⟨_, (pss_cons (ps_set (i := 1) sc_law_subs.nd rfl (Or.inl rfl) (pe_lst (pa_cons (pv 0) pa_nil)))
    (pss_cons (ps_for PassesOwn.never rfl (pi_list (pe_c O_law_parts hr (by rfl) (pa_cons (pv 0) pa_nil))) (pg_name (i := 2) sc_law_subs.nd rfl (Or.inl rfl))
      (pss_one (ps_set (i := 1) sc_law_subs.nd rfl (Or.inl rfl) (pe_op op_cat (pv 1) (pe_c O_law_subs hr (by rfl) (pa_cons (pv 2) pa_nil))))))
    (pss_one (ps_ret (pv 1))))), ?_⟩
  refine ⟨_, rfl, (by show 1 ≤ sizeLine; decide), fun p1 h1 => ⟨_, rfl, v, e, rfl, hAt.tu (Same.tu (same_new h1 _)), fun pk H2 ks s2 npk ek ak => ⟨pk, rfl, ⟨_, SqL.of ek⟩, ?_⟩⟩⟩
  have g1 := same_new h1 (.lst [v])
  have g2 := g1.trans s2
  have lenk := ak.len
  refine for_list (xs := ks) (fun i σ H' => ∃ (p : Addr) (us : List V) (y2 : Option V), σ = [some v, some (.ref p), y2] ∧ Same H2 H' ∧ H p = none ∧ H' p = some (.lst us) ∧ Ex.AtAll K H' (e :: (e.kids.take i).flatMap Ex.subs) us)
    ⟨p1, [v], _, rfl, Same.refl _, h1, s2 _ _ upd_same, ⟨hAt.tu (Same.tu g2), by simp [Ex.AtAll]⟩⟩ (fun i σ H' _ hv => ?_) (fun i x σ H' hx hv => ?_) (fun σ H' hv => ?_)
  · obtain ⟨p, us, y2, rfl, sm, _⟩ := hv
    exact SqL.of (sm _ _ ek)
  · obtain ⟨p, us, y2, rfl, sm, np, ep, au⟩ := hv
    obtain ⟨ei, gi, ati⟩ := ak.get hx
    have eim : ei ∈ e.kids := List.mem_of_getElem? gi
    have ed := Ex.kids_dep eim
    refine ⟨_, rfl, _, rfl, x, ei, rfl, ati.tu (Same.tu sm), by omega, by omega, fun p3 H3 us3 s3 np3 ep3 au3 => ?_⟩
    have tk : (e.kids.take (i + 1)).flatMap Ex.subs = (e.kids.take i).flatMap Ex.subs ++ ei.subs := by
      rw [List.take_add_one, gi, List.flatMap_append]
      simp
    have au' := au.tu (Same.tu s3)
    have app := au'.app au3
    have small : us.length + us3.length ≤ sizeLine := by
      have l1 : ((e :: (e.kids.take i).flatMap Ex.subs) ++ ei.subs).length = us.length + us3.length := by rw [app.len, List.length_append]
      have l2 := Ex.subs_len e
      have l3 : ((e :: (e.kids.take i).flatMap Ex.subs) ++ ei.subs).length ≤ e.subs.length := by
        rw [subs_eq e, List.cons_append, ← tk]
        have : (e.kids.take (i + 1)).flatMap Ex.subs <+: e.kids.flatMap Ex.subs := by
          refine ⟨(e.kids.drop (i + 1)).flatMap Ex.subs, ?_⟩
          rw [← List.flatMap_append, List.take_append_drop]
        have := this.length_le
        simp only [List.length_cons]
        omega
      have l4 : 4 ^ e.dep ≤ 4 ^ 12 := Nat.pow_le_pow_right (by decide) (by omega)
      have l5 : (4 : Nat) ^ 12 = sizeLine := by decide
      have l6 : ((e :: (e.kids.take i).flatMap Ex.subs) ++ ei.subs).length = (e :: (e.kids.take i).flatMap Ex.subs).length + ei.subs.length := List.length_append
      omega
    refine ⟨p, p3, us, us3, rfl, rfl, s3 _ _ ep, ep3, small, fun p4 hp4 => ?_⟩
    refine ⟨p4, us ++ us3, _, rfl, sm.trans (s3.trans (same_new hp4 _)), ?_, upd_same, ?_⟩
    · exact (g2.trans (sm.trans s3)).free hp4
    · rw [tk]
      exact (app).tu (Same.tu (same_new hp4 _))
  · obtain ⟨p, us, y2, rfl, sm, np, ep, au⟩ := hv
    rw [← lenk, List.take_length] at au
    rw [← subs_eq] at au
    exact ⟨_, rfl, q p H' us (g2.trans sm) np ep au⟩
theorem ok_tree {f : Addr} {fd : FuncData} {k m : Nat} (F : Fun K "_law_tree" "_law_tree" s_law_tree f fd) (mlen : mg "len" = none) (mint : mg "int" = none) (mrange : mg "range" = none) (mtuple : mg "tuple" = none) (O_law_take : Ok P w K mg base k "_law_take" P_law_take spTake)
    (O_law_leaf : Ok P w K mg base k "_law_leaf" P_law_leaf (spLeaf K)) (O_law_tree : Ok P w K mg base k "_law_tree" P_law_tree (spTree K m)) : FnOk P w K mg base CX0 (k + 1) f fd P_law_tree (spTree K (m + 1)) := by
  refine F.ok sc_law_tree (fun vs H Q E h => ?_) (fun cdv A outer s H vs Q E hr h => ?_)
  · obtain ⟨a, b, c, d, g, n, ti, ns, as, ms, rfl, _⟩ := h
    rfl
  obtain ⟨a, b, c, d, g, n, tight, ns, as, ms, rfl, hF, ⟨rn, hR⟩, hc, hd, hg, n0, n1, n2, q⟩ := h
  refine ⟨_, (pss_cutAt 8 (pss_cons (ps_asg (pe_op op_sub (pe_ix ix_list (pv 1) pe_int (fun _ _ => rfl)) pe_int) (pg_sub (pv 1) pe_int set_list))
    (pss_cons (ps_set (i := 7) sc_law_tree.nd rfl (Or.inl rfl) (pe_ix ix_list (pv 6) (pe_c O_law_take hr (by rfl) (pa_cons (pv 0) (pa_cons (pe_callB call_len_seq (by rfl) mlen (by decide +kernel) (pa_cons (pv 6) pa_nil)) pa_nil))) (fun _ _ => rfl)))
    (pss_cons (ps_if (PW.pt (pw_or (pt_cmpR op_lt (pv 2) pe_int (nomark _)) (pw_or1 (PW.pt (pw_and (pt_not (pt_val (pv 3))) (pw_and1 (PW.pt (pw_or (pt_cmpR op_eq (pv 7) pe_str (nomark _)) (pw_or1 (pt_cmpR op_lt (pe_ix ix_list (pv 1) pe_int (fun _ _ => rfl)) pe_int (nomark _)))))))))))
      (pss_one (ps_ret (pe_c O_law_leaf hr (by rfl) (pa_cons (pv 0) (pa_cons (pv 4) pa_nil)))))
      pss_nil)
    (pss_cons (ps_set (i := 8) sc_law_tree.nd rfl (Or.inl rfl) (pe_lst (pa_cons pe_str (pa_cons pe_str (pa_cons pe_str (pa_cons pe_str (pa_cons pe_str (pa_cons pe_str (pa_cons pe_str (pa_cons pe_str (pa_cons pe_str (pa_cons pe_str (pa_cons pe_str (pa_cons pe_str (pa_cons pe_str (pa_cons pe_str (pa_cons pe_str (pa_cons pe_str pa_nil))))))))))))))))))
    (pss_cons (ps_set (i := 9) sc_law_tree.nd rfl (Or.inl rfl) (pe_ix ix_list (pv 8) (pe_c O_law_take hr (by rfl) (pa_cons (pv 0) (pa_cons pe_int pa_nil))) (fun _ _ => rfl)))
    (pss_cons (ps_set (i := 10) sc_law_tree.nd rfl (Or.inl rfl) pe_int)
    (pss_cons (ps_if (pt_cmpR op_eq (pv 7) pe_str (nomark _))
      (pss_cons (ps_set (i := 9) sc_law_tree.nd rfl (Or.inl rfl) (pe_ix ix_list (pv 5) (pe_c O_law_take hr (by rfl) (pa_cons (pv 0) (pa_cons (pe_callB call_len_seq (by rfl) mlen (by decide +kernel) (pa_cons (pv 5) pa_nil)) pa_nil))) (fun _ _ => rfl)))
      (pss_one (ps_set (i := 10) sc_law_tree.nd rfl (Or.inl rfl) pe_int)))
      pss_nil)
    (pss_one (ps_if (pt_cmpR op_eq (pv 7) pe_str (nomark _))
      (pss_cons (ps_set (i := 9) sc_law_tree.nd rfl (Or.inl rfl) (pe_ix ix_list (pe_lst (pa_cons pe_str (pa_cons pe_str (pa_cons pe_str (pa_cons pe_str pa_nil))))) (pe_c O_law_take hr (by rfl) (pa_cons (pv 0) (pa_cons pe_int pa_nil))) (fun _ _ => rfl)))
      (pss_one (ps_set (i := 10) sc_law_tree.nd rfl (Or.inl rfl) (pe_op op_sub (pe_op op_add pe_int (pe_callTy call_int1 (by rfl) mint (by decide +kernel) (pa_cons (pe_cmpR op_eq (pv 9) pe_str (nomark _)) pa_nil))) (pe_callTy call_int1 (by rfl) mint (by decide +kernel) (pa_cons (pe_cmpR op_eq (pv 9) pe_str (nomark _)) pa_nil))))))
      pss_nil)))))))))
    (pss_cons (ps_set (i := 11) sc_law_tree.nd rfl (Or.inl rfl) (pe_c O_law_take hr (by rfl) (pa_cons (pv 0) (pa_cons (pv 10) pa_nil))))
    (pss_cons (ps_set (i := 12) sc_law_tree.nd rfl (Or.inl rfl) (pe_lst pa_nil))
    (pss_cons (ps_for PassesOwn.never rfl (pi_range1 (by rfl) mrange (pa_cons (pv 10) pa_nil)) (pg_name (i := 13) sc_law_tree.nd rfl (Or.inl rfl))
      (pss_one (ps_if (PW.pt (pw_and (pt_val (pv 3)) (pw_and1 (pt_cmpR op_eq (pv 13) (pv 11) (nomark _)))))
        (pss_one (ps_expr (pe_bm PySem.F.plainAttrs_list PySem.F.slot_list_append PySem.F.type_list_append mt_append (pv 12) (pa_cons (pe_c O_law_tree hr (by rfl) (pa_cons (pv 0) (pa_cons (pv 1) (pa_cons (pe_op op_sub (pv 2) pe_int) (pa_cons pe_bl (pa_cons (pv 4) (pa_cons (pv 5) (pa_cons (pv 6) pa_nil)))))))) pa_nil))))
        (pss_one (ps_expr (pe_bm PySem.F.plainAttrs_list PySem.F.slot_list_append PySem.F.type_list_append mt_append (pv 12) (pa_cons (pe_c O_law_tree hr (by rfl) (pa_cons (pv 0) (pa_cons (pv 1) (pa_cons (pe_op op_add pe_int (pe_c O_law_take hr (by rfl) (pa_cons (pv 0) (pa_cons (pe_op op_sub (pv 2) pe_int) pa_nil)))) (pa_cons pe_bl (pa_cons (pv 4) (pa_cons (pv 5) (pa_cons (pv 6) pa_nil)))))))) pa_nil)))))))
    (pss_cons (ps_if (pt_cmpR op_eq (pv 7) pe_str (nomark _))
      (pss_one (ps_ret (pe_tup (pa_cons pe_str (pa_cons (pv 9) (pa_cons (pe_ix ix_list (pv 12) pe_int (fun _ _ => rfl)) pa_nil))))))
      pss_nil)
    (pss_cons (ps_if (pt_cmpR op_eq (pv 7) pe_str (nomark _))
      (pss_one (ps_ret (pe_tup (pa_cons pe_str (pa_cons (pv 9) (pa_cons (pe_callTy call_tuple_of (by rfl) mtuple (by decide +kernel) (pa_cons (pv 12) pa_nil)) pa_nil))))))
      pss_nil)
    (pss_one (ps_ret (pe_tup (pa_cons pe_str (pa_cons (pv 9) (pa_cons (pe_ix ix_list (pv 12) pe_int (fun _ _ => rfl)) (pa_cons (pe_ix ix_list (pv 12) pe_int (fun _ _ => rfl)) pa_nil))))))))))))), ?_⟩
  have hab := hF.ne_rm ⟨rn, hR⟩
  -- room[0] = room[0] - 1
  have u1 : Rm (upd H b (.lst [.int (rn - 1)])) b := ⟨_, upd_same⟩
  have f1 : Fd (upd H b (.lst [.int (rn - 1)])) a := by
    obtain ⟨x, y, z, e⟩ := hF
    exact ⟨x, y, z, by rw [upd_ne hab]; exact e⟩
  have s1 : St2 a b H (upd H b (.lst [.int (rn - 1)])) := ⟨fun x o na nb e => by rw [upd_ne nb]; exact e, f1, u1⟩
  have R0 : Rm H b := ⟨rn, hR⟩
  have hc1 := hc.st2 hF R0 s1
  have hd1 := hd.st2 hF R0 s1
  have hg1 := hg.st2 hF R0 s1
  refine ⟨fun σ' H' => ∃ (sort word : Str) (many : Int) (y8 y11 y12 y13 : Option V), σ' = [some (.ref a), some (.ref b), some (.int n), some (.bl tight), some (.ref c), some (.ref d), some (.ref g), some (.str sort), y8, some (.str word), some (.int many), y11, y12, y13] ∧ St2 a b H H' ∧ 2 ≤ n ∧ Chosen as sort word many, ?_, fun σ' H' hm => ?_⟩
  · refine ⟨_, rfl, _, _, _, _, rfl, rfl, SqL.of hR, atI_nat (j := 0) rfl, _, _, rfl, rfl, _, rfl, _, _, _, _, rfl, rfl, hR, rfl, ?_⟩
    -- sort
    have mz := hg.sz
    have mp := hg.pos
    have ml : (ms.map V.str).length = ms.length := List.length_map _
    refine ⟨_, rfl, _, rfl, _, rfl, _, _, rfl, .inl (SqL.of hg1.at'), a, _, rfl, f1, by omega, by omega, fun r H2 r0 r1 s2 => ?_⟩
    obtain ⟨v, vm, ev⟩ := atI_in (xs := ms.map V.str) (i := r) r0 r1
    obtain ⟨sort, sm, rfl⟩ := List.mem_map.mp vm
    refine ⟨_, _, _, _, rfl, rfl, SqL.of (hg1.stp f1 s2).at', ev, ?_⟩
    have s12 := s1.stp s2
    have hb2 : H2 b = some (.lst [.int (rn - 1)]) := s2.1 _ _ hab.symm upd_same
    have hc2 := hc1.stp f1 s2
    have hd2 := hd1.stp f1 s2
    -- the leaf
    have leafQ : ∀ (v : V) (H' : Hp) (e : Ex), Stp a H2 H' → e.At K H' v → e.dep ≤ 1 → e.good ns as → Q v H' := fun v H' e s at' dp gd => q v H' e (s12.stp s) at' (by omega) gd
    refine ⟨_, rfl, _, _, rfl, rfl, _, rfl, ite2' (fun cc => ⟨_, rfl, _, rfl, a, c, ns, as, rfl, s2.2, hc2, leafQ⟩) (fun cc => ?_)⟩
    have n2' : 2 ≤ n := by omega
    have go : (tight = true ∨ True) := .inr trivial
    refine ⟨_, rfl, tight, rfl, ite2 (fun ct => ?_) (fun ct => ?_)⟩
    · refine ⟨_, rfl, rfl, _, rfl, ite2 (fun c2 => ⟨_, rfl, _, rfl, a, c, ns, as, rfl, s2.2, hc2, leafQ⟩) (fun c2 => ?_)⟩
      refine ⟨_, rfl, _, _, _, _, rfl, rfl, SqL.of hb2, atI_nat (j := 0) rfl, _, _, rfl, rfl, _, rfl, ite2 (fun c3 => ⟨_, rfl, _, rfl, a, c, ns, as, rfl, s2.2, hc2, leafQ⟩) (fun c3 => ?_)⟩
      -- signs, word, many
      refine ⟨(by show 16 ≤ sizeLine; decide), fun l hl => ?_⟩
      have s3 := s12.same (same_new hl (.lst (signsW.map V.str)))
      have f3 := s2.2.same (same_new hl (.lst (signsW.map V.str)))
      refine ⟨_, rfl, rd_take rfl f3 (by decide) (by decide) fun r H3 r0 r1 s4 => ?_⟩
      obtain ⟨v, vm, ev⟩ := atI_in (xs := signsW.map V.str) (i := r) r0 r1
      obtain ⟨word, wm, rfl⟩ := List.mem_map.mp vm
      have la : l ≠ a := by
        obtain ⟨x, y, z, e⟩ := s2.2
        exact (ne_of_none e hl).symm
      refine ⟨_, _, _, _, rfl, rfl, SqL.of (s4.1 _ _ la upd_same), ev, ?_⟩
      have s34 := s3.stp s4
      have hd4 := (hd2.same (same_new hl (.lst (signsW.map V.str)))).stp f3 s4
      have az := hd.sz
      have ap := hd.pos
      have al : (as.map V.str).length = as.length := List.length_map _
      by_cases e1 : sort = "read"
      · subst e1
        refine ⟨_, rfl, rfl, _, rfl, itY ⟨_, rfl, _, rfl, _, rfl, _, _, rfl, .inl (SqL.of hd4.at'), a, _, rfl, s4.2, by omega, by omega, fun r5 H5 r50 r51 s5 => ?_⟩⟩
        obtain ⟨v, vm, ev⟩ := atI_in (xs := as.map V.str) (i := r5) r50 r51
        obtain ⟨wa, wam, rfl⟩ := List.mem_map.mp vm
        refine ⟨_, _, _, _, rfl, rfl, SqL.of (hd4.stp s4.2 s5).at', ev, _, rfl, rfl, _, rfl, itN (by decide +kernel) ?_⟩
        exact ⟨_, wa, 1, _, _, _, _, rfl, s34.stp s5, n2', .inl ⟨rfl, wam, rfl⟩⟩
      refine ⟨_, rfl, rfl, _, rfl, itN (strNe e1) ?_⟩
      by_cases e2 : sort = "call"
      · subst e2
        refine ⟨_, rfl, rfl, _, rfl, itY ⟨(by show 4 ≤ sizeLine; decide), fun l2 hl2 => rd_in ((["min", "max", "pick", "nth"] : List Str).map V.str) rfl s4.2 hl2 rfl (by decide) (by decide) fun v H5 vm2 s5 => ?_⟩⟩
        simp only [List.map_cons, List.map_nil, List.mem_cons, List.not_mem_nil, or_false] at vm2
        have s35 := s34.stp s5
        rcases vm2 with rfl | rfl | rfl | rfl
        · exact ⟨_, rfl, rfl, .inr ⟨_, rfl, _, _, rfl, rfl, _, rfl, rfl, .inr ⟨_, rfl, _, _, rfl, rfl, _, "min", _, _, _, _, _, rfl, s35, n2', .inr (.inl ⟨rfl, .inl ⟨.inl rfl, (by decide +kernel)⟩⟩)⟩⟩⟩
        · exact ⟨_, rfl, rfl, .inr ⟨_, rfl, _, _, rfl, rfl, _, rfl, rfl, .inr ⟨_, rfl, _, _, rfl, rfl, _, "max", _, _, _, _, _, rfl, s35, n2', .inr (.inl ⟨rfl, .inl ⟨.inr rfl, (by decide +kernel)⟩⟩)⟩⟩⟩
        · exact ⟨_, rfl, rfl, .inr ⟨_, rfl, _, _, rfl, rfl, _, rfl, rfl, .inr ⟨_, rfl, _, _, rfl, rfl, _, "pick", _, _, _, _, _, rfl, s35, n2', .inr (.inl ⟨rfl, .inr (.inl ⟨rfl, (by decide +kernel)⟩)⟩)⟩⟩⟩
        · exact ⟨_, rfl, rfl, .inr ⟨_, rfl, _, _, rfl, rfl, _, rfl, rfl, .inr ⟨_, rfl, _, _, rfl, rfl, _, "nth", _, _, _, _, _, rfl, s35, n2', .inr (.inl ⟨rfl, .inr (.inr ⟨rfl, (by decide +kernel)⟩)⟩)⟩⟩⟩
      exact ⟨_, rfl, rfl, _, rfl, itN (strNe e2) ⟨_, word, 2, _, _, _, _, rfl, s34, n2', .inr (.inr ⟨e1, e2, wm, rfl⟩)⟩⟩
    · -- signs, word, many
      refine ⟨(by show 16 ≤ sizeLine; decide), fun l hl => ?_⟩
      have s3 := s12.same (same_new hl (.lst (signsW.map V.str)))
      have f3 := s2.2.same (same_new hl (.lst (signsW.map V.str)))
      refine ⟨_, rfl, rd_take rfl f3 (by decide) (by decide) fun r H3 r0 r1 s4 => ?_⟩
      obtain ⟨v, vm, ev⟩ := atI_in (xs := signsW.map V.str) (i := r) r0 r1
      obtain ⟨word, wm, rfl⟩ := List.mem_map.mp vm
      have la : l ≠ a := by
        obtain ⟨x, y, z, e⟩ := s2.2
        exact (ne_of_none e hl).symm
      refine ⟨_, _, _, _, rfl, rfl, SqL.of (s4.1 _ _ la upd_same), ev, ?_⟩
      have s34 := s3.stp s4
      have hd4 := (hd2.same (same_new hl (.lst (signsW.map V.str)))).stp f3 s4
      have az := hd.sz
      have ap := hd.pos
      have al : (as.map V.str).length = as.length := List.length_map _
      by_cases e1 : sort = "read"
      · subst e1
        refine ⟨_, rfl, rfl, _, rfl, itY ⟨_, rfl, _, rfl, _, rfl, _, _, rfl, .inl (SqL.of hd4.at'), a, _, rfl, s4.2, by omega, by omega, fun r5 H5 r50 r51 s5 => ?_⟩⟩
        obtain ⟨v, vm, ev⟩ := atI_in (xs := as.map V.str) (i := r5) r50 r51
        obtain ⟨wa, wam, rfl⟩ := List.mem_map.mp vm
        refine ⟨_, _, _, _, rfl, rfl, SqL.of (hd4.stp s4.2 s5).at', ev, _, rfl, rfl, _, rfl, itN (by decide +kernel) ?_⟩
        exact ⟨_, wa, 1, _, _, _, _, rfl, s34.stp s5, n2', .inl ⟨rfl, wam, rfl⟩⟩
      refine ⟨_, rfl, rfl, _, rfl, itN (strNe e1) ?_⟩
      by_cases e2 : sort = "call"
      · subst e2
        refine ⟨_, rfl, rfl, _, rfl, itY ⟨(by show 4 ≤ sizeLine; decide), fun l2 hl2 => rd_in ((["min", "max", "pick", "nth"] : List Str).map V.str) rfl s4.2 hl2 rfl (by decide) (by decide) fun v H5 vm2 s5 => ?_⟩⟩
        simp only [List.map_cons, List.map_nil, List.mem_cons, List.not_mem_nil, or_false] at vm2
        have s35 := s34.stp s5
        rcases vm2 with rfl | rfl | rfl | rfl
        · exact ⟨_, rfl, rfl, .inr ⟨_, rfl, _, _, rfl, rfl, _, rfl, rfl, .inr ⟨_, rfl, _, _, rfl, rfl, _, "min", _, _, _, _, _, rfl, s35, n2', .inr (.inl ⟨rfl, .inl ⟨.inl rfl, (by decide +kernel)⟩⟩)⟩⟩⟩
        · exact ⟨_, rfl, rfl, .inr ⟨_, rfl, _, _, rfl, rfl, _, rfl, rfl, .inr ⟨_, rfl, _, _, rfl, rfl, _, "max", _, _, _, _, _, rfl, s35, n2', .inr (.inl ⟨rfl, .inl ⟨.inr rfl, (by decide +kernel)⟩⟩)⟩⟩⟩
        · exact ⟨_, rfl, rfl, .inr ⟨_, rfl, _, _, rfl, rfl, _, rfl, rfl, .inr ⟨_, rfl, _, _, rfl, rfl, _, "pick", _, _, _, _, _, rfl, s35, n2', .inr (.inl ⟨rfl, .inr (.inl ⟨rfl, (by decide +kernel)⟩)⟩)⟩⟩⟩
        · exact ⟨_, rfl, rfl, .inr ⟨_, rfl, _, _, rfl, rfl, _, rfl, rfl, .inr ⟨_, rfl, _, _, rfl, rfl, _, "nth", _, _, _, _, _, rfl, s35, n2', .inr (.inl ⟨rfl, .inr (.inr ⟨rfl, (by decide +kernel)⟩)⟩)⟩⟩⟩
      exact ⟨_, rfl, rfl, _, rfl, itN (strNe e2) ⟨_, word, 2, _, _, _, _, rfl, s34, n2', .inr (.inr ⟨e1, e2, wm, rfl⟩)⟩⟩
  obtain ⟨sort, word, many, y8, y11, y12, y13, rfl, s3, n22, ch⟩ := hm
  have mb := ch.bd
  have hc3 := hc.st2 hF R0 s3
  have hd3 := hd.st2 hF R0 s3
  have hg3 := hg.st2 hF R0 s3
  refine ⟨_, rfl, _, rfl, a, many, rfl, s3.2.1, by omega, by omega, fun sp H4 sp0 sp1 s4 => ?_⟩
  refine ⟨(by show 0 ≤ sizeLine; decide), fun p hp => ⟨_, rfl, many, rfl, by omega, by omega, ?_⟩⟩
  have s34 := s3.stp s4
  have s35 := s34.same (same_new hp (.lst []))
  have pa : p ≠ a := by
    obtain ⟨x, y, z, e⟩ := s34.2.1
    exact (ne_of_none e hp).symm
  have pb : p ≠ b := by
    obtain ⟨x, e⟩ := s34.2.2
    exact (ne_of_none e hp).symm
  have npH : ∀ (x : Addr) (o : HO), x ≠ a → x ≠ b → H x = some o → x ≠ p := fun x o na nb e => ne_of_none (s34.1 x o na nb e) hp
  refine for_range (n := many.toNat) (fun i σ H' => ∃ (es : List Ex) (us : List V) (y13 : Option V), σ = [some (.ref a), some (.ref b), some (.int n), some (.bl tight), some (.ref c), some (.ref d), some (.ref g), some (.str sort), y8, some (.str word), some (.int many), some (.int sp), some (.ref p), y13] ∧ St2 a b H H' ∧ H' p = some (.lst us) ∧
    es.length = i ∧ Ex.AtAll K H' es us ∧ ∀ e ∈ es, e.dep ≤ m ∧ e.good ns as) ⟨[], [], _, rfl, s35, upd_same, rfl, trivial, fun e he => by cases he⟩ (fun i σ H' hi hv => ?_) (fun σ H' hv => ?_)
  · obtain ⟨es, us, y13, rfl, sm, ep, ln, au, ge⟩ := hv
    have hc4 := hc.st2 hF R0 sm
    have hd4 := hd.st2 hF R0 sm
    have hg4 := hg.st2 hF R0 sm
    have usl := au.len
    -- a new part is joined
    have join : ∀ (v : V) (H5 : Hp) (e : Ex), St2 a b H' H5 → e.At K H5 v → e.dep ≤ m → e.good ns as → H5 p = some (.lst us) ∧ (∃ (es : List Ex) (us' : List V), us' = us ++ [v] ∧ St2 a b H (upd H5 p (.lst us')) ∧ es.length = i + 1 ∧ Ex.AtAll K (upd H5 p (.lst us')) es us' ∧ ∀ e ∈ es, e.dep ≤ m ∧ e.good ns as) := fun v H5 e s5 at5 dp gd => by
      have ep5 := s5.1 _ _ pa pb ep
      refine ⟨ep5, es ++ [e], us ++ [v], rfl, ⟨fun x o na nb ex => ?_, ?_, ?_⟩, by rw [List.length_append, ln]; rfl, ?_, ?_⟩
      · rw [upd_ne (npH x o na nb ex)]
        exact s5.1 x o na nb (sm.1 x o na nb ex)
      · obtain ⟨x, y, z, e0⟩ := s5.2.1
        exact ⟨x, y, z, by rw [upd_ne pa.symm]; exact e0⟩
      · obtain ⟨x, e0⟩ := s5.2.2
        exact ⟨x, by rw [upd_ne pb.symm]; exact e0⟩
      · have tt : Tu K H5 (upd H5 p (.lst (us ++ [v]))) := fun bb xs hq => by
          rcases hq with (hq | ⟨o, hq⟩) | hq
          · exact .inl (.inl (by rw [upd_ne (ne_of hq ep5 (by intro z; cases z))]; exact hq))
          · exact .inl (.inr ⟨o, by rw [upd_ne (ne_of hq ep5 (by intro z; cases z))]; exact hq⟩)
          · exact .inr hq
        exact Ex.AtAll.app ((au.tu (s5.tu sm.2.1 sm.2.2)).tu tt) ⟨at5.tu tt, trivial⟩
      · intro e' he'
        rcases List.mem_append.mp he' with z | z
        · exact ge e' z
        · rw [List.mem_singleton.mp z]
          exact ⟨dp, gd⟩
    have usz : us.length < sizeLine := small1000 (by omega)
    have third : ∀ (n' : Int) (H5 : Hp), 1 ≤ n' → n' < n → Stp a H' H5 → Fd H5 a ∧ Rm H5 b ∧ Ws H5 c ns ∧ Ws H5 d as ∧ Ws H5 g ms ∧ 1 ≤ n' ∧ n' ≤ m ∧ n' ≤ 1000 := fun n' H5 h1 h2 s5 => by
      have t5 := (St2.refl sm.2.1 sm.2.2).stp s5
      exact ⟨s5.2, t5.2.2, hc4.stp sm.2.1 s5, hd4.stp sm.2.1 s5, hg4.stp sm.2.1 s5, h1, by omega, by omega⟩
    have rec1 : ∀ (n' : Int) (ti : Bool) (H5 : Hp), 1 ≤ n' → n' < n → Stp a H' H5 → ∀ (Q' : VK), (∀ (v : V) (H6 : Hp) (e : Ex), St2 a b H' H6 → e.At K H6 v → e.dep ≤ m → e.good ns as → Q' v H6) → spTree K m [.ref a, .ref b, .int n', .bl ti, .ref c, .ref d, .ref g] H5 Q' E0 := fun n' ti H5 h1 h2 s5 Q' hQ => by
      obtain ⟨t1, t2, t3, t4, t5, t6, t7, t8⟩ := third n' H5 h1 h2 s5
      exact ⟨a, b, c, d, g, n', ti, ns, as, ms, rfl, t1, t2, t3, t4, t5, t6, t7, t8, fun v H6 e s6 => hQ v H6 e (((St2.refl sm.2.1 sm.2.2).stp s5).trans s6)⟩
    have second : ∀ (D : Ends), True := fun _ => trivial
    refine ⟨_, rfl, tight, rfl, ite2 (fun ct => ⟨_, rfl, _, rfl, rfl, _, rfl, ite2 (fun c2 => ?_) (fun c2 => ?_)⟩) (fun ct => ?_)⟩
    · refine ⟨_, rfl, .inl ⟨rfl, _, SqL.of ep⟩, _, rfl, _, rfl, _, rfl, _, _, rfl, rfl, _, rfl, _, rfl, _, rfl, ?_⟩
      refine rec1 (n - 1) true H' (by omega) (by omega) (Stp.refl sm.2.1) _ fun v H6 e s6 at6 dp gd => ?_
      obtain ⟨ep6, es', us', rfl, j1, j2, j3, j4⟩ := join v H6 e s6 at6 dp gd
      exact ⟨p, us, v, rfl, rfl, ep6, usz, es', _, _, rfl, j1, upd_same, j2, j3, j4⟩
    · refine ⟨_, rfl, .inl ⟨rfl, _, SqL.of ep⟩, _, rfl, _, rfl, _, rfl, _, rfl, _, _, rfl, rfl, a, n - 1, rfl, sm.2.1, by omega, by omega, fun r H5 r0 r1 s5 => ⟨_, _, rfl, rfl, _, rfl, _, rfl, _, rfl, ?_⟩⟩
      refine rec1 (1 + r) false H5 (by omega) (by omega) s5 _ fun v H6 e s6 at6 dp gd => ?_
      obtain ⟨ep6, es', us', rfl, j1, j2, j3, j4⟩ := join v H6 e s6 at6 dp gd
      exact ⟨p, us, v, rfl, rfl, ep6, usz, es', _, _, rfl, j1, upd_same, j2, j3, j4⟩
    · refine ⟨_, rfl, .inl ⟨rfl, _, SqL.of ep⟩, _, rfl, _, rfl, _, rfl, _, rfl, _, _, rfl, rfl, a, n - 1, rfl, sm.2.1, by omega, by omega, fun r H5 r0 r1 s5 => ⟨_, _, rfl, rfl, _, rfl, _, rfl, _, rfl, ?_⟩⟩
      refine rec1 (1 + r) false H5 (by omega) (by omega) s5 _ fun v H6 e s6 at6 dp gd => ?_
      obtain ⟨ep6, es', us', rfl, j1, j2, j3, j4⟩ := join v H6 e s6 at6 dp gd
      exact ⟨p, us, v, rfl, rfl, ep6, usz, es', _, _, rfl, j1, upd_same, j2, j3, j4⟩
  · obtain ⟨es, us, y13, rfl, sm, ep, ln, au, ge⟩ := hv
    rcases ch with ⟨rfl, wm, rfl⟩ | ⟨rfl, chw⟩ | ⟨ns1, ns2, wm, rfl⟩
    · obtain ⟨e1, rfl⟩ := List.length_eq_one_iff.mp ln
      obtain ⟨v1, rfl, a1⟩ := au.one
      obtain ⟨d1, g1⟩ := ge e1 (List.mem_singleton.mpr rfl)
      refine ⟨_, rfl, rfl, _, rfl, itY ⟨_, rfl, _, rfl, _, _, _, _, rfl, rfl, (SqL.of ep), atI_nat (j := 0) rfl, (by show 3 ≤ sizeLine; decide), fun t ht => ?_⟩⟩
      exact q _ _ (.rd word e1) (sm.same (same_new ht _)) ⟨t, v1, rfl, SqT.of upd_same, a1.tu (Same.tu (same_new ht _))⟩ (by show e1.dep + 1 ≤ m + 1; omega) ⟨wm, g1⟩
    · refine ⟨_, rfl, rfl, _, rfl, itN (by decide +kernel) ⟨_, rfl, rfl, _, rfl, itY ⟨_, rfl, _, rfl, p, us, rfl, .inl ⟨SqL.of ep, fun t1 h1 => ⟨(by show 3 ≤ sizeLine; decide), fun t ht => ?_⟩⟩⟩⟩⟩
      have gg := (same_new h1 (.tup us)).trans (same_new ht (.tup [.str "call", .str word, .ref t1]))
      have au' := au.tu (K := K) (Same.tu gg)
      have tt1 : SqT K (upd (upd H' t1 (.tup us)) t (.tup [.str "call", .str word, .ref t1])) t1 us := Same.tup (same_new ht _) (SqT.of upd_same)
      rcases chw with ⟨ww, rfl⟩ | ⟨rfl, rfl⟩ | ⟨rfl, rfl⟩
      · match es, ln with
        | [e1, e2], _ =>
          obtain ⟨v1, v2, rfl, a1, a2⟩ := au'.two
          obtain ⟨d1, g1⟩ := ge e1 (by simp)
          obtain ⟨d2, g2⟩ := ge e2 (by simp)
          exact q _ _ (.c2 word e1 e2) (sm.same gg) ⟨t, t1, v1, v2, rfl, SqT.of upd_same, tt1, a1, a2⟩ (by show max e1.dep e2.dep + 1 ≤ m + 1; omega) ⟨ww, g1, g2⟩
      · match es, ln with
        | [e1, e2, e3], _ =>
          obtain ⟨v1, v2, v3, rfl, a1, a2, a3⟩ := au'.three
          obtain ⟨d1, g1⟩ := ge e1 (by simp)
          obtain ⟨d2, g2⟩ := ge e2 (by simp)
          obtain ⟨d3, g3⟩ := ge e3 (by simp)
          exact q _ _ (.c3 "pick" e1 e2 e3) (sm.same gg) ⟨t, t1, v1, v2, v3, rfl, SqT.of upd_same, tt1, a1, a2, a3⟩ (by show max e1.dep (max e2.dep e3.dep) + 1 ≤ m + 1; omega) ⟨rfl, g1, g2, g3⟩
      · match es, ln with
        | [e1], _ =>
          obtain ⟨v1, rfl, a1⟩ := au'.one
          obtain ⟨d1, g1⟩ := ge e1 (by simp)
          exact q _ _ (.c1 "nth" e1) (sm.same gg) ⟨t, t1, v1, rfl, SqT.of upd_same, tt1, a1⟩ (by show e1.dep + 1 ≤ m + 1; omega) ⟨rfl, g1⟩
    · match es, ln with
      | [e1, e2], _ =>
        obtain ⟨v1, v2, rfl, a1, a2⟩ := au.two
        obtain ⟨d1, g1⟩ := ge e1 (by simp)
        obtain ⟨d2, g2⟩ := ge e2 (by simp)
        refine ⟨_, rfl, rfl, _, rfl, itN (strNe ns1) ⟨_, rfl, rfl, _, rfl, itN (strNe ns2) ⟨_, rfl, _, rfl, _, _, _, _, rfl, rfl, (SqL.of ep), atI_nat (j := 0) rfl, _, rfl, _, _, _, _, rfl, rfl, (SqL.of ep), atI_nat (j := 1) rfl, (by show 4 ≤ sizeLine; decide), fun t ht => ?_⟩⟩⟩
        exact q _ _ (.op word e1 e2) (sm.same (same_new ht _)) ⟨t, v1, v2, rfl, SqT.of upd_same, a1.tu (Same.tu (same_new ht _)), a2.tu (Same.tu (same_new ht _))⟩ (by show max e1.dep e2.dep + 1 ≤ m + 1; omega) ⟨wm, g1, g2⟩
end
end K01
namespace K01
open PySem L2 Vk
def spClip : Sp := fun vs H Q _ => ∃ n : Int, vs = [.int n] ∧ Q (.int (clipI n)) H
def spSgn : Sp := fun vs H Q _ => ∃ (s : Str) (l r : Int), vs = [.str s, .int l, .int r] ∧ Lim l ∧ Lim r ∧ Q (.int (sgnV s l r)) H
def spHolds : Sp := fun vs H Q _ => ∃ (s : Str) (l r : Int), vs = [.str s, .int l, .int r] ∧ Q (.bl (if s = "<" then decide (l < r) else if s = "<=" then decide (l ≤ r) else if s = ">" then decide (r < l) else if s = ">=" then decide (r ≤ l) else if s = "=" then decide (l = r) else !decide (l = r))) H
def spCellOf (K : PySem.W.Frag) : Sp := fun vs H Q _ => ∃ (p : Addr) (xs : List Int) (i : Int), vs = [.ref p, .int i] ∧ SqI K H p xs ∧ Q (.int (cellAt xs i)) H
def spZero (K : PySem.W.Frag) : Sp := fun vs H Q _ => ∃ (p : Addr) (xs : List Int) (i : Int), vs = [.ref p, .int i] ∧ SqI K H p xs ∧ xs.length ≤ 1000 ∧ ∀ H', Same H H' → Q (.int (nthZ xs i)) H'
def spOps (K : PySem.W.Frag) : Sp := fun vs H Q _ => ∃ (v : V) (e : Ex), vs = [v] ∧ e.At K H v ∧ ∀ (t : Addr) (H' : Hp) (us : List V), Same H H' → SqT K H' t us → Ex.AtAll K H' e.kids us → Q (.ref t) H'
def spVal (K : PySem.W.Frag) (n : Nat) : Sp := fun vs H Q _ => ∃ (v : V) (e : Ex) (dn da : Addr) (nm : Str → Int) (ar : Str → List Int) (ns as : List Str), vs = [v, .ref dn, .ref da] ∧ e.At K H v ∧ e.dep ≤ n ∧ e.good ns as ∧ (("place" : Str) ∈ as ∨ e.flat) ∧ Mem K H dn da nm ar ns as ∧ ∀ H', Same H H' → Q (.int (valE nm ar e)) H'
theorem cl_eq {n : Int} : (if (if n < 10 ^ (12 : Int).toNat then n else 10 ^ (12 : Int).toNat) > 0 - 10 ^ (12 : Int).toNat then (if n < 10 ^ (12 : Int).toNat then n else 10 ^ (12 : Int).toNat) else (0 : Int) - 10 ^ (12 : Int).toNat) = clipI n := by
  rw [p12]
  rfl
theorem beqi {l r : Int} : decide (V.int l = V.int r) = decide (l = r) := by
  by_cases h : l = r
  · subst h; rw [decide_eq_true rfl, decide_eq_true rfl]
  · rw [decide_eq_false h, decide_eq_false fun z => h (V.int.inj z)]
theorem if_b2n {b : Bool} : (if b = true then (1 : Int) else 0) = b2n b := rfl
section
variable {P : Program} {w : World} {K : PySem.W.Frag} {mg : Str → Option Value} {base : Heap}
theorem ok_clip {f : Addr} {fd : FuncData} {k : Nat} (F : Fun K "clip" "clip" s_clip f fd) (mmax : mg "max" = none) (mmin : mg "min" = none) {tL : Tok} (mLIMIT : mg "LIMIT" = some (.int (10 ^ 12) tL)) : FnOk P w K mg base CX0 (k + 1) f fd P_clip spClip := by
  refine F.ok sc_clip (fun vs H Q E h => ?_) (fun cdv A outer s H vs Q E hr h => ?_)
  · obtain ⟨n, rfl, _⟩ := h
    rfl
  obtain ⟨n, rfl, q⟩ := h
  refine ⟨_, (pss_one (ps_ret (pe_callB (call_max2 rfl) (by rfl) mmax (by decide +kernel) (pa_cons (pe_un un_neg (pe_glob (v := .int (10 ^ 12)) (by rfl) mLIMIT ⟨_, rfl⟩)) (pa_cons (pe_callB (call_min2 rfl) (by rfl) mmin (by decide +kernel) (pa_cons (pe_glob (v := .int (10 ^ 12)) (by rfl) mLIMIT ⟨_, rfl⟩) (pa_cons (pv 0) pa_nil))) pa_nil))))), ?_⟩
  refine ⟨_, rfl, _, rfl, _, _, rfl, _, _, rfl, ?_⟩
  exact q
theorem ok_law_clip {f : Addr} {fd : FuncData} {k : Nat} (F : Fun K "_law_clip" "_law_clip" s_law_clip f fd) (mmax : mg "max" = none) (mmin : mg "min" = none) : FnOk P w K mg base CX0 (k + 1) f fd P_law_clip spClip := by
  refine F.ok sc_law_clip (fun vs H Q E h => ?_) (fun cdv A outer s H vs Q E hr h => ?_)
  · obtain ⟨n, rfl, _⟩ := h
    rfl
  obtain ⟨n, rfl, q⟩ := h
  refine ⟨_, (pss_one (ps_ret (pe_callB (call_max2 rfl) (by rfl) mmax (by decide +kernel) (pa_cons (pe_op op_sub pe_int (pe_op op_pow pe_int pe_int)) (pa_cons (pe_callB (call_min2 rfl) (by rfl) mmin (by decide +kernel) (pa_cons (pe_op op_pow pe_int pe_int) (pa_cons (pv 0) pa_nil))) pa_nil))))), ?_⟩
  refine ⟨_, _, rfl, rfl, ⟨by decide, by decide, by decide⟩, _, _, rfl, rfl, _, _, rfl, rfl, ⟨by decide, by decide, by decide⟩, _, rfl, _, _, rfl, _, _, rfl, ?_⟩
  rw [cl_eq]
  exact q
theorem ok_holds {f : Addr} {fd : FuncData} {k : Nat} (F : Fun K "_holds" "_holds" s_holds f fd) : FnOk P w K mg base CX0 (k + 1) f fd P_holds spHolds := by
  refine F.ok sc_holds (fun vs H Q E h => ?_) (fun cdv A outer s H vs Q E hr h => ?_)
  · obtain ⟨s, l, r, rfl, _⟩ := h
    rfl
  obtain ⟨sg, l, r, rfl, q⟩ := h
  refine ⟨_, (pss_cons (ps_if (pt_cmpR op_eq (pv 0) pe_str (nomark _))
      (pss_one (ps_ret (pe_cmpR op_lt (pv 1) (pv 2) (nomark _))))
      pss_nil)
    (pss_cons (ps_if (pt_cmpR op_eq (pv 0) pe_str (nomark _))
      (pss_one (ps_ret (pe_cmpR op_le (pv 1) (pv 2) (nomark _))))
      pss_nil)
    (pss_cons (ps_if (pt_cmpR op_eq (pv 0) pe_str (nomark _))
      (pss_one (ps_ret (pe_cmpR op_gt (pv 1) (pv 2) (nomark _))))
      pss_nil)
    (pss_cons (ps_if (pt_cmpR op_eq (pv 0) pe_str (nomark _))
      (pss_one (ps_ret (pe_cmpR op_ge (pv 1) (pv 2) (nomark _))))
      pss_nil)
    (pss_cons (ps_if (pt_cmpR op_eq (pv 0) pe_str (nomark _))
      (pss_one (ps_ret (pe_cmpR op_eq (pv 1) (pv 2) (nomark _))))
      pss_nil)
    (pss_one (ps_ret (pe_cmpR op_ne (pv 1) (pv 2) (nomark _))))))))), ?_⟩
  by_cases h1 : sg = "<"
  · subst h1; rw [if_pos rfl] at q
    exact ⟨_, rfl, rfl, _, rfl, itY ⟨_, rfl, _, rfl, _, _, rfl, rfl, q⟩⟩
  refine ⟨_, rfl, rfl, _, rfl, itN (strNe h1) ?_⟩; rw [if_neg h1] at q
  by_cases h1 : sg = "<="
  · subst h1; rw [if_pos rfl] at q
    exact ⟨_, rfl, rfl, _, rfl, itY ⟨_, rfl, _, rfl, _, _, rfl, rfl, q⟩⟩
  refine ⟨_, rfl, rfl, _, rfl, itN (strNe h1) ?_⟩; rw [if_neg h1] at q
  by_cases h1 : sg = ">"
  · subst h1; rw [if_pos rfl] at q
    exact ⟨_, rfl, rfl, _, rfl, itY ⟨_, rfl, _, rfl, _, _, rfl, rfl, q⟩⟩
  refine ⟨_, rfl, rfl, _, rfl, itN (strNe h1) ?_⟩; rw [if_neg h1] at q
  by_cases h1 : sg = ">="
  · subst h1; rw [if_pos rfl] at q
    exact ⟨_, rfl, rfl, _, rfl, itY ⟨_, rfl, _, rfl, _, _, rfl, rfl, q⟩⟩
  refine ⟨_, rfl, rfl, _, rfl, itN (strNe h1) ?_⟩; rw [if_neg h1] at q
  by_cases h1 : sg = "="
  · subst h1; rw [if_pos rfl] at q
    exact ⟨_, rfl, rfl, _, rfl, itY ⟨_, rfl, _, rfl, rfl, by rw [beqi]; exact q⟩⟩
  refine ⟨_, rfl, rfl, _, rfl, itN (strNe h1) ?_⟩; rw [if_neg h1] at q
  exact ⟨_, rfl, _, rfl, rfl, by rw [beqi]; exact q⟩
theorem ok_joined_value {f : Addr} {fd : FuncData} {k : Nat} (F : Fun K "_joined_value" "_joined_value" s_joined_value f fd) (Oclip : Ok P w K mg base k "clip" P_clip spClip) (O_holds : Ok P w K mg base k "_holds" P_holds spHolds) : FnOk P w K mg base CX0 (k + 1) f fd P_joined_value spSgn := by
  refine F.ok sc_joined_value (fun vs H Q E h => ?_) (fun cdv A outer s H vs Q E hr h => ?_)
  · obtain ⟨s, l, r, rfl, _⟩ := h
    rfl
  obtain ⟨sg, l, r, rfl, hl, hr1, q⟩ := h
  refine ⟨_, (pss_cons (ps_if (pt_cmpR op_eq (pv 0) pe_str (nomark _))
      (pss_one (ps_ret (pe_c Oclip hr (by rfl) (pa_cons (pe_op op_add (pv 1) (pv 2)) pa_nil))))
      pss_nil)
    (pss_cons (ps_if (pt_cmpR op_eq (pv 0) pe_str (nomark _))
      (pss_one (ps_ret (pe_c Oclip hr (by rfl) (pa_cons (pe_op op_sub (pv 1) (pv 2)) pa_nil))))
      pss_nil)
    (pss_cons (ps_if (pt_cmpR op_eq (pv 0) pe_str (nomark _))
      (pss_one (ps_ret (pe_c Oclip hr (by rfl) (pa_cons (pe_op op_mul (pv 1) (pv 2)) pa_nil))))
      pss_nil)
    (pss_cons (ps_if (pt_cmpR op_eq (pv 0) pe_str (nomark _))
      (pss_one (ps_ret (pe_ifExp (pt_cmpR op_ne (pv 2) pe_int (nomark _)) (pe_op op_fdivL (pv 1) (pv 2)) pe_int)))
      pss_nil)
    (pss_cons (ps_if (pt_cmpR op_eq (pv 0) pe_str (nomark _))
      (pss_one (ps_ret (pe_ifExp (pt_cmpR op_ne (pv 2) pe_int (nomark _)) (pe_op op_sub (pv 1) (pe_op op_mul (pv 2) (pe_op op_fdivL (pv 1) (pv 2)))) pe_int)))
      pss_nil)
    (pss_one (ps_ret (pe_ifExp (pt_val (pe_c O_holds hr (by rfl) (pa_cons (pv 0) (pa_cons (pv 1) (pa_cons (pv 2) pa_nil))))) pe_int pe_int)))))))), ?_⟩
  unfold Lim at hl
  unfold sgnV at q
  by_cases h1 : sg = "+"
  · subst h1; rw [if_pos rfl] at q
    exact ⟨_, rfl, rfl, _, rfl, itY ⟨_, rfl, _, rfl, _, _, rfl, rfl, _, rfl, q⟩⟩
  refine ⟨_, rfl, rfl, _, rfl, itN (strNe h1) ?_⟩; rw [if_neg h1] at q
  by_cases h1 : sg = "-"
  · subst h1; rw [if_pos rfl] at q
    exact ⟨_, rfl, rfl, _, rfl, itY ⟨_, rfl, _, rfl, _, _, rfl, rfl, _, rfl, q⟩⟩
  refine ⟨_, rfl, rfl, _, rfl, itN (strNe h1) ?_⟩; rw [if_neg h1] at q
  by_cases h1 : sg = "*"
  · subst h1; rw [if_pos rfl] at q
    exact ⟨_, rfl, rfl, _, rfl, itY ⟨_, rfl, _, rfl, _, _, rfl, rfl, .inl ⟨by omega, by omega⟩, _, rfl, q⟩⟩
  refine ⟨_, rfl, rfl, _, rfl, itN (strNe h1) ?_⟩; rw [if_neg h1] at q
  by_cases h1 : sg = "div"
  · subst h1; rw [if_pos rfl] at q
    refine ⟨_, rfl, rfl, _, rfl, itY ⟨_, rfl, rfl, _, rfl, ?_⟩⟩
    by_cases z : r = 0
    · rw [if_pos z] at q
      subst z
      exact itYn q
    · rw [if_neg z] at q
      exact itNn (fun y => z (V.int.inj y)) ⟨_, rfl, _, rfl, _, _, rfl, rfl, ⟨z, hr1⟩, q⟩
  refine ⟨_, rfl, rfl, _, rfl, itN (strNe h1) ?_⟩; rw [if_neg h1] at q
  by_cases h1 : sg = "mod"
  · subst h1; rw [if_pos rfl] at q
    refine ⟨_, rfl, rfl, _, rfl, itY ⟨_, rfl, rfl, _, rfl, ?_⟩⟩
    by_cases z : r = 0
    · rw [if_pos z] at q
      subst z
      exact itYn q
    · rw [if_neg z] at q
      have hr2 := hr1
      unfold Lim at hr2
      exact itNn (fun y => z (V.int.inj y)) ⟨_, rfl, _, rfl, _, rfl, _, rfl, _, _, rfl, rfl, ⟨z, hr1⟩, _, _, rfl, rfl, .inl ⟨by omega, by omega⟩, _, _, rfl, rfl, q⟩
  refine ⟨_, rfl, rfl, _, rfl, itN (strNe h1) ?_⟩; rw [if_neg h1] at q
  refine ⟨_, rfl, _, rfl, _, rfl, sg, l, r, rfl, _, rfl, ?_⟩
  have fin : ∀ b : Bool, Q (.int (b2n b)) H → (if b = true then Q (.int 1) H else Q (.int 0) H) := fun b h => by
    cases b
    · exact iteF h
    · exact iteT h
  refine fin _ ?_
  by_cases h1 : sg = "<"
  · rw [if_pos h1] at q ⊢; exact q
  rw [if_neg h1] at q ⊢
  by_cases h1 : sg = "<="
  · rw [if_pos h1] at q ⊢; exact q
  rw [if_neg h1] at q ⊢
  by_cases h1 : sg = ">"
  · rw [if_pos h1] at q ⊢; exact q
  rw [if_neg h1] at q ⊢
  by_cases h1 : sg = ">="
  · rw [if_pos h1] at q ⊢; exact q
  rw [if_neg h1] at q ⊢
  by_cases h1 : sg = "="
  · rw [if_pos h1] at q ⊢; exact q
  rw [if_neg h1] at q ⊢
  exact q
theorem ok_sign_value {f : Addr} {fd : FuncData} {k : Nat} (F : Fun K "_law_sign_value" "_law_sign_value" s_law_sign_value f fd) (mint : mg "int" = none) (O_law_clip : Ok P w K mg base k "_law_clip" P_law_clip spClip) : FnOk P w K mg base CX0 (k + 1) f fd P_law_sign_value spSgn := by
  refine F.ok sc_law_sign_value (fun vs H Q E h => ?_) (fun cdv A outer s H vs Q E hr h => ?_)
  · obtain ⟨s, l, r, rfl, _⟩ := h
    rfl
  obtain ⟨sg, l, r, rfl, hl, hr1, q⟩ := h
  refine ⟨_, (pss_cons (ps_if (pt_cmpR op_eq (pv 0) pe_str (nomark _))
      (pss_one (ps_ret (pe_c O_law_clip hr (by rfl) (pa_cons (pe_op op_add (pv 1) (pv 2)) pa_nil))))
      pss_nil)
    (pss_cons (ps_if (pt_cmpR op_eq (pv 0) pe_str (nomark _))
      (pss_one (ps_ret (pe_c O_law_clip hr (by rfl) (pa_cons (pe_op op_sub (pv 1) (pv 2)) pa_nil))))
      pss_nil)
    (pss_cons (ps_if (pt_cmpR op_eq (pv 0) pe_str (nomark _))
      (pss_one (ps_ret (pe_c O_law_clip hr (by rfl) (pa_cons (pe_op op_mul (pv 1) (pv 2)) pa_nil))))
      pss_nil)
    (pss_cons (ps_if (PW.pt (pw_or (pt_cmpR op_eq (pv 0) pe_str (nomark _)) (pw_or1 (pt_cmpR op_eq (pv 0) pe_str (nomark _)))))
      (pss_cons (ps_if (pt_cmpR op_eq (pv 2) pe_int (nomark _))
        (pss_one (ps_ret pe_int))
        pss_nil)
      (pss_cons (ps_if (pt_cmpR op_eq (pv 0) pe_str (nomark _))
        (pss_one (ps_ret (pe_op op_fdivL (pv 1) (pv 2))))
        pss_nil)
      (pss_one (ps_ret (pe_op op_sub (pv 1) (pe_op op_mul (pv 2) (pe_op op_fdivL (pv 1) (pv 2))))))))
      pss_nil)
    (pss_cons (ps_if (pt_cmpR op_eq (pv 0) pe_str (nomark _))
      (pss_one (ps_ret (pe_callTy call_int1 (by rfl) mint (by decide +kernel) (pa_cons (pe_cmpR op_lt (pv 1) (pv 2) (nomark _)) pa_nil))))
      pss_nil)
    (pss_cons (ps_if (pt_cmpR op_eq (pv 0) pe_str (nomark _))
      (pss_one (ps_ret (pe_callTy call_int1 (by rfl) mint (by decide +kernel) (pa_cons (pe_cmpR op_le (pv 1) (pv 2) (nomark _)) pa_nil))))
      pss_nil)
    (pss_cons (ps_if (pt_cmpR op_eq (pv 0) pe_str (nomark _))
      (pss_one (ps_ret (pe_callTy call_int1 (by rfl) mint (by decide +kernel) (pa_cons (pe_cmpR op_gt (pv 1) (pv 2) (nomark _)) pa_nil))))
      pss_nil)
    (pss_cons (ps_if (pt_cmpR op_eq (pv 0) pe_str (nomark _))
      (pss_one (ps_ret (pe_callTy call_int1 (by rfl) mint (by decide +kernel) (pa_cons (pe_cmpR op_ge (pv 1) (pv 2) (nomark _)) pa_nil))))
      pss_nil)
    (pss_cons (ps_if (pt_cmpR op_eq (pv 0) pe_str (nomark _))
      (pss_one (ps_ret (pe_callTy call_int1 (by rfl) mint (by decide +kernel) (pa_cons (pe_cmpR op_eq (pv 1) (pv 2) (nomark _)) pa_nil))))
      pss_nil)
    (pss_one (ps_ret (pe_callTy call_int1 (by rfl) mint (by decide +kernel) (pa_cons (pe_cmpR op_ne (pv 1) (pv 2) (nomark _)) pa_nil))))))))))))), ?_⟩
  unfold Lim at hl
  unfold sgnV at q
  by_cases h1 : sg = "+"
  · subst h1; rw [if_pos rfl] at q
    exact ⟨_, rfl, rfl, _, rfl, itY ⟨_, rfl, _, rfl, _, _, rfl, rfl, _, rfl, q⟩⟩
  refine ⟨_, rfl, rfl, _, rfl, itN (strNe h1) ?_⟩; rw [if_neg h1] at q
  by_cases h1 : sg = "-"
  · subst h1; rw [if_pos rfl] at q
    exact ⟨_, rfl, rfl, _, rfl, itY ⟨_, rfl, _, rfl, _, _, rfl, rfl, _, rfl, q⟩⟩
  refine ⟨_, rfl, rfl, _, rfl, itN (strNe h1) ?_⟩; rw [if_neg h1] at q
  by_cases h1 : sg = "*"
  · subst h1; rw [if_pos rfl] at q
    exact ⟨_, rfl, rfl, _, rfl, itY ⟨_, rfl, _, rfl, _, _, rfl, rfl, .inl ⟨by omega, by omega⟩, _, rfl, q⟩⟩
  refine ⟨_, rfl, rfl, _, rfl, itN (strNe h1) ?_⟩; rw [if_neg h1] at q
  by_cases h1 : sg = "div"
  · subst h1; rw [if_pos rfl] at q
    refine ⟨_, rfl, rfl, _, rfl, itY ⟨_, rfl, rfl, _, rfl, ?_⟩⟩
    by_cases z : r = 0
    · rw [if_pos z] at q
      subst z
      exact itY q
    · rw [if_neg z] at q
      exact itN (fun y => z (V.int.inj y)) ⟨_, rfl, rfl, _, rfl, itY ⟨_, rfl, _, rfl, _, _, rfl, rfl, ⟨z, hr1⟩, q⟩⟩
  refine ⟨_, rfl, rfl, _, rfl, itN (strNe h1) ?_⟩; rw [if_neg h1] at q
  by_cases h2 : sg = "mod"
  · subst h2; rw [if_pos rfl] at q
    refine ⟨_, rfl, rfl, _, rfl, itY ⟨_, rfl, rfl, _, rfl, ?_⟩⟩
    by_cases z : r = 0
    · rw [if_pos z] at q
      subst z
      exact itY q
    · rw [if_neg z] at q
      have hr2 := hr1
      unfold Lim at hr2
      exact itN (fun y => z (V.int.inj y)) ⟨_, rfl, rfl, _, rfl, itN (strNe h1) ⟨_, rfl, _, rfl, _, rfl, _, rfl, _, _, rfl, rfl, ⟨z, hr1⟩, _, _, rfl, rfl, .inl ⟨by omega, by omega⟩, _, _, rfl, rfl, q⟩⟩
  refine ⟨_, rfl, rfl, _, rfl, itN (strNe h2) ?_⟩; rw [if_neg h2] at q
  by_cases h1 : sg = "<"
  · subst h1; rw [if_pos rfl] at q
    exact ⟨_, rfl, rfl, _, rfl, itY ⟨_, rfl, _, rfl, _, _, rfl, rfl, .inr ⟨_, rfl, q⟩⟩⟩
  refine ⟨_, rfl, rfl, _, rfl, itN (strNe h1) ?_⟩; rw [if_neg h1] at q
  by_cases h1 : sg = "<="
  · subst h1; rw [if_pos rfl] at q
    exact ⟨_, rfl, rfl, _, rfl, itY ⟨_, rfl, _, rfl, _, _, rfl, rfl, .inr ⟨_, rfl, q⟩⟩⟩
  refine ⟨_, rfl, rfl, _, rfl, itN (strNe h1) ?_⟩; rw [if_neg h1] at q
  by_cases h1 : sg = ">"
  · subst h1; rw [if_pos rfl] at q
    exact ⟨_, rfl, rfl, _, rfl, itY ⟨_, rfl, _, rfl, _, _, rfl, rfl, .inr ⟨_, rfl, q⟩⟩⟩
  refine ⟨_, rfl, rfl, _, rfl, itN (strNe h1) ?_⟩; rw [if_neg h1] at q
  by_cases h1 : sg = ">="
  · subst h1; rw [if_pos rfl] at q
    exact ⟨_, rfl, rfl, _, rfl, itY ⟨_, rfl, _, rfl, _, _, rfl, rfl, .inr ⟨_, rfl, q⟩⟩⟩
  refine ⟨_, rfl, rfl, _, rfl, itN (strNe h1) ?_⟩; rw [if_neg h1] at q
  by_cases h1 : sg = "="
  · subst h1; rw [if_pos rfl] at q
    exact ⟨_, rfl, rfl, _, rfl, itY ⟨_, rfl, _, rfl, rfl, .inr ⟨_, rfl, by rw [beqi]; exact q⟩⟩⟩
  refine ⟨_, rfl, rfl, _, rfl, itN (strNe h1) ?_⟩; rw [if_neg h1] at q
  exact ⟨_, rfl, _, rfl, rfl, .inr ⟨_, rfl, by rw [beqi]; exact q⟩⟩
end
end K01
namespace K01
open PySem L2 Vk
def spCalled (K : PySem.W.Frag) : Sp := fun vs H Q _ => ∃ (w : Str) (p da : Addr) (xs : List Int) (r : Int), vs = [.str w, .ref p, .ref da] ∧ H p = some (.lst (xs.map V.int)) ∧
  ((∃ a b, w = "min" ∧ xs = [a, b] ∧ r = if b < a then b else a) ∨ (∃ a b, w = "max" ∧ xs = [a, b] ∧ r = if b > a then b else a) ∨ (∃ a b c, w = "pick" ∧ xs = [a, b, c] ∧ r = if a = 0 then c else b) ∨
    (∃ a ka q pl, w = "nth" ∧ xs = [a] ∧ H da = some (.dK ka) ∧ valV ka (.inr "place") = some (.ref q) ∧ SqI K H q pl ∧ pl.length ≤ 1000 ∧ r = nthZ pl a)) ∧ ∀ H', Same H H' → Q (.int r) H'
section
variable {P : Program} {w : World} {K : PySem.W.Frag} {mg : Str → Option Value} {base : Heap}
/-- an item of a list or a tuple of numbers -/
theorem rd_item {H : Hp} {p : Addr} {xs : List Int} {i : Int} {Q : VK} (h : SqI K H p xs) (h0 : 0 ≤ i) (h1 : i < xs.length) (q : Q (.int (xs.getD i.toNat 0)) H) : rIx K (.ref p) (.int i) H Q := by
  rcases h with h | h
  · exact .inl ⟨p, _, i, _, rfl, rfl, h, atI_int h0 h1, q⟩
  · exact .inr (.inl ⟨p, _, i, _, rfl, rfl, h, atI_int h0 h1, q⟩)
theorem ok_cell_of {f : Addr} {fd : FuncData} {k : Nat} (F : Fun K "_cell_of" "_cell_of" s_cell_of f fd) (mlen : mg "len" = none) : FnOk P w K mg base CX0 (k + 1) f fd P_cell_of (spCellOf K) := by
  refine F.ok sc_cell_of (fun vs H Q E h => ?_) (fun cdv A outer s H vs Q E hr h => ?_)
  · obtain ⟨p, xs, i, rfl, _⟩ := h
    rfl
  obtain ⟨p, xs, i, rfl, hS, q⟩ := h
  refine ⟨_, (pss_one (ps_ret (pe_ifExp (pt_chain op_le op_lt pe_int (pv 1) (pe_callB call_len_seq (by rfl) mlen (by decide +kernel) (pa_cons (pv 0) pa_nil))) (pe_ix ix_seq (pv 0) (pv 1) (fun _ _ => rfl)) pe_int))), ?_⟩
  unfold cellAt at q
  have ln : ((xs.map V.int).length : Int) = xs.length := by rw [List.length_map]
  refine ⟨_, rfl, _, _, rfl, rfl, _, rfl, ?_⟩
  by_cases h0 : 0 ≤ i
  · refine (?_ : if decide (0 ≤ i) = true then _ else _)
    rw [decide_eq_true h0]
    refine iteT ⟨_, rfl, p, _, rfl, hS, _, _, rfl, rfl, _, rfl, ?_⟩
    by_cases h1 : i < xs.length
    · refine (?_ : if decide (i < ((xs.map V.int).length : Int)) = true then _ else _)
      rw [ln, decide_eq_true h1]
      rw [if_pos ⟨h0, h1⟩] at q
      exact iteT ⟨_, rfl, _, rfl, rd_item hS h0 h1 q⟩
    · refine (?_ : if decide (i < ((xs.map V.int).length : Int)) = true then _ else _)
      rw [ln, decide_eq_false h1]
      rw [if_neg (fun z => h1 z.2)] at q
      exact iteF q
  · refine (?_ : if decide (0 ≤ i) = true then _ else _)
    rw [decide_eq_false h0]
    rw [if_neg (fun z => h0 z.1)] at q
    exact iteF ⟨_, rfl, iteF q⟩
theorem ok_zero {f : Addr} {fd : FuncData} {k : Nat} (F : Fun K "_index_of_zero" "_index_of_zero" s_index_of_zero f fd) (mlen : mg "len" = none) (menumerate : mg "enumerate" = none) : FnOk P w K mg base CX0 (k + 1) f fd P_index_of_zero (spZero K) := by
  refine F.ok sc_index_of_zero (fun vs H Q E h => ?_) (fun cdv A outer s H vs Q E hr h => ?_)
  · obtain ⟨p, xs, i, rfl, _⟩ := h
    rfl
  obtain ⟨p, xs, i, rfl, hS, hz, q⟩ := h
  refine ⟨_, (pss_cons (ps_setLc (i := 2) (own := [("at", 3), ("cell", 4)]) (g := gTup K 2 (gCons (gName 3) (gCons (gName 4) gNil))) rfl sc_index_of_zero.nd rfl rfl (sw_true rfl rfl rfl (by decide +kernel)) (pi_enumS (by rfl) menumerate (pa_cons (pv 0) pa_nil)) (blkOk_by (N := N_index_of_zero) (sc := defScope s_index_of_zero) (by decide +kernel)) (fun _ _ _ _ _ => pg_tup rfl (pgs_cons (pg_name (i := 3) sc_index_of_zero.nd rfl (Or.inl rfl)) (pgs_cons (pg_name (i := 4) sc_index_of_zero.nd rfl (Or.inl rfl)) pgs_nil))) (fun _ _ _ _ _ => pts_one (pt_cmpR op_eq (pv 4) pe_int (nomark _))) (fun _ _ _ _ _ => pv 3))
    (pss_one (ps_ret (pe_ifExp (pt_chain op_le op_lt pe_int (pv 1) (pe_callB call_len_seq (by rfl) mlen (by decide +kernel) (pa_cons (pv 2) pa_nil))) (pe_ix ix_list (pv 2) (pv 1) (fun _ _ => rfl)) (pe_un un_neg pe_int))))), ?_⟩
  have hstep : ∀ {i : Nat} {y : V}, (xs.map V.int)[i]? = some y → ∃ x, xs[i]? = some x ∧ y = .int x := fun {i y} h => by
    rw [List.getElem?_map] at h
    cases e : xs[i]? with
    | none => rw [e] at h; cases h
    | some x => rw [e] at h; cases h; exact ⟨x, rfl, rfl⟩
  have szz : ∀ i, (zerosN 0 (xs.take i)).length < sizeLine := fun i => by
    have h1 := zeros_len 0 (xs.take i)
    rw [List.length_take] at h1
    exact small1000 (by omega)
  -- what follows the comprehension
  have fin : ∀ {J : It} {G : Hp → Prop} {D : Addr} {Qd : Hp → Prop}, True := trivial
  have start : ∀ {D : Addr}, H D = none → Same H (upd H D (.lst [])) ∧ (upd H D (.lst [])) D = some (.lst ((zerosN 0 (xs.take 0)).map V.int)) := fun {D} hD => ⟨same_new hD _, upd_same⟩
  have turnP : ∀ {D T : Addr} {i : Nat} {x : Int} {H' : Hp}, H D = none → Same H H' → H' D = some (.lst ((zerosN 0 (xs.take i)).map V.int)) → H' T = none → xs[i]? = some x →
      (x = 0 → Same H (upd (upd H' T (.tup [.int (i : Nat), .int x])) D (.lst ((zerosN 0 (xs.take i)).map V.int ++ [.int (i : Nat)]))) ∧ (upd (upd H' T (.tup [.int (i : Nat), .int x])) D (.lst ((zerosN 0 (xs.take i)).map V.int ++ [.int (i : Nat)]))) D = some (.lst ((zerosN 0 (xs.take (i + 1))).map V.int))) ∧
      (x ≠ 0 → Same H (upd H' T (.tup [.int (i : Nat), .int x])) ∧ (upd H' T (.tup [.int (i : Nat), .int x])) D = some (.lst ((zerosN 0 (xs.take (i + 1))).map V.int))) := fun {D T i x H'} hD sm eD hT hx => by
    have sT := same_new hT (.tup [.int (i : Nat), .int x])
    constructor
    · intro z
      refine ⟨same_put (sm.trans sT) hD, ?_⟩
      rw [upd_same, zeros_step hx, if_pos z, List.map_append]
      rfl
    · intro z
      refine ⟨sm.trans sT, ?_⟩
      rw [zeros_step hx, if_neg z, List.append_nil]
      exact sT _ _ eD
  have last : ∀ {D : Addr} {H' : Hp} {σ : St}, σ[1]? = some (some (.int i)) → σ[2]? = some (some (.ref D)) → Same H H' → H' D = some (.lst ((zerosN 0 (xs.take xs.length)).map V.int)) → True := fun _ _ _ _ => trivial
  have fin2 : ∀ {D : Addr} {H' : Hp}, Same H H' → H' D = some (.lst ((zerosN 0 (xs.take xs.length)).map V.int)) → H' D = some (.lst ((zerosN 0 xs).map V.int)) := fun {D H'} _ e => by rw [List.take_length] at e; exact e
  have ln : (((zerosN 0 xs).map V.int).length : Int) = (zerosN 0 xs).length := by rw [List.length_map]
  rcases hS with hS | hS
  · refine ⟨_, rfl, p, _, rfl, .inl ⟨hS, fun D hD => ?_⟩⟩
    refine lc_it walk_enum (fun i H' => Same H H' ∧ H' D = some (.lst ((zerosN 0 (xs.take i)).map V.int))) (start hD) (fun i H' _ hp => hp.1.seq hS) (fun i v H' H2 hi hp hy => ?_) (fun H' hp => ?_)
    · obtain ⟨T, x, y, rfl, hT, rfl, hx, hy⟩ := hy
      obtain ⟨z, hz1, rfl⟩ := hstep hy
      cases hx
      have tp := turnP hD hp.1 hp.2 hT hz1
      refine ⟨T, _, rfl, SqT.of upd_same, rfl, _, _, rfl, _, _, rfl, rfl, rfl, ?_⟩
      refine ⟨_, rfl, rfl, _, rfl, ite2 (fun c => ?_) (fun c => ?_)⟩
      · exact ⟨_, rfl, _, same_new hT _ _ _ hp.2, by rw [List.length_map]; exact szz i, tp.1 (V.int.inj (of_decide_eq_true c))⟩
      · exact tp.2 (fun z => c (decide_eq_true (by rw [z])))
    · have eD : H' D = some (.lst ((zerosN 0 xs).map V.int)) := by
        have h2 := hp.2
        rw [List.length_map, List.take_length] at h2
        exact h2
      have q := q H' hp.1
      unfold nthZ at q
      refine ⟨_, rfl, _, _, rfl, rfl, _, rfl, ?_⟩
      by_cases h0 : 0 ≤ i
      · refine (?_ : if decide (0 ≤ i) = true then _ else _)
        rw [decide_eq_true h0]
        refine iteT ⟨_, rfl, D, _, rfl, .inl (SqL.of eD), _, _, rfl, rfl, _, rfl, ?_⟩
        by_cases h1 : i < (zerosN 0 xs).length
        · refine (?_ : if decide (i < (((zerosN 0 xs).map V.int).length : Int)) = true then _ else _)
          rw [ln, decide_eq_true h1]
          rw [if_pos ⟨h0, h1⟩] at q
          exact iteT ⟨_, rfl, _, rfl, D, _, _, _, rfl, rfl, SqL.of eD, atI_int h0 h1, q⟩
        · refine (?_ : if decide (i < (((zerosN 0 xs).map V.int).length : Int)) = true then _ else _)
          rw [ln, decide_eq_false h1]
          rw [if_neg (fun z => h1 z.2)] at q
          exact iteF ⟨_, rfl, q⟩
      · refine (?_ : if decide (0 ≤ i) = true then _ else _)
        rw [decide_eq_false h0]
        rw [if_neg (fun z => h0 z.1)] at q
        exact iteF ⟨_, rfl, iteF ⟨_, rfl, q⟩⟩
  · refine ⟨_, rfl, p, _, rfl, .inr ⟨hS, fun D hD => ?_⟩⟩
    refine lc_it walk_enumT (fun i H' => Same H H' ∧ H' D = some (.lst ((zerosN 0 (xs.take i)).map V.int))) (start hD) (fun i H' _ hp => Vk.Same.tup hp.1 hS) (fun i v H' H2 hi hp hy => ?_) (fun H' hp => ?_)
    · obtain ⟨T, x, y, rfl, hT, rfl, hx, hy⟩ := hy
      obtain ⟨z, hz1, rfl⟩ := hstep hy
      cases hx
      have tp := turnP hD hp.1 hp.2 hT hz1
      refine ⟨T, _, rfl, SqT.of upd_same, rfl, _, _, rfl, _, _, rfl, rfl, rfl, ?_⟩
      refine ⟨_, rfl, rfl, _, rfl, ite2 (fun c => ?_) (fun c => ?_)⟩
      · exact ⟨_, rfl, _, same_new hT _ _ _ hp.2, by rw [List.length_map]; exact szz i, tp.1 (V.int.inj (of_decide_eq_true c))⟩
      · exact tp.2 (fun z => c (decide_eq_true (by rw [z])))
    · have eD : H' D = some (.lst ((zerosN 0 xs).map V.int)) := by
        have h2 := hp.2
        rw [List.length_map, List.take_length] at h2
        exact h2
      have q := q H' hp.1
      unfold nthZ at q
      refine ⟨_, rfl, _, _, rfl, rfl, _, rfl, ?_⟩
      by_cases h0 : 0 ≤ i
      · refine (?_ : if decide (0 ≤ i) = true then _ else _)
        rw [decide_eq_true h0]
        refine iteT ⟨_, rfl, D, _, rfl, .inl (SqL.of eD), _, _, rfl, rfl, _, rfl, ?_⟩
        by_cases h1 : i < (zerosN 0 xs).length
        · refine (?_ : if decide (i < (((zerosN 0 xs).map V.int).length : Int)) = true then _ else _)
          rw [ln, decide_eq_true h1]
          rw [if_pos ⟨h0, h1⟩] at q
          exact iteT ⟨_, rfl, _, rfl, D, _, _, _, rfl, rfl, SqL.of eD, atI_int h0 h1, q⟩
        · refine (?_ : if decide (i < (((zerosN 0 xs).map V.int).length : Int)) = true then _ else _)
          rw [ln, decide_eq_false h1]
          rw [if_neg (fun z => h1 z.2)] at q
          exact iteF ⟨_, rfl, q⟩
      · refine (?_ : if decide (0 ≤ i) = true then _ else _)
        rw [decide_eq_false h0]
        rw [if_neg (fun z => h0 z.1)] at q
        exact iteF ⟨_, rfl, iteF ⟨_, rfl, q⟩⟩
end
end K01
namespace K01
open PySem L2 Vk
section
variable {P : Program} {w : World} {K : PySem.W.Frag} {mg : Str → Option Value} {base : Heap}
theorem ok_ops {f : Addr} {fd : FuncData} {k : Nat} (F : Fun K "operands_of" "operands_of" s_operands_of f fd) : FnOk P w K mg base CX0 (k + 1) f fd P_operands_of (spOps K) := by
  refine F.ok sc_operands_of (fun vs H Q E h => ?_) (fun cdv A outer s H vs Q E hr h => ?_)
  · obtain ⟨v, e, rfl, _⟩ := h
    rfl
  obtain ⟨v, e, rfl, hAt, q⟩ := h
  refine ⟨_, (pss_cons (ps_set (i := 1) sc_operands_of.nd rfl (Or.inl rfl) (pe_ix ix_tup (pv 0) pe_int (fun _ _ => rfl)))
    (pss_cons (ps_if (pt_cmpR op_eq (pv 1) pe_str (nomark _))
      (pss_one (ps_ret (pe_tup (pa_cons (pe_ix ix_tup (pv 0) pe_int (fun _ _ => rfl)) pa_nil))))
      pss_nil)
    (pss_cons (ps_if (pt_cmpR op_eq (pv 1) pe_str (nomark _))
      (pss_one (ps_ret (pe_tup (pa_cons (pe_ix ix_tup (pv 0) pe_int (fun _ _ => rfl)) (pa_cons (pe_ix ix_tup (pv 0) pe_int (fun _ _ => rfl)) pa_nil)))))
      pss_nil)
    (pss_cons (ps_if (pt_cmpR op_eq (pv 1) pe_str (nomark _))
      (pss_one (ps_ret (pe_ix ix_tup (pv 0) pe_int (fun _ _ => rfl))))
      pss_nil)
    (pss_one (ps_ret (pe_tup pa_nil))))))), ?_⟩
  cases e with
  | num n =>
    obtain ⟨a, rfl, hT⟩ := hAt
    refine ⟨_, rfl, _, _, _, _, rfl, rfl, hT, atI_nat (j := 0) rfl, _, rfl, rfl, _, rfl, itN (by decide +kernel) ⟨_, rfl, rfl, _, rfl, itN (by decide +kernel) ⟨_, rfl, rfl, _, rfl, itN (by decide +kernel) ?_⟩⟩⟩
    exact ⟨(by show 0 ≤ sizeLine; decide), fun t ht => q t _ [] (same_new ht _) (SqT.of upd_same) trivial⟩
  | nam n =>
    obtain ⟨a, rfl, hT⟩ := hAt
    refine ⟨_, rfl, _, _, _, _, rfl, rfl, hT, atI_nat (j := 0) rfl, _, rfl, rfl, _, rfl, itN (by decide +kernel) ⟨_, rfl, rfl, _, rfl, itN (by decide +kernel) ⟨_, rfl, rfl, _, rfl, itN (by decide +kernel) ?_⟩⟩⟩
    exact ⟨(by show 0 ≤ sizeLine; decide), fun t ht => q t _ [] (same_new ht _) (SqT.of upd_same) trivial⟩
  | op sg l r =>
    obtain ⟨a, x, y, rfl, hT, hl, hr1⟩ := hAt
    refine ⟨_, rfl, _, _, _, _, rfl, rfl, hT, atI_nat (j := 0) rfl, _, rfl, rfl, _, rfl, itN (by decide +kernel) ⟨_, rfl, rfl, _, rfl, itY ⟨_, rfl, _, _, _, _, rfl, rfl, hT, atI_nat (j := 2) rfl, _, rfl, _, _, _, _, rfl, rfl, hT, atI_nat (j := 3) rfl, (by show 2 ≤ sizeLine; decide), fun t ht => ?_⟩⟩⟩
    have tt := Same.tu (K := K) (same_new ht (.tup [x, y]))
    exact q t _ [x, y] (same_new ht _) (SqT.of upd_same) ⟨hl.tu tt, hr1.tu tt, trivial⟩
  | rd sg l =>
    obtain ⟨a, x, rfl, hT, hl⟩ := hAt
    refine ⟨_, rfl, _, _, _, _, rfl, rfl, hT, atI_nat (j := 0) rfl, _, rfl, rfl, _, rfl, itY ⟨_, rfl, _, _, _, _, rfl, rfl, hT, atI_nat (j := 2) rfl, (by show 1 ≤ sizeLine; decide), fun t ht => ?_⟩⟩
    have tt := Same.tu (K := K) (same_new ht (.tup [x]))
    exact q t _ [x] (same_new ht _) (SqT.of upd_same) ⟨hl.tu tt, trivial⟩
  | c1 sg l =>
    obtain ⟨a, tt, x, rfl, hT, hT2, hl⟩ := hAt
    refine ⟨_, rfl, _, _, _, _, rfl, rfl, hT, atI_nat (j := 0) rfl, _, rfl, rfl, _, rfl, itN (by decide +kernel) ⟨_, rfl, rfl, _, rfl, itN (by decide +kernel) ⟨_, rfl, rfl, _, rfl, itY ?_⟩⟩⟩
    exact ⟨_, rfl, _, _, _, _, rfl, rfl, hT, atI_nat (j := 2) rfl, q tt H [x] (Same.refl H) hT2 ⟨hl, trivial⟩⟩
  | c2 sg l r =>
    obtain ⟨a, tt, x, y, rfl, hT, hT2, hl, hr1⟩ := hAt
    refine ⟨_, rfl, _, _, _, _, rfl, rfl, hT, atI_nat (j := 0) rfl, _, rfl, rfl, _, rfl, itN (by decide +kernel) ⟨_, rfl, rfl, _, rfl, itN (by decide +kernel) ⟨_, rfl, rfl, _, rfl, itY ?_⟩⟩⟩
    exact ⟨_, rfl, _, _, _, _, rfl, rfl, hT, atI_nat (j := 2) rfl, q tt H [x, y] (Same.refl H) hT2 ⟨hl, hr1, trivial⟩⟩
  | c3 sg l r z =>
    obtain ⟨a, tt, x, y, u, rfl, hT, hT2, hl, hr1, hz⟩ := hAt
    refine ⟨_, rfl, _, _, _, _, rfl, rfl, hT, atI_nat (j := 0) rfl, _, rfl, rfl, _, rfl, itN (by decide +kernel) ⟨_, rfl, rfl, _, rfl, itN (by decide +kernel) ⟨_, rfl, rfl, _, rfl, itY ?_⟩⟩⟩
    exact ⟨_, rfl, _, _, _, _, rfl, rfl, hT, atI_nat (j := 2) rfl, q tt H [x, y, u] (Same.refl H) hT2 ⟨hl, hr1, hz, trivial⟩⟩
theorem ok_called {f : Addr} {fd : FuncData} {k : Nat} (F : Fun K "_called_value" "_called_value" s_called_value f fd) (mmin : mg "min" = none) (mmax : mg "max" = none) (O_index_of_zero : Ok P w K mg base k "_index_of_zero" P_index_of_zero (spZero K)) : FnOk P w K mg base CX0 (k + 1) f fd P_called_value (spCalled K) := by
  refine F.ok sc_called_value (fun vs H Q E h => ?_) (fun cdv A outer s H vs Q E hr h => ?_)
  · obtain ⟨w, p, da, xs, r, rfl, _⟩ := h
    rfl
  obtain ⟨wd, p, da, xs, r, rfl, hp, hc, q⟩ := h
  refine ⟨_, (pss_cons (ps_if (pt_cmpR op_eq (pv 0) pe_str (nomark _))
      (pss_one (ps_ret (pe_callB (cr_min rfl) (by rfl) mmin (by decide +kernel) (pa_cons (pv 1) pa_nil))))
      pss_nil)
    (pss_cons (ps_if (pt_cmpR op_eq (pv 0) pe_str (nomark _))
      (pss_one (ps_ret (pe_callB (cr_max rfl) (by rfl) mmax (by decide +kernel) (pa_cons (pv 1) pa_nil))))
      pss_nil)
    (pss_cons (ps_if (pt_cmpR op_eq (pv 0) pe_str (nomark _))
      (pss_one (ps_ret (pe_ifExp (pt_cmpR op_ne (pe_ix ix_list (pv 1) pe_int (fun _ _ => rfl)) pe_int (nomark _)) (pe_ix ix_list (pv 1) pe_int (fun _ _ => rfl)) (pe_ix ix_list (pv 1) pe_int (fun _ _ => rfl)))))
      pss_nil)
    (pss_one (ps_ret (pe_c O_index_of_zero hr (by rfl) (pa_cons (pe_dget (hu_of hr) (pv 2) pe_str (fun _ _ => rfl)) (pa_cons (pe_ix ix_list (pv 1) pe_int (fun _ _ => rfl)) pa_nil)))))))), ?_⟩
  have q0 := q H (Same.refl H)
  rcases hc with ⟨a, b, rfl, rfl, rfl⟩ | ⟨a, b, rfl, rfl, rfl⟩ | ⟨a, b, c, rfl, rfl, rfl⟩ | ⟨a, ka, z, pl, rfl, rfl, hda, hv, hs, hz, rfl⟩
  · refine ⟨_, rfl, rfl, _, rfl, itY ⟨_, rfl, p, [a, b], rfl, SqL.of hp, (by show 0 < 2; decide), fun m hm hle => ?_⟩⟩
    have h1 := hle a (by simp)
    have h2 := hle b (by simp)
    have : m = if b < a then b else a := by
      simp only [List.mem_cons, List.not_mem_nil, or_false] at hm
      split <;> omega
    rw [this]
    exact q0
  · refine ⟨_, rfl, rfl, _, rfl, itN (by decide +kernel) ⟨_, rfl, rfl, _, rfl, itY ⟨_, rfl, p, [a, b], rfl, SqL.of hp, (by show 0 < 2; decide), fun m hm hle => ?_⟩⟩⟩
    have h1 := hle a (by simp)
    have h2 := hle b (by simp)
    have : m = if b > a then b else a := by
      simp only [List.mem_cons, List.not_mem_nil, or_false] at hm
      split <;> omega
    rw [this]
    exact q0
  · refine ⟨_, rfl, rfl, _, rfl, itN (by decide +kernel) ⟨_, rfl, rfl, _, rfl, itN (by decide +kernel) ⟨_, rfl, rfl, _, rfl, itY ⟨_, rfl, _, _, _, _, rfl, rfl, (SqL.of hp), atI_nat (j := 0) rfl, rfl, _, rfl, ?_⟩⟩⟩⟩
    by_cases z : a = 0
    · subst z
      rw [if_pos rfl] at q0
      exact itYn ⟨_, rfl, _, _, _, _, rfl, rfl, (SqL.of hp), atI_nat (j := 2) rfl, q0⟩
    · rw [if_neg z] at q0
      exact itNn (fun y => z (V.int.inj y)) ⟨_, rfl, _, _, _, _, rfl, rfl, (SqL.of hp), atI_nat (j := 1) rfl, q0⟩
  · refine ⟨_, rfl, rfl, _, rfl, itN (by decide +kernel) ⟨_, rfl, rfl, _, rfl, itN (by decide +kernel) ⟨_, rfl, rfl, _, rfl, itN (by decide +kernel) ?_⟩⟩⟩
    exact ⟨_, rfl, _, _, rfl, dget_str hda hv, _, rfl, _, _, _, _, rfl, rfl, (SqL.of hp), atI_nat (j := 0) rfl, z, pl, a, rfl, hs, hz, q⟩
/-- the values of the parts, one by one -/
def kvals (nm : Str → Int) (ar : Str → List Int) (e : Ex) : List Int := e.kids.map (valE nm ar)
theorem kvals_get {nm : Str → Int} {ar : Str → List Int} {e k : Ex} {i : Nat} (h : e.kids[i]? = some k) : ((kvals nm ar e).map V.int).take (i + 1) = ((kvals nm ar e).map V.int).take i ++ [.int (valE nm ar k)] := by
  rw [List.take_add_one]
  unfold kvals
  rw [List.getElem?_map, List.getElem?_map, h]
  rfl
theorem ok_value_of {f : Addr} {fd : FuncData} {k n : Nat} (F : Fun K "value_of" "value_of" s_value_of f fd) (Ooperands_of : Ok P w K mg base k "operands_of" P_operands_of (spOps K)) (O_joined_value : Ok P w K mg base k "_joined_value" P_joined_value spSgn)
    (O_cell_of : Ok P w K mg base k "_cell_of" P_cell_of (spCellOf K)) (O_called_value : Ok P w K mg base k "_called_value" P_called_value (spCalled K)) (Ovalue_of : Ok P w K mg base k "value_of" P_value_of (spVal K n)) : FnOk P w K mg base CX0 (k + 1) f fd P_value_of (spVal K (n + 1)) := by
  refine F.ok sc_value_of (fun vs H Q E h => ?_) (fun cdv A outer s H vs Q E hr h => ?_)
  · obtain ⟨v, e, dn, da, nm, ar, ns, as, rfl, _⟩ := h
    rfl
  obtain ⟨v, e, dn, da, nm, ar, ns, as, rfl, hAt, hdep, hg, hpl, hM, q⟩ := h
  refine ⟨_, (pss_cons (ps_set (i := 3) sc_value_of.nd rfl (Or.inl rfl) (pe_ix ix_tup (pv 0) pe_int (fun _ _ => rfl)))
    (pss_cons (ps_if (pt_cmpR op_eq (pv 3) pe_str (nomark _))
      (pss_one (ps_ret (pe_ix ix_tup (pv 0) pe_int (fun _ _ => rfl))))
      pss_nil)
    (pss_cons (ps_if (pt_cmpR op_eq (pv 3) pe_str (nomark _))
      (pss_one (ps_ret (pe_dget (hu_of hr) (pv 1) (pe_ix ix_tup (pv 0) pe_int (fun _ _ => rfl)) (fun _ _ => rfl))))
      pss_nil)
    (pss_cons (ps_setLc (i := 4) (own := [("part", 5)]) (g := gName 5) (tt := tYes) rfl sc_value_of.nd rfl rfl (sw_true rfl rfl rfl (by decide +kernel)) (pi_tup (pe_c Ooperands_of hr (by rfl) (pa_cons (pv 0) pa_nil))) (blkOk_by (N := N_value_of) (sc := defScope s_value_of) (by decide +kernel)) (fun _ _ _ _ _ => pg_name (i := 5) sc_value_of.nd rfl (Or.inl rfl)) (fun _ _ _ _ _ => pts_nil) (fun _ _ _ _ _ => pe_c Ovalue_of hr (by rfl) (pa_cons (pv 5) (pa_cons (pv 1) (pa_cons (pv 2) pa_nil)))))
    (pss_cons (ps_if (pt_cmpR op_eq (pv 3) pe_str (nomark _))
      (pss_one (ps_ret (pe_c O_cell_of hr (by rfl) (pa_cons (pe_dget (hu_of hr) (pv 2) (pe_ix ix_tup (pv 0) pe_int (fun _ _ => rfl)) (fun _ _ => rfl)) (pa_cons (pe_ix ix_list (pv 4) pe_int (fun _ _ => rfl)) pa_nil)))))
      pss_nil)
    (pss_cons (ps_if (pt_cmpR op_eq (pv 3) pe_str (nomark _))
      (pss_one (ps_ret (pe_c O_joined_value hr (by rfl) (pa_cons (pe_ix ix_tup (pv 0) pe_int (fun _ _ => rfl)) (pa_cons (pe_ix ix_list (pv 4) pe_int (fun _ _ => rfl)) (pa_cons (pe_ix ix_list (pv 4) pe_int (fun _ _ => rfl)) pa_nil))))))
      pss_nil)
    (pss_one (ps_ret (pe_c O_called_value hr (by rfl) (pa_cons (pe_ix ix_tup (pv 0) pe_int (fun _ _ => rfl)) (pa_cons (pv 4) (pa_cons (pv 2) pa_nil)))))))))))), ?_⟩
  -- the parts' values
  obtain ⟨kv, hkv⟩ : ∃ kv, kv = kvals nm ar e := ⟨_, rfl⟩
  have kvg : ∀ {i : Nat} {k : Ex}, e.kids[i]? = some k → (kv.map V.int).take (i + 1) = (kv.map V.int).take i ++ [.int (valE nm ar k)] := fun {i k} h => by
    rw [hkv]
    exact kvals_get h
  have kvl : (kv.map V.int).length = e.kids.length := by
    rw [hkv, List.length_map]
    exact List.length_map _
  have turnP : ∀ {D t : Addr} {us : List V} {H1 H' : Hp} {i : Nat} {x : V}, Same H H1 → Ex.AtAll K H1 e.kids us → us[i]? = some x → Same H1 H' → ∃ ei, e.kids[i]? = some ei ∧ ei.At K H' x ∧ ei.dep ≤ n ∧ ei.good ns as ∧ (("place" : Str) ∈ as ∨ ei.flat) ∧ Mem K H' dn da nm ar ns as := fun {D t us H1 H' i x} s1 au hx sm => by
    obtain ⟨ei, gi, ati⟩ := au.get hx
    have em : ei ∈ e.kids := List.mem_of_getElem? gi
    have ed := Ex.kids_dep em
    exact ⟨ei, gi, ati.tu (Same.tu sm), by omega, Ex.kids_good em hg, hpl.imp id (Ex.kids_flat em), hM.same (s1.trans sm)⟩
  have ksz : ∀ i, ((kv.map V.int).take i).length < sizeLine := fun i => by
    rw [List.length_take, kvl]
    have : e.kids.length ≤ 3 := by cases e <;> simp [Ex.kids]
    exact small1000 (by omega)
  cases e with
  | num m =>
    obtain ⟨a, rfl, hT⟩ := hAt
    exact ⟨_, rfl, _, _, _, _, rfl, rfl, hT, atI_nat (j := 0) rfl, _, rfl, rfl, _, rfl, itY ⟨_, rfl, _, _, _, _, rfl, rfl, hT, atI_nat (j := 1) rfl, q H (Same.refl H)⟩⟩
  | nam x =>
    obtain ⟨a, rfl, hT⟩ := hAt
    obtain ⟨kn, h1, h2⟩ := hM.dn
    exact ⟨_, rfl, _, _, _, _, rfl, rfl, hT, atI_nat (j := 0) rfl, _, rfl, rfl, _, rfl, itN (by decide +kernel) ⟨_, rfl, rfl, _, rfl, itY ⟨_, rfl, _, rfl, _, _, _, _, rfl, rfl, hT, atI_nat (j := 1) rfl, _, _, rfl, dget_str h1 (h2 x hg), q H (Same.refl H)⟩⟩⟩
  | op sg el er =>
    have hAt0 := hAt
    obtain ⟨a, x, y, rfl, hT, hl, hr1⟩ := hAt
    refine ⟨_, rfl, _, _, _, _, rfl, rfl, hT, atI_nat (j := 0) rfl, _, rfl, rfl, _, rfl, itN (by decide +kernel) ⟨_, rfl, rfl, _, rfl, itN (by decide +kernel) ?_⟩⟩
    refine ⟨_, rfl, _, _, rfl, hAt0, fun t H1 us s1 ht au => ⟨t, rfl, ⟨_, ht⟩, fun D hD => ?_⟩⟩
    have kl := au.len
    refine lc_tup (xs := us) (fun i H' => Same H1 H' ∧ H' D = some (.lst ((kv.map V.int).take i))) ⟨same_new hD _, upd_same⟩ (fun i H' _ hp => Vk.Same.tup hp.1 ht) (fun i x' H' hx hp => ?_) (fun H' hp => ?_)
    · obtain ⟨sm, eD⟩ := hp
      obtain ⟨ei, gi, ai, di, gd, pi, Mi⟩ := turnP (D := D) (t := t) s1 au hx sm
      refine ⟨rfl, _, rfl, _, rfl, _, rfl, x', ei, dn, da, nm, ar, ns, as, rfl, ai, di, gd, pi, Mi, fun H2 s2 => ?_⟩
      refine ⟨_, s2 _ _ eD, ksz i, same_put (sm.trans s2) hD, ?_⟩
      rw [kvg gi]
      exact upd_same
    · have g1 := s1.trans hp.1
      have eD := hp.2
      rw [← kl, ← kvl, List.take_length, hkv] at eD
      have hT2 := Same.tup g1 hT
      refine ⟨_, rfl, rfl, _, rfl, itN (by decide +kernel) ⟨_, rfl, rfl, _, rfl, itY ?_⟩⟩
      have l1 := val_lim hM.ln hM.la hM.lp el hg.2.1
      have l2 := val_lim hM.ln hM.la hM.lp er hg.2.2
      exact ⟨_, rfl, _, _, _, _, rfl, rfl, hT2, atI_nat (j := 1) rfl, _, rfl, _, _, _, _, rfl, rfl, (SqL.of eD), atI_nat (j := 0) rfl, _, rfl, _, _, _, _, rfl, rfl, (SqL.of eD), atI_nat (j := 1) rfl, sg, _, _, rfl, l1, l2, q _ g1⟩
  | rd x el =>
    have hAt0 := hAt
    obtain ⟨a, y, rfl, hT, hl⟩ := hAt
    refine ⟨_, rfl, _, _, _, _, rfl, rfl, hT, atI_nat (j := 0) rfl, _, rfl, rfl, _, rfl, itN (by decide +kernel) ⟨_, rfl, rfl, _, rfl, itN (by decide +kernel) ?_⟩⟩
    refine ⟨_, rfl, _, _, rfl, hAt0, fun t H1 us s1 ht au => ⟨t, rfl, ⟨_, ht⟩, fun D hD => ?_⟩⟩
    have kl := au.len
    refine lc_tup (xs := us) (fun i H' => Same H1 H' ∧ H' D = some (.lst ((kv.map V.int).take i))) ⟨same_new hD _, upd_same⟩ (fun i H' _ hp => Vk.Same.tup hp.1 ht) (fun i x' H' hx hp => ?_) (fun H' hp => ?_)
    · obtain ⟨sm, eD⟩ := hp
      obtain ⟨ei, gi, ai, di, gd, pi, Mi⟩ := turnP (D := D) (t := t) s1 au hx sm
      refine ⟨rfl, _, rfl, _, rfl, _, rfl, x', ei, dn, da, nm, ar, ns, as, rfl, ai, di, gd, pi, Mi, fun H2 s2 => ?_⟩
      refine ⟨_, s2 _ _ eD, ksz i, same_put (sm.trans s2) hD, ?_⟩
      rw [kvg gi]
      exact upd_same
    · have g1 := s1.trans hp.1
      have eD := hp.2
      rw [← kl, ← kvl, List.take_length, hkv] at eD
      have hT2 := Same.tup g1 hT
      obtain ⟨ka, h1, h2⟩ := (hM.same g1).da
      obtain ⟨p, e1, e2, e3⟩ := h2 x hg.1
      exact ⟨_, rfl, rfl, _, rfl, itY ⟨_, rfl, _, rfl, _, _, _, _, rfl, rfl, hT2, atI_nat (j := 1) rfl, _, _, rfl, dget_str h1 e1, _, rfl, _, _, _, _, rfl, rfl, (SqL.of eD), atI_nat (j := 0) rfl, p, _, _, rfl, e2, q _ g1⟩⟩
  | c1 x el =>
    have hAt0 := hAt
    obtain ⟨a, tt, y, rfl, hT, hT1, hl⟩ := hAt
    refine ⟨_, rfl, _, _, _, _, rfl, rfl, hT, atI_nat (j := 0) rfl, _, rfl, rfl, _, rfl, itN (by decide +kernel) ⟨_, rfl, rfl, _, rfl, itN (by decide +kernel) ?_⟩⟩
    refine ⟨_, rfl, _, _, rfl, hAt0, fun t H1 us s1 ht au => ⟨t, rfl, ⟨_, ht⟩, fun D hD => ?_⟩⟩
    have kl := au.len
    refine lc_tup (xs := us) (fun i H' => Same H1 H' ∧ H' D = some (.lst ((kv.map V.int).take i))) ⟨same_new hD _, upd_same⟩ (fun i H' _ hp => Vk.Same.tup hp.1 ht) (fun i x' H' hx hp => ?_) (fun H' hp => ?_)
    · obtain ⟨sm, eD⟩ := hp
      obtain ⟨ei, gi, ai, di, gd, pi, Mi⟩ := turnP (D := D) (t := t) s1 au hx sm
      refine ⟨rfl, _, rfl, _, rfl, _, rfl, x', ei, dn, da, nm, ar, ns, as, rfl, ai, di, gd, pi, Mi, fun H2 s2 => ?_⟩
      refine ⟨_, s2 _ _ eD, ksz i, same_put (sm.trans s2) hD, ?_⟩
      rw [kvg gi]
      exact upd_same
    · have g1 := s1.trans hp.1
      have eD := hp.2
      rw [← kl, ← kvl, List.take_length, hkv] at eD
      have hT2 := Same.tup g1 hT
      obtain ⟨ka, h1, h2⟩ := (hM.same g1).da
      obtain ⟨p, e1, e2, e3⟩ := h2 "place" (hpl.elim id fun z => z.elim)
      refine ⟨_, rfl, rfl, _, rfl, itN (by decide +kernel) ⟨_, rfl, rfl, _, rfl, itN (by decide +kernel) ?_⟩⟩
      exact ⟨_, rfl, _, _, _, _, rfl, rfl, hT2, atI_nat (j := 1) rfl, _, rfl, _, rfl, x, D, da, _, _, rfl, eD, .inr (.inr (.inr ⟨_, ka, p, _, hg.1, rfl, h1, e1, e2, by omega, rfl⟩)), fun H9 s9 => q H9 (g1.trans s9)⟩
  | c2 x el er =>
    have hAt0 := hAt
    obtain ⟨a, tt, y, z, rfl, hT, hT1, hl, hr1⟩ := hAt
    refine ⟨_, rfl, _, _, _, _, rfl, rfl, hT, atI_nat (j := 0) rfl, _, rfl, rfl, _, rfl, itN (by decide +kernel) ⟨_, rfl, rfl, _, rfl, itN (by decide +kernel) ?_⟩⟩
    refine ⟨_, rfl, _, _, rfl, hAt0, fun t H1 us s1 ht au => ⟨t, rfl, ⟨_, ht⟩, fun D hD => ?_⟩⟩
    have kl := au.len
    refine lc_tup (xs := us) (fun i H' => Same H1 H' ∧ H' D = some (.lst ((kv.map V.int).take i))) ⟨same_new hD _, upd_same⟩ (fun i H' _ hp => Vk.Same.tup hp.1 ht) (fun i x' H' hx hp => ?_) (fun H' hp => ?_)
    · obtain ⟨sm, eD⟩ := hp
      obtain ⟨ei, gi, ai, di, gd, pi, Mi⟩ := turnP (D := D) (t := t) s1 au hx sm
      refine ⟨rfl, _, rfl, _, rfl, _, rfl, x', ei, dn, da, nm, ar, ns, as, rfl, ai, di, gd, pi, Mi, fun H2 s2 => ?_⟩
      refine ⟨_, s2 _ _ eD, ksz i, same_put (sm.trans s2) hD, ?_⟩
      rw [kvg gi]
      exact upd_same
    · have g1 := s1.trans hp.1
      have eD := hp.2
      rw [← kl, ← kvl, List.take_length, hkv] at eD
      have hT2 := Same.tup g1 hT
      refine ⟨_, rfl, rfl, _, rfl, itN (by decide +kernel) ⟨_, rfl, rfl, _, rfl, itN (by decide +kernel) ?_⟩⟩
      refine ⟨_, rfl, _, _, _, _, rfl, rfl, hT2, atI_nat (j := 1) rfl, _, rfl, _, rfl, x, D, da, _, _, rfl, eD, ?_, fun H9 s9 => q H9 (g1.trans s9)⟩
      rcases hg.1 with rfl | rfl
      · exact .inl ⟨_, _, rfl, rfl, if_pos rfl⟩
      · exact .inr (.inl ⟨_, _, rfl, rfl, if_neg (by decide +kernel)⟩)
  | c3 x el er eq =>
    have hAt0 := hAt
    obtain ⟨a, tt, y, z, u, rfl, hT, hT1, hl, hr1, hz1⟩ := hAt
    refine ⟨_, rfl, _, _, _, _, rfl, rfl, hT, atI_nat (j := 0) rfl, _, rfl, rfl, _, rfl, itN (by decide +kernel) ⟨_, rfl, rfl, _, rfl, itN (by decide +kernel) ?_⟩⟩
    refine ⟨_, rfl, _, _, rfl, hAt0, fun t H1 us s1 ht au => ⟨t, rfl, ⟨_, ht⟩, fun D hD => ?_⟩⟩
    have kl := au.len
    refine lc_tup (xs := us) (fun i H' => Same H1 H' ∧ H' D = some (.lst ((kv.map V.int).take i))) ⟨same_new hD _, upd_same⟩ (fun i H' _ hp => Vk.Same.tup hp.1 ht) (fun i x' H' hx hp => ?_) (fun H' hp => ?_)
    · obtain ⟨sm, eD⟩ := hp
      obtain ⟨ei, gi, ai, di, gd, pi, Mi⟩ := turnP (D := D) (t := t) s1 au hx sm
      refine ⟨rfl, _, rfl, _, rfl, _, rfl, x', ei, dn, da, nm, ar, ns, as, rfl, ai, di, gd, pi, Mi, fun H2 s2 => ?_⟩
      refine ⟨_, s2 _ _ eD, ksz i, same_put (sm.trans s2) hD, ?_⟩
      rw [kvg gi]
      exact upd_same
    · have g1 := s1.trans hp.1
      have eD := hp.2
      rw [← kl, ← kvl, List.take_length, hkv] at eD
      have hT2 := Same.tup g1 hT
      refine ⟨_, rfl, rfl, _, rfl, itN (by decide +kernel) ⟨_, rfl, rfl, _, rfl, itN (by decide +kernel) ?_⟩⟩
      exact ⟨_, rfl, _, _, _, _, rfl, rfl, hT2, atI_nat (j := 1) rfl, _, rfl, _, rfl, x, D, da, _, _, rfl, eD, .inr (.inr (.inl ⟨_, _, _, hg.1, rfl, rfl⟩)), fun H9 s9 => q H9 (g1.trans s9)⟩
end
end K01
namespace K01
open PySem L2 Vk
section
variable {P : Program} {w : World} {K : PySem.W.Frag} {mg : Str → Option Value} {base : Heap}
theorem ok_law_value {f : Addr} {fd : FuncData} {k n : Nat} (F : Fun K "_law_value" "_law_value" s_law_value f fd) (mlen : mg "len" = none) (mmin : mg "min" = none) (mmax : mg "max" = none) (mint : mg "int" = none) (mrange : mg "range" = none)
    (O_law_sign_value : Ok P w K mg base k "_law_sign_value" P_law_sign_value spSgn) (O_law_value : Ok P w K mg base k "_law_value" P_law_value (spVal K n)) : FnOk P w K mg base CX0 (k + 1) f fd P_law_value (spVal K (n + 1)) := by
  refine F.ok sc_law_value (fun vs H Q E h => ?_) (fun cdv A outer s H vs Q E hr h => ?_)
  · obtain ⟨v, e, dn, da, nm, ar, ns, as, rfl, _⟩ := h
    rfl
  obtain ⟨v, e, dn, da, nm, ar, ns, as, rfl, hAt, hdep, hg, hpl, hM, q⟩ := h
  refine ⟨_, (pss_cons (ps_if (pt_cmpR op_eq (pe_ix ix_tup (pv 0) pe_int (fun _ _ => rfl)) pe_str (nomark _))
      (pss_one (ps_ret (pe_ix ix_tup (pv 0) pe_int (fun _ _ => rfl))))
      pss_nil)
    (pss_cons (ps_if (pt_cmpR op_eq (pe_ix ix_tup (pv 0) pe_int (fun _ _ => rfl)) pe_str (nomark _))
      (pss_one (ps_ret (pe_dget (hu_of hr) (pv 1) (pe_ix ix_tup (pv 0) pe_int (fun _ _ => rfl)) (fun _ _ => rfl))))
      pss_nil)
    (pss_cons (ps_if (pt_cmpR op_eq (pe_ix ix_tup (pv 0) pe_int (fun _ _ => rfl)) pe_str (nomark _))
      (pss_cons (ps_set (i := 3) sc_law_value.nd rfl (Or.inl rfl) (pe_c O_law_value hr (by rfl) (pa_cons (pe_ix ix_tup (pv 0) pe_int (fun _ _ => rfl)) (pa_cons (pv 1) (pa_cons (pv 2) pa_nil)))))
      (pss_cons (ps_set (i := 4) sc_law_value.nd rfl (Or.inl rfl) (pe_dget (hu_of hr) (pv 2) (pe_ix ix_tup (pv 0) pe_int (fun _ _ => rfl)) (fun _ _ => rfl)))
      (pss_cons (ps_if (PW.pt (pw_and (pt_cmpR op_le pe_int (pv 3) (nomark _)) (pw_and1 (pt_cmpR op_lt (pv 3) (pe_callB call_len_seq (by rfl) mlen (by decide +kernel) (pa_cons (pv 4) pa_nil)) (nomark _)))))
        (pss_one (ps_ret (pe_ix ix_seq (pv 4) (pv 3) (fun _ _ => rfl))))
        pss_nil)
      (pss_one (ps_ret pe_int)))))
      pss_nil)
    (pss_cons (ps_if (pt_cmpR op_eq (pe_ix ix_tup (pv 0) pe_int (fun _ _ => rfl)) pe_str (nomark _))
      (pss_one (ps_ret (pe_c O_law_sign_value hr (by rfl) (pa_cons (pe_ix ix_tup (pv 0) pe_int (fun _ _ => rfl)) (pa_cons (pe_c O_law_value hr (by rfl) (pa_cons (pe_ix ix_tup (pv 0) pe_int (fun _ _ => rfl)) (pa_cons (pv 1) (pa_cons (pv 2) pa_nil)))) (pa_cons (pe_c O_law_value hr (by rfl) (pa_cons (pe_ix ix_tup (pv 0) pe_int (fun _ _ => rfl)) (pa_cons (pv 1) (pa_cons (pv 2) pa_nil)))) pa_nil))))))
      pss_nil)
    (pss_cons (ps_setLc (i := 5) (own := [("part", 6)]) (g := gName 6) (tt := tYes) rfl sc_law_value.nd rfl rfl (sw_true rfl rfl rfl (by decide +kernel)) (pi_tup (pe_ix ix_tup (pv 0) pe_int (fun _ _ => rfl))) (blkOk_by (N := N_law_value) (sc := defScope s_law_value) (by decide +kernel)) (fun _ _ _ _ _ => pg_name (i := 6) sc_law_value.nd rfl (Or.inl rfl)) (fun _ _ _ _ _ => pts_nil) (fun _ _ _ _ _ => pe_c O_law_value hr (by rfl) (pa_cons (pv 6) (pa_cons (pv 1) (pa_cons (pv 2) pa_nil)))))
    (pss_cons (ps_if (pt_cmpR op_eq (pe_ix ix_tup (pv 0) pe_int (fun _ _ => rfl)) pe_str (nomark _))
      (pss_one (ps_ret (pe_callB (call_min2 rfl) (by rfl) mmin (by decide +kernel) (pa_cons (pe_ix ix_list (pv 5) pe_int (fun _ _ => rfl)) (pa_cons (pe_ix ix_list (pv 5) pe_int (fun _ _ => rfl)) pa_nil)))))
      pss_nil)
    (pss_cons (ps_if (pt_cmpR op_eq (pe_ix ix_tup (pv 0) pe_int (fun _ _ => rfl)) pe_str (nomark _))
      (pss_one (ps_ret (pe_callB (call_max2 rfl) (by rfl) mmax (by decide +kernel) (pa_cons (pe_ix ix_list (pv 5) pe_int (fun _ _ => rfl)) (pa_cons (pe_ix ix_list (pv 5) pe_int (fun _ _ => rfl)) pa_nil)))))
      pss_nil)
    (pss_cons (ps_if (pt_cmpR op_eq (pe_ix ix_tup (pv 0) pe_int (fun _ _ => rfl)) pe_str (nomark _))
      (pss_one (ps_ret (pe_ix ix_list (pe_lst (pa_cons (pe_ix ix_list (pv 5) pe_int (fun _ _ => rfl)) (pa_cons (pe_ix ix_list (pv 5) pe_int (fun _ _ => rfl)) pa_nil))) (pe_callTy call_int1 (by rfl) mint (by decide +kernel) (pa_cons (pe_cmpR op_ne (pe_ix ix_list (pv 5) pe_int (fun _ _ => rfl)) pe_int (nomark _)) pa_nil)) (fun _ _ => rfl))))
      pss_nil)
    (pss_cons (ps_setLc (i := 7) (own := [("k", 8)]) (g := gName 8) rfl sc_law_value.nd rfl rfl (sw_true rfl rfl rfl (by decide +kernel)) (pi_range1 (by rfl) mrange (pa_cons (pe_callB call_len_seq (by rfl) mlen (by decide +kernel) (pa_cons (pe_dget (hu_of hr) (pv 2) pe_str (fun _ _ => rfl)) pa_nil)) pa_nil)) (blkOk_by (N := N_law_value) (sc := defScope s_law_value) (by decide +kernel)) (fun _ _ _ _ _ => pg_name (i := 8) sc_law_value.nd rfl (Or.inl rfl)) (fun _ _ _ _ _ => pts_one (pt_cmpR op_eq (pe_ix (r := rIx K) ix_seq (pe_dget (hu_of hr) (pv 2) pe_str (fun _ _ => rfl)) (pv 8) (fun _ _ => rfl)) pe_int (nomark _))) (fun _ _ _ _ _ => pv 8))
    (pss_cons (ps_if (PW.pt (pw_and (pt_cmpR op_le pe_int (pe_ix ix_list (pv 5) pe_int (fun _ _ => rfl)) (nomark _)) (pw_and1 (pt_cmpR op_lt (pe_ix ix_list (pv 5) pe_int (fun _ _ => rfl)) (pe_callB call_len_seq (by rfl) mlen (by decide +kernel) (pa_cons (pv 7) pa_nil)) (nomark _)))))
      (pss_one (ps_ret (pe_ix ix_list (pv 7) (pe_ix ix_list (pv 5) pe_int (fun _ _ => rfl)) (fun _ _ => rfl))))
      pss_nil)
    (pss_one (ps_ret (pe_un un_neg pe_int))))))))))))), ?_⟩
  obtain ⟨kv, hkv⟩ : ∃ kv, kv = kvals nm ar e := ⟨_, rfl⟩
  have kvg : ∀ {i : Nat} {k : Ex}, e.kids[i]? = some k → (kv.map V.int).take (i + 1) = (kv.map V.int).take i ++ [.int (valE nm ar k)] := fun {i k} h => by
    rw [hkv]
    exact kvals_get h
  have kvl : (kv.map V.int).length = e.kids.length := by
    rw [hkv, List.length_map]
    exact List.length_map _
  have turnP : ∀ {us : List V} {H1 H' : Hp} {i : Nat} {x : V}, Same H H1 → Ex.AtAll K H1 e.kids us → us[i]? = some x → Same H1 H' → ∃ ei, e.kids[i]? = some ei ∧ ei.At K H' x ∧ ei.dep ≤ n ∧ ei.good ns as ∧ (("place" : Str) ∈ as ∨ ei.flat) ∧ Mem K H' dn da nm ar ns as := fun {us H1 H' i x} s1 au hx sm => by
    obtain ⟨ei, gi, ati⟩ := au.get hx
    have em : ei ∈ e.kids := List.mem_of_getElem? gi
    have ed := Ex.kids_dep em
    exact ⟨ei, gi, ati.tu (Same.tu sm), by omega, Ex.kids_good em hg, hpl.imp id (Ex.kids_flat em), hM.same (s1.trans sm)⟩
  have ksz : ∀ i, ((kv.map V.int).take i).length < sizeLine := fun i => by
    rw [List.length_take, kvl]
    have : e.kids.length ≤ 3 := by cases e <;> simp [Ex.kids]
    exact small1000 (by omega)
  cases e with
  | num m =>
    obtain ⟨a, rfl, hT⟩ := hAt
    exact ⟨_, rfl, _, _, _, _, rfl, rfl, hT, atI_nat (j := 0) rfl, rfl, _, rfl, itY ⟨_, rfl, _, _, _, _, rfl, rfl, hT, atI_nat (j := 1) rfl, q H (Same.refl H)⟩⟩
  | nam x =>
    obtain ⟨a, rfl, hT⟩ := hAt
    obtain ⟨kn, h1, h2⟩ := hM.dn
    exact ⟨_, rfl, _, _, _, _, rfl, rfl, hT, atI_nat (j := 0) rfl, rfl, _, rfl, itN (by decide +kernel) ⟨_, rfl, _, _, _, _, rfl, rfl, hT, atI_nat (j := 0) rfl, rfl, _, rfl, itY ⟨_, rfl, _, rfl, _, _, _, _, rfl, rfl, hT, atI_nat (j := 1) rfl, _, _, rfl, dget_str h1 (h2 x hg), q H (Same.refl H)⟩⟩⟩
  | op sg el er =>
    obtain ⟨a, x, y, rfl, hT, hl, hr1⟩ := hAt
    have d1 : max el.dep er.dep + 1 ≤ n + 1 := hdep
    have l1 := val_lim hM.ln hM.la hM.lp el hg.2.1
    have l2 := val_lim hM.ln hM.la hM.lp er hg.2.2
    refine ⟨_, rfl, _, _, _, _, rfl, rfl, hT, atI_nat (j := 0) rfl, rfl, _, rfl, itN (by decide +kernel) ⟨_, rfl, _, _, _, _, rfl, rfl, hT, atI_nat (j := 0) rfl, rfl, _, rfl, itN (by decide +kernel) ⟨_, rfl, _, _, _, _, rfl, rfl, hT, atI_nat (j := 0) rfl, rfl, _, rfl, itN (by decide +kernel) ⟨_, rfl, _, _, _, _, rfl, rfl, hT, atI_nat (j := 0) rfl, rfl, _, rfl, itY ?_⟩⟩⟩⟩
    refine ⟨_, rfl, _, _, _, _, rfl, rfl, hT, atI_nat (j := 1) rfl, _, rfl, _, _, _, _, rfl, rfl, hT, atI_nat (j := 2) rfl, _, rfl, _, rfl, x, el, dn, da, nm, ar, ns, as, rfl, hl, by omega, hg.2.1, hpl.imp id (fun z => z.1), hM, fun H1 s1 => ?_⟩
    have hT1 := Same.tup s1 hT
    refine ⟨_, rfl, _, _, _, _, rfl, rfl, hT1, atI_nat (j := 3) rfl, _, rfl, _, rfl, y, er, dn, da, nm, ar, ns, as, rfl, hr1.tu (Same.tu s1), by omega, hg.2.2, hpl.imp id (fun z => z.2), hM.same s1, fun H2 s2 => ?_⟩
    exact ⟨sg, _, _, rfl, l1, l2, q _ (s1.trans s2)⟩
  | rd x el =>
    obtain ⟨a, y, rfl, hT, hl⟩ := hAt
    have d1 : el.dep + 1 ≤ n + 1 := hdep
    refine ⟨_, rfl, _, _, _, _, rfl, rfl, hT, atI_nat (j := 0) rfl, rfl, _, rfl, itN (by decide +kernel) ⟨_, rfl, _, _, _, _, rfl, rfl, hT, atI_nat (j := 0) rfl, rfl, _, rfl, itN (by decide +kernel) ⟨_, rfl, _, _, _, _, rfl, rfl, hT, atI_nat (j := 0) rfl, rfl, _, rfl, itY ?_⟩⟩⟩
    refine ⟨_, rfl, _, _, _, _, rfl, rfl, hT, atI_nat (j := 2) rfl, _, rfl, _, rfl, y, el, dn, da, nm, ar, ns, as, rfl, hl, by omega, hg.2, hpl, hM, fun H1 s1 => ?_⟩
    have hT1 := Same.tup s1 hT
    obtain ⟨ka, h1, h2⟩ := (hM.same s1).da
    obtain ⟨p, e1, e2, e3⟩ := h2 x hg.1
    have q1 := q H1 s1
    have qq : Q (.int (cellAt (ar x) (valE nm ar el))) H1 := q1
    unfold cellAt at qq
    have ln : (((ar x).map V.int).length : Int) = (ar x).length := by rw [List.length_map]
    refine ⟨_, rfl, _, rfl, _, _, _, _, rfl, rfl, hT1, atI_nat (j := 1) rfl, _, _, rfl, dget_str h1 e1, _, rfl, _, _, rfl, rfl, _, rfl, ite2' (fun c => ?_) (fun c => ?_)⟩
    · refine ⟨_, rfl, _, rfl, p, _, rfl, e2, _, _, rfl, rfl, _, rfl, ite2' (fun c2 => ?_) (fun c2 => ?_)⟩
      · rw [ln] at c2
        rw [if_pos ⟨c, c2⟩] at qq
        exact ⟨_, rfl, _, rfl, rd_item e2 c c2 qq⟩
      · rw [ln] at c2
        rw [if_neg (fun z => c2 z.2)] at qq
        exact qq
    · rw [if_neg (fun z => c z.1)] at qq
      exact qq
  | c1 x el =>
    obtain ⟨a, t, y, rfl, hT, hT1, hl⟩ := hAt
    refine ⟨_, rfl, _, _, _, _, rfl, rfl, hT, atI_nat (j := 0) rfl, rfl, _, rfl, itN (by decide +kernel) ⟨_, rfl, _, _, _, _, rfl, rfl, hT, atI_nat (j := 0) rfl, rfl, _, rfl, itN (by decide +kernel) ⟨_, rfl, _, _, _, _, rfl, rfl, hT, atI_nat (j := 0) rfl, rfl, _, rfl, itN (by decide +kernel) ⟨_, rfl, _, _, _, _, rfl, rfl, hT, atI_nat (j := 0) rfl, rfl, _, rfl, itN (by decide +kernel) ?_⟩⟩⟩⟩
    have au : Ex.AtAll K H (Ex.c1 x el).kids [y] := ⟨hl, trivial⟩
    have kl := au.len
    refine ⟨_, rfl, _, _, _, _, rfl, rfl, hT, atI_nat (j := 2) rfl, t, rfl, ⟨_, hT1⟩, fun D hD => ?_⟩
    refine lc_tup (fun i H' => Same H H' ∧ H' D = some (.lst ((kv.map V.int).take i))) ⟨same_new hD _, upd_same⟩ (fun i H' _ hp => Vk.Same.tup hp.1 hT1) (fun i x' H' hx hp => ?_) (fun H' hp => ?_)
    · obtain ⟨sm, eD⟩ := hp
      obtain ⟨ei, gi, ai, di, gd, pi, Mi⟩ := turnP (Same.refl H) au hx sm
      refine ⟨rfl, _, rfl, _, rfl, _, rfl, x', ei, dn, da, nm, ar, ns, as, rfl, ai, di, gd, pi, Mi, fun H2 s2 => ?_⟩
      refine ⟨_, s2 _ _ eD, ksz i, same_put (sm.trans s2) hD, ?_⟩
      rw [kvg gi]
      exact upd_same
    · have g1 := hp.1
      have eD := hp.2
      rw [← kl, ← kvl, List.take_length, hkv] at eD
      have hT2 := Same.tup g1 hT
      obtain ⟨rfl, hg2⟩ := hg
      obtain ⟨ka, h1, h2⟩ := (hM.same g1).da
      obtain ⟨p, e1, e2, e3⟩ := h2 "place" (hpl.elim id fun z => z.elim)
      refine ⟨_, rfl, _, _, _, _, rfl, rfl, hT2, atI_nat (j := 1) rfl, rfl, _, rfl, itN (by decide +kernel) ⟨_, rfl, _, _, _, _, rfl, rfl, hT2, atI_nat (j := 1) rfl, rfl, _, rfl, itN (by decide +kernel) ⟨_, rfl, _, _, _, _, rfl, rfl, hT2, atI_nat (j := 1) rfl, rfl, _, rfl, itN (by decide +kernel) ?_⟩⟩⟩
      have ln : (((ar "place").map V.int).length : Int) = (ar "place").length := by rw [List.length_map]
      refine ⟨_, rfl, _, _, rfl, dget_str h1 e1, p, _, rfl, e2, _, rfl, by rw [ln]; omega, by rw [ln]; omega, fun D2 hD2 => ?_⟩
      refine lc_range (lo := 0) (n := _) (fun i H2 => Same H' H2 ∧ H2 D2 = some (.lst ((zerosN 0 ((ar "place").take i)).map V.int))) ⟨same_new hD2 _, upd_same⟩ (fun i H2 hi hp2 => ?_) (fun H2 hp2 => ?_)
      · have hi2 : i < (ar "place").length := by
          have h9 : i < (((ar "place").map V.int).length : Int).toNat := hi
          rw [ln] at h9
          omega
        have gx : (ar "place")[i]? = some ((ar "place").getD i 0) := by
          rw [List.getD_eq_getElem?_getD, List.getElem?_eq_getElem hi2]
          rfl
        have st := zeros_step gx
        have e22 := e2.same hp2.1
        have zi : (0 : Int) + (i : Int) = (i : Int) := Int.zero_add _
        refine ⟨rfl, _, rfl, _, _, rfl, dget_str (hp2.1 _ _ h1) e1, _, rfl, rd_item e22 (by omega) (by omega) ⟨rfl, _, rfl, ?_⟩⟩
        rw [show ((0 : Int) + (i : Int)).toNat = i by omega]
        refine ite2 (fun c => ?_) (fun c => ?_)
        · have c0 : (ar "place").getD i 0 = 0 := V.int.inj (of_decide_eq_true c)
          refine ⟨_, rfl, _, hp2.2, ?_, same_put hp2.1 hD2, ?_⟩
          · have h9 := zeros_len 0 ((ar "place").take i)
            rw [List.length_take] at h9
            rw [List.length_map]
            exact small1000 (by omega)
          · rw [upd_same, st, if_pos c0, List.map_append, zi]
            rfl
        · have c0 : ¬ (ar "place").getD i 0 = 0 := fun z => c (decide_eq_true (by rw [z]))
          refine ⟨hp2.1, ?_⟩
          rw [st, if_neg c0, List.append_nil]
          exact hp2.2
      · have eD2 : H2 D2 = some (.lst ((zerosN 0 (ar "place")).map V.int)) := by
          have h9 := hp2.2
          rw [show ((((ar "place").map V.int).length : Int)).toNat = (ar "place").length by rw [ln]; omega, List.take_length] at h9
          exact h9
        have eD3 := hp2.1 _ _ eD
        have qq : Q (.int (nthZ (ar "place") (valE nm ar el))) H2 := q H2 (g1.trans hp2.1)
        unfold nthZ at qq
        have ln2 : (((zerosN 0 (ar "place")).map V.int).length : Int) = (zerosN 0 (ar "place")).length := by rw [List.length_map]
        refine ⟨_, rfl, _, _, _, _, rfl, rfl, (SqL.of eD3), atI_nat (j := 0) rfl, _, _, rfl, rfl, _, rfl, ite2' (fun c => ?_) (fun c => ?_)⟩
        · refine ⟨_, rfl, _, _, _, _, rfl, rfl, (SqL.of eD3), atI_nat (j := 0) rfl, _, rfl, D2, _, rfl, .inl (SqL.of eD2), _, _, rfl, rfl, _, rfl, ite2' (fun c2 => ?_) (fun c2 => ?_)⟩
          · rw [ln2] at c2
            rw [if_pos ⟨c, c2⟩] at qq
            exact ⟨_, rfl, _, rfl, _, _, _, _, rfl, rfl, (SqL.of eD3), atI_nat (j := 0) rfl, D2, _, _, _, rfl, rfl, SqL.of eD2, atI_int c c2, qq⟩
          · rw [ln2] at c2
            rw [if_neg (fun z => c2 z.2)] at qq
            exact ⟨_, rfl, qq⟩
        · rw [if_neg (fun z => c z.1)] at qq
          exact ⟨_, rfl, qq⟩
  | c2 x el er =>
    obtain ⟨a, t, y, z, rfl, hT, hT1, hl, hr1⟩ := hAt
    refine ⟨_, rfl, _, _, _, _, rfl, rfl, hT, atI_nat (j := 0) rfl, rfl, _, rfl, itN (by decide +kernel) ⟨_, rfl, _, _, _, _, rfl, rfl, hT, atI_nat (j := 0) rfl, rfl, _, rfl, itN (by decide +kernel) ⟨_, rfl, _, _, _, _, rfl, rfl, hT, atI_nat (j := 0) rfl, rfl, _, rfl, itN (by decide +kernel) ⟨_, rfl, _, _, _, _, rfl, rfl, hT, atI_nat (j := 0) rfl, rfl, _, rfl, itN (by decide +kernel) ?_⟩⟩⟩⟩
    have au : Ex.AtAll K H (Ex.c2 x el er).kids [y, z] := ⟨hl, hr1, trivial⟩
    have kl := au.len
    refine ⟨_, rfl, _, _, _, _, rfl, rfl, hT, atI_nat (j := 2) rfl, t, rfl, ⟨_, hT1⟩, fun D hD => ?_⟩
    refine lc_tup (fun i H' => Same H H' ∧ H' D = some (.lst ((kv.map V.int).take i))) ⟨same_new hD _, upd_same⟩ (fun i H' _ hp => Vk.Same.tup hp.1 hT1) (fun i x' H' hx hp => ?_) (fun H' hp => ?_)
    · obtain ⟨sm, eD⟩ := hp
      obtain ⟨ei, gi, ai, di, gd, pi, Mi⟩ := turnP (Same.refl H) au hx sm
      refine ⟨rfl, _, rfl, _, rfl, _, rfl, x', ei, dn, da, nm, ar, ns, as, rfl, ai, di, gd, pi, Mi, fun H2 s2 => ?_⟩
      refine ⟨_, s2 _ _ eD, ksz i, same_put (sm.trans s2) hD, ?_⟩
      rw [kvg gi]
      exact upd_same
    · have g1 := hp.1
      have eD := hp.2
      rw [← kl, ← kvl, List.take_length, hkv] at eD
      have hT2 := Same.tup g1 hT
      have qq := q H' g1
      rcases hg.1 with rfl | rfl
      · rw [show valE nm ar (Ex.c2 "min" el er) = (if valE nm ar er < valE nm ar el then valE nm ar er else valE nm ar el) from if_pos rfl] at qq
        exact ⟨_, rfl, _, _, _, _, rfl, rfl, hT2, atI_nat (j := 1) rfl, rfl, _, rfl, itY ⟨_, rfl, _, _, _, _, rfl, rfl, (SqL.of eD), atI_nat (j := 0) rfl, _, rfl, _, _, _, _, rfl, rfl, (SqL.of eD), atI_nat (j := 1) rfl, _, _, rfl, qq⟩⟩
      · rw [show valE nm ar (Ex.c2 "max" el er) = (if valE nm ar er > valE nm ar el then valE nm ar er else valE nm ar el) from if_neg (by decide +kernel)] at qq
        exact ⟨_, rfl, _, _, _, _, rfl, rfl, hT2, atI_nat (j := 1) rfl, rfl, _, rfl, itN (by decide +kernel) ⟨_, rfl, _, _, _, _, rfl, rfl, hT2, atI_nat (j := 1) rfl, rfl, _, rfl, itY ⟨_, rfl, _, _, _, _, rfl, rfl, (SqL.of eD), atI_nat (j := 0) rfl, _, rfl, _, _, _, _, rfl, rfl, (SqL.of eD), atI_nat (j := 1) rfl, _, _, rfl, qq⟩⟩⟩
  | c3 x el er eq =>
    obtain ⟨a, t, y, z, u, rfl, hT, hT1, hl, hr1, hz1⟩ := hAt
    refine ⟨_, rfl, _, _, _, _, rfl, rfl, hT, atI_nat (j := 0) rfl, rfl, _, rfl, itN (by decide +kernel) ⟨_, rfl, _, _, _, _, rfl, rfl, hT, atI_nat (j := 0) rfl, rfl, _, rfl, itN (by decide +kernel) ⟨_, rfl, _, _, _, _, rfl, rfl, hT, atI_nat (j := 0) rfl, rfl, _, rfl, itN (by decide +kernel) ⟨_, rfl, _, _, _, _, rfl, rfl, hT, atI_nat (j := 0) rfl, rfl, _, rfl, itN (by decide +kernel) ?_⟩⟩⟩⟩
    have au : Ex.AtAll K H (Ex.c3 x el er eq).kids [y, z, u] := ⟨hl, hr1, hz1, trivial⟩
    have kl := au.len
    refine ⟨_, rfl, _, _, _, _, rfl, rfl, hT, atI_nat (j := 2) rfl, t, rfl, ⟨_, hT1⟩, fun D hD => ?_⟩
    refine lc_tup (fun i H' => Same H H' ∧ H' D = some (.lst ((kv.map V.int).take i))) ⟨same_new hD _, upd_same⟩ (fun i H' _ hp => Vk.Same.tup hp.1 hT1) (fun i x' H' hx hp => ?_) (fun H' hp => ?_)
    · obtain ⟨sm, eD⟩ := hp
      obtain ⟨ei, gi, ai, di, gd, pi, Mi⟩ := turnP (Same.refl H) au hx sm
      refine ⟨rfl, _, rfl, _, rfl, _, rfl, x', ei, dn, da, nm, ar, ns, as, rfl, ai, di, gd, pi, Mi, fun H2 s2 => ?_⟩
      refine ⟨_, s2 _ _ eD, ksz i, same_put (sm.trans s2) hD, ?_⟩
      rw [kvg gi]
      exact upd_same
    · have g1 := hp.1
      have eD := hp.2
      rw [← kl, ← kvl, List.take_length, hkv] at eD
      have hT2 := Same.tup g1 hT
      obtain ⟨rfl, hg2⟩ := hg
      refine ⟨_, rfl, _, _, _, _, rfl, rfl, hT2, atI_nat (j := 1) rfl, rfl, _, rfl, itN (by decide +kernel) ⟨_, rfl, _, _, _, _, rfl, rfl, hT2, atI_nat (j := 1) rfl, rfl, _, rfl, itN (by decide +kernel) ⟨_, rfl, _, _, _, _, rfl, rfl, hT2, atI_nat (j := 1) rfl, rfl, _, rfl, itY ?_⟩⟩⟩
      refine ⟨_, rfl, _, _, _, _, rfl, rfl, (SqL.of eD), atI_nat (j := 2) rfl, _, rfl, _, _, _, _, rfl, rfl, (SqL.of eD), atI_nat (j := 1) rfl, (by show 2 ≤ sizeLine; decide), fun l hl => ?_⟩
      have eD2 := same_new hl (.lst [.int (valE nm ar eq), .int (valE nm ar er)]) _ _ eD
      have qq : Q (.int (if valE nm ar el = 0 then valE nm ar eq else valE nm ar er)) (upd H' l (.lst [.int (valE nm ar eq), .int (valE nm ar er)])) := q _ (g1.trans (same_new hl _))
      refine ⟨_, rfl, _, _, _, _, rfl, rfl, (SqL.of eD2), atI_nat (j := 0) rfl, rfl, .inr ⟨_, rfl, ?_⟩⟩
      by_cases z : valE nm ar el = 0
      · rw [if_pos z] at qq
        refine ⟨l, _, 0, _, rfl, ?_, SqL.of upd_same, atI_nat (j := 0) rfl, qq⟩
        show V.int (if (!decide (V.int (valE nm ar el) = V.int 0)) = true then 1 else 0) = V.int 0
        rw [z, decide_eq_true rfl]
        rfl
      · rw [if_neg z] at qq
        refine ⟨l, _, 1, _, rfl, ?_, SqL.of upd_same, atI_nat (j := 1) rfl, qq⟩
        show V.int (if (!decide (V.int (valE nm ar el) = V.int 0)) = true then 1 else 0) = V.int 1
        rw [decide_eq_false (fun y => z (V.int.inj y))]
        rfl
end
end K01
namespace K01
open PySem L2 Vk
def spWhole : Sp := fun vs H Q _ => ∃ n : Int, vs = [.int n] ∧ Q (.bl true) H
def spDatum : Sp := fun vs H Q _ => ∃ (a : Addr), vs = [.ref a] ∧ Fd H a ∧ ∀ n H', Lim n → Stp a H H' → Q (.int n) H'
def RowsL (K : PySem.W.Frag) (H : Hp) (al : List (Str × Row)) : Prop := ∀ p ∈ al, SqL K H p.2.1 (p.2.2.map V.int)
def spHanded (K : PySem.W.Frag) : Sp := fun vs H Q _ => ∃ (a dn da : Addr) (nl : List (Str × Int)) (al : List (Str × Row)), vs = [.ref a, .ref dn, .ref da] ∧ Fd H a ∧ H dn = some (.dK (dOf V.int nl)) ∧ H da = some (.dK (dOf rf al)) ∧ RowsOk al ∧ RowsL K H al ∧ (∀ p ∈ al, p.2.1 ≠ a) ∧
  ∀ (pg dn2 da2 : Addr) (al2 : List (Str × Row)) (H' : Hp), Stp a H H' → H pg = none → H dn2 = none → H da2 = none → H' pg = some (.lst [.ref dn2, .ref da2]) → H' dn2 = some (.dK (dOf V.int nl)) → H' da2 = some (.dK (dOf rf al2)) → dn2 ≠ da2 → bare al2 = bare al → RowsAt K H' al2 → (∀ p ∈ al2, p.2.1 ≠ a) → Q (.ref pg) H'
def spStayed (K : PySem.W.Frag) : Sp := fun vs H Q _ => ∃ (pg dn2 da2 dn da : Addr) (nl : List (Str × Int)) (al al2 : List (Str × Row)), vs = [.ref pg, .ref dn, .ref da] ∧ H pg = some (.lst [.ref dn2, .ref da2]) ∧ H dn2 = some (.dK (dOf V.int nl)) ∧ H dn = some (.dK (dOf V.int nl)) ∧ NamesOk nl ∧
  H da = some (.dK (dOf rf al)) ∧ H da2 = some (.dK (dOf rf al2)) ∧ da ≠ da2 ∧ RowsOk al ∧ bare al2 = bare al ∧ RowsL K H al ∧ RowsAt K H al2 ∧ ∀ H', Same H H' → Q (.bl true) H'
def spValued (K : PySem.W.Frag) : Sp := fun vs H Q _ => ∃ (v : V) (e : Ex) (pg dn2 da2 dn da : Addr) (nm : Str → Int) (ar : Str → List Int) (ns as : List Str), vs = [v, .ref pg, .ref dn, .ref da] ∧ e.At K H v ∧ e.dep ≤ 12 ∧ e.good ns as ∧ (("place" : Str) ∈ as ∨ e.flat) ∧ H pg = some (.lst [.ref dn2, .ref da2]) ∧
  Mem K H dn2 da2 nm ar ns as ∧ Mem K H dn da nm ar ns as ∧ ∀ H', Same H H' → Q (.bl true) H'
section
variable {P : Program} {w : World} {K : PySem.W.Frag} {mg : Str → Option Value} {base : Heap}
theorem ok_whole {f : Addr} {fd : FuncData} {k : Nat} (F : Fun K "_law_whole" "_law_whole" s_law_whole f fd) (misinstance : mg "isinstance" = none) (mint : mg "int" = none) (mbool : mg "bool" = none) : FnOk P w K mg base CX0 (k + 1) f fd P_law_whole spWhole := by
  refine F.ok sc_law_whole (fun vs H Q E h => ?_) (fun cdv A outer s H vs Q E hr h => ?_)
  · obtain ⟨n, rfl, _⟩ := h
    rfl
  obtain ⟨n, rfl, q⟩ := h
  refine ⟨_, (pss_one (ps_ret (pe_and (pe_callB call_isi (by rfl) misinstance (by decide +kernel) (pa_cons (pv 0) (pa_cons (pe_bltn (v := .ty "int") (by rfl) mint (by decide +kernel) rfl) pa_nil))) (pe_one (pe_not (pe_callB call_isi (by rfl) misinstance (by decide +kernel) (pa_cons (pv 0) (pa_cons (pe_bltn (v := .ty "bool") (by rfl) mbool (by decide +kernel) rfl) pa_nil)))))))), ?_⟩
  refine ⟨_, rfl, _, _, _, _, _, rfl, .ty _, .base (.int n), kit_ty (r := true) (by decide +kernel), _, rfl, ?_⟩
  refine iteT ⟨_, rfl, _, _, _, _, _, rfl, .ty _, .base (.int n), kit_ty (r := false) (by decide +kernel), _, rfl, q⟩
theorem ok_datum {f : Addr} {fd : FuncData} {k : Nat} (F : Fun K "_law_datum" "_law_datum" s_law_datum f fd) (O_law_take : Ok P w K mg base k "_law_take" P_law_take spTake) (O_law_number : Ok P w K mg base k "_law_number" P_law_number spNumber) : FnOk P w K mg base CX0 (k + 1) f fd P_law_datum spDatum := by
  refine F.ok sc_law_datum (fun vs H Q E h => ?_) (fun cdv A outer s H vs Q E hr h => ?_)
  · obtain ⟨n, rfl, _⟩ := h
    rfl
  obtain ⟨a, rfl, hF, q⟩ := h
  refine ⟨_, (pss_cons (ps_set (i := 1) sc_law_datum.nd rfl (Or.inl rfl) (pe_c O_law_number hr (by rfl) (pa_cons (pv 0) pa_nil)))
    (pss_cons (ps_if (pt_cmpR op_lt (pe_c O_law_take hr (by rfl) (pa_cons (pv 0) (pa_cons pe_int pa_nil))) pe_int (nomark _))
      (pss_one (ps_ret (pe_op op_sub pe_int (pv 1))))
      pss_nil)
    (pss_one (ps_ret (pv 1))))), ?_⟩
  refine ⟨_, rfl, a, rfl, hF, fun n H1 n0 n1 s1 => ?_⟩
  refine rd_take rfl s1.2 (by decide) (by decide) fun r H2 _ _ s2 => ⟨_, _, rfl, rfl, _, rfl, ite2 (fun c => ?_) (fun c => ?_)⟩
  · exact ⟨_, rfl, _, _, rfl, rfl, q _ _ ⟨by omega, by omega⟩ (s1.trans s2)⟩
  · exact ⟨_, rfl, q _ _ ⟨by omega, by omega⟩ (s1.trans s2)⟩
theorem ok_valued {f : Addr} {fd : FuncData} {k : Nat} (F : Fun K "_law_valued" "_law_valued" s_law_valued f fd) (Ovalue_of : Ok P w K mg base k "value_of" P_value_of (spVal K 12)) (O_law_whole : Ok P w K mg base k "_law_whole" P_law_whole spWhole) (O_law_value : Ok P w K mg base k "_law_value" P_law_value (spVal K 12)) : FnOk P w K mg base CX0 (k + 1) f fd P_law_valued (spValued K) := by
  refine F.ok sc_law_valued (fun vs H Q E h => ?_) (fun cdv A outer s H vs Q E hr h => ?_)
  · obtain ⟨v, e, pg, dn2, da2, dn, da, nm, ar, ns, as, rfl, _⟩ := h
    rfl
  obtain ⟨v, e, pg, dn2, da2, dn, da, nm, ar, ns, as, rfl, hAt, hd, hg, hp, ep, M2, M1, q⟩ := h
  refine ⟨_, (pss_cons (ps_set (i := 4) sc_law_valued.nd rfl (Or.inl rfl) (pe_c Ovalue_of hr (by rfl) (pa_cons (pv 0) (pa_cons (pe_ix ix_list (pv 1) pe_int (fun _ _ => rfl)) (pa_cons (pe_ix ix_list (pv 1) pe_int (fun _ _ => rfl)) pa_nil)))))
    (pss_one (ps_ret (pe_and (pe_c O_law_whole hr (by rfl) (pa_cons (pv 4) pa_nil)) (pe_one (pe_cmpR op_eq (pv 4) (pe_c O_law_value hr (by rfl) (pa_cons (pv 0) (pa_cons (pv 2) (pa_cons (pv 3) pa_nil)))) (nomark _))))))), ?_⟩
  refine ⟨_, rfl, _, rfl, _, _, _, _, rfl, rfl, (SqL.of ep), atI_nat (j := 0) rfl, _, rfl, _, _, _, _, rfl, rfl, (SqL.of ep), atI_nat (j := 1) rfl, v, e, dn2, da2, nm, ar, ns, as, rfl, hAt, hd, hg, hp, M2, fun H1 s1 => ?_⟩
  refine ⟨_, rfl, _, rfl, _, rfl, iteT ⟨_, rfl, _, rfl, _, rfl, _, rfl, v, e, dn, da, nm, ar, ns, as, rfl, hAt.tu (Same.tu s1), hd, hg, hp, M1.same s1, fun H2 s2 => ⟨rfl, ?_⟩⟩⟩
  rw [decide_eq_true rfl]
  exact q H2 (s1.trans s2)
theorem ok_handed {f : Addr} {fd : FuncData} {k : Nat} (F : Fun K "_law_handed" "_law_handed" s_law_handed f fd) (mlist : mg "list" = none) (mtuple : mg "tuple" = none) (mdict : mg "dict" = none) (O_law_take : Ok P w K mg base k "_law_take" P_law_take spTake) : FnOk P w K mg base CX0 (k + 1) f fd P_law_handed (spHanded K) := by
  refine F.ok sc_law_handed (fun vs H Q E h => ?_) (fun cdv A outer s H vs Q E hr h => ?_)
  · obtain ⟨a, dn, da, nl, al, rfl, _⟩ := h
    rfl
  obtain ⟨a, dn, da, nl, al, rfl, hF, hdn, hda, ok, hL, hne, q⟩ := h
  refine ⟨_, (pss_cons (ps_set (i := 3) sc_law_handed.nd rfl (Or.inl rfl) pe_dnewK)
    (pss_cons (ps_lock (ps_for PassesOwn.never rfl (pi_keys (pv 2)) (pg_name (i := 4) sc_law_handed.nd rfl (Or.inl rfl))
      (pss_cons (ps_dput (hu_of hr) (pv 3) (pv 4) (pe_callTy call_list_of (by rfl) mlist (by decide +kernel) (pa_cons (pe_dget (hu_of hr) (pv 2) (pv 4) (fun _ _ => rfl)) pa_nil)) rfl)
      (pss_one (ps_if (pt_cmpR op_eq (pe_c O_law_take hr (by rfl) (pa_cons (pv 0) (pa_cons pe_int pa_nil))) pe_int (nomark _))
        (pss_one (ps_dput (hu_of hr) (pv 3) (pv 4) (pe_callTy call_tuple_of (by rfl) mtuple (by decide +kernel) (pa_cons (pe_dget (hu_of hr) (pv 2) (pv 4) (fun _ _ => rfl)) pa_nil)) rfl))
        pss_nil)))))
    (pss_one (ps_ret (pe_lst (pa_cons (pe_callTy call_dictD (by rfl) mdict (by decide +kernel) (pa_cons (pv 1) pa_nil)) (pa_cons (pv 3) pa_nil))))))), ?_⟩
  intro dr hr0
  have s0 := same_new hr0 (.dK [])
  have hda0 := s0 _ _ hda
  obtain ⟨fx, fy, fz, hfa⟩ := hF
  have nda : da ≠ a := ne_of hda hfa (by intro z; cases z)
  have ndr : dr ≠ a := fun z => by rw [z, hfa] at hr0; cases hr0
  have ndd : dr ≠ da := fun z => by rw [z, hda] at hr0; cases hr0
  refine ⟨da, .dK (dOf rf al), hda0, trivial, fun od => ⟨_, rfl, da, od, rfl, .inl ⟨_, upd_same, ?_⟩⟩⟩
  have hlen : (dOf rf al).length = al.length := List.length_map _
  refine for_it walk_keys (fun i σ H' => ∃ (al2 : List (Str × Row)) (y4 : Option V), σ = [some (.ref a), some (.ref dn), some (.ref da), some (.ref dr), y4] ∧ (∀ b o, b ≠ a → b ≠ da → H b = some o → H' b = some o) ∧ Fd H' a ∧ H' da = some (.frz od (.dK (dOf rf al))) ∧ H' dr = some (.dK (dOf rf al2)) ∧ bare al2 = (bare al).take i ∧ RowsN K H' al2 a dr da)
    ⟨[], _, rfl, fun b o n1 n2 e => by rw [upd_ne n2]; exact s0 _ _ e, ⟨fx, fy, fz, by rw [upd_ne nda.symm]; exact s0 _ _ hfa⟩, upd_same, by rw [upd_ne ndd]; exact upd_same, rfl, fun p hp => by cases hp⟩ (fun i σ H' _ hv => ?_) (fun i x σ H' H2 hi hv hy => ?_) (fun σ H' hv => ?_)
  · obtain ⟨al2, y4, rfl, _, _, e, _⟩ := hv
    exact e
  · obtain ⟨al2, y4, rfl, sm, fa, eda, edr, eb, ra⟩ := hv
    obtain ⟨rfl, ky, vy, gk, rfl⟩ := hy
    have hi2 : i < al.length := by rw [hlen] at hi; exact hi
    have gp : al[i]? = some al[i] := List.getElem?_eq_getElem hi2
    have gk2 : (dOf rf al)[i]? = some (.inr al[i].1, .ref al[i].2.1) := by
      unfold dOf
      rw [List.getElem?_map, gp]
      rfl
    rw [gk2] at gk
    cases gk
    have pm : al[i] ∈ al := List.getElem_mem hi2
    have gA := get_at ok.nd pm
    have dg : ∀ {Hx : Hp}, Hx da = some (.frz od (.dK (dOf rf al))) → DGet Hx da (.str al[i].1) (some (.ref al[i].2.1)) := fun {Hx} e => dget_frz e (by rw [valV_d, gA]; rfl)
    -- the row stands still
    have rowL : SqL K H2 al[i].2.1 (al[i].2.2.map V.int) := by
      rcases hL _ pm with (h | ⟨o, h⟩) | h
      · exact .inl (.inl (sm _ _ (hne _ pm) (ne_of h hda (by intro z; cases z)) h))
      · exact .inl (.inr ⟨o, sm _ _ (hne _ pm) (ne_of h hda (by intro z; cases z)) h⟩)
      · exact .inr h
    have gnone : getA al2 al[i].1 = none := by
      have h1 : getA (bare al2) al[i].1 = none := by
        rw [eb]
        refine take_none (p := (al[i].1, al[i].2.2)) ?_ ?_
        · unfold bare; rw [List.map_map]; exact ok.nd
        · unfold bare; rw [List.getElem?_map, gp]; rfl
      rw [getA_bare] at h1
      cases g : getA al2 al[i].1 with
      | none => rfl
      | some y => rw [g] at h1; cases h1
    have al2z : al2.length ≤ 100 := by
      have h1 : (bare al2).length = al2.length := List.length_map _
      rw [eb, List.length_take] at h1
      have h2 : (bare al).length = al.length := List.length_map _
      have := ok.sz
      omega
    have ebn : (bare al).take (i + 1) = bare al2 ++ [(al[i].1, al[i].2.2)] := by
      rw [eb, List.take_add_one]
      unfold bare
      rw [List.getElem?_map, gp]
      rfl
    have dz : (dOf rf al2).length < sizeLine := by
      have h1 : (dOf rf al2).length = al2.length := List.length_map _
      exact small1000 (by omega)
    -- rows[word] = list(..)
    refine ⟨_, rfl, _, rfl, da, _, rfl, dg eda, al[i].2.1, _, rfl, .inl rowL, fun l hl => ⟨_, rfl, _, rfl, dr, _, rfl, DPut.k (k := Sum.inr al[i].1) (same_new hl _ _ _ edr) dz, ?_⟩⟩
    rw [show (V.ref l) = rf (l, al[i].2.2) from rfl, putK_d, put_new gnone]
    have sl := same_new hl (.lst (al[i].2.2.map V.int))
    have lr : l ≠ dr := fun z => by rw [z, edr] at hl; cases hl
    have e3 : ∀ b o, b ≠ dr → H2 b = some o → (upd (upd H2 l (.lst (al[i].2.2.map V.int))) dr (.dK (dOf rf (al2 ++ [(al[i].1, (l, al[i].2.2))])))) b = some o := fun b o n e => by rw [upd_ne n]; exact sl _ _ e
    have fa3 : Fd (upd (upd H2 l (.lst (al[i].2.2.map V.int))) dr (.dK (dOf rf (al2 ++ [(al[i].1, (l, al[i].2.2))])))) a := by
      obtain ⟨x, y, z, e⟩ := fa
      exact ⟨x, y, z, e3 _ _ ndr.symm e⟩
    have hb : ∀ b o, H b = some o → b ≠ dr := fun b o e z => by rw [z, hr0] at e; cases e
    have la : l ≠ a := fun z => by
      obtain ⟨x, y, zz, e⟩ := fa
      rw [z, e] at hl; cases hl
    have ld : l ≠ da := fun z => by rw [z, eda] at hl; cases hl
    have ra3 : RowsN K (upd (upd H2 l (.lst (al[i].2.2.map V.int))) dr (.dK (dOf rf (al2 ++ [(al[i].1, (l, al[i].2.2))])))) (al2 ++ [(al[i].1, (l, al[i].2.2))]) a dr da := by
      intro p hp
      rcases List.mem_append.mp hp with z | z
      · exact (ra.keep fun b o _ n2 _ e => e3 b o n2 e) p z
      · rw [List.mem_singleton.mp z]
        exact ⟨.inl (SqL.of (by rw [upd_ne lr]; exact upd_same)), la, lr, ld⟩
    refine rd_take rfl fa3 (by decide) (by decide) fun r H5 _ _ s5 => ⟨rfl, _, rfl, ite2 (fun c => ?_) (fun c => ?_)⟩
    · -- rows[word] = tuple(..)
      have eda5 := s5.1 _ _ nda (e3 _ _ ndd.symm eda)
      have rowL5 : SqL K H5 al[i].2.1 (al[i].2.2.map V.int) := by
        rcases rowL with (h | ⟨o, h⟩) | h
        · exact .inl (.inl (s5.1 _ _ (hne _ pm) (e3 _ _ (ne_of h edr (by intro z; cases z)) h)))
        · exact .inl (.inr ⟨o, s5.1 _ _ (hne _ pm) (e3 _ _ (ne_of h edr (by intro z; cases z)) h)⟩)
        · exact .inr h
      have edr5 := s5.1 _ _ ndr (show (upd (upd H2 l (.lst (al[i].2.2.map V.int))) dr (.dK (dOf rf (al2 ++ [(al[i].1, (l, al[i].2.2))])))) dr = some (.dK (dOf rf (al2 ++ [(al[i].1, (l, al[i].2.2))]))) from upd_same)
      have dz5 : (dOf rf (al2 ++ [(al[i].1, (l, al[i].2.2))])).length < sizeLine := by
        have h1 : (dOf rf (al2 ++ [(al[i].1, (l, al[i].2.2))])).length = (al2 ++ [(al[i].1, (l, al[i].2.2))]).length := List.length_map _
        rw [List.length_append] at h1
        have h2 : [(al[i].1, (l, al[i].2.2))].length = 1 := rfl
        exact small1000 (by omega)
      refine ⟨_, rfl, _, rfl, da, _, rfl, dg eda5, al[i].2.1, _, rfl, .inl ⟨rowL5, fun t ht => ⟨_, rfl, _, rfl, dr, _, rfl, DPut.k (k := Sum.inr al[i].1) (same_new ht _ _ _ edr5) dz5, ?_⟩⟩⟩
      rw [show (V.ref t) = rf (t, al[i].2.2) from rfl, putK_d]
      have st := same_new ht (.tup (al[i].2.2.map V.int))
      have tr : t ≠ dr := fun z => by rw [z, edr5] at ht; cases ht
      have e6 : ∀ b o, b ≠ dr → H5 b = some o → (upd (upd H5 t (.tup (al[i].2.2.map V.int))) dr (.dK (dOf rf (putA (al2 ++ [(al[i].1, (l, al[i].2.2))]) al[i].1 (t, al[i].2.2))))) b = some o := fun b o n e => by rw [upd_ne n]; exact st _ _ e
      refine ⟨putA (al2 ++ [(al[i].1, (l, al[i].2.2))]) al[i].1 (t, al[i].2.2), _, rfl, fun b o n1 n2 e => e6 _ _ (hb b o e) (s5.1 _ _ n1 (e3 _ _ (hb b o e) (sm _ _ n1 n2 e))), ?_, e6 _ _ ndd.symm eda5, upd_same, ?_, fun p hp => ?_⟩
      · obtain ⟨x, y, z, e⟩ := s5.2
        exact ⟨x, y, z, e6 _ _ ndr.symm e⟩
      · have hnone : getA (bare al2) al[i].1 = none := by rw [getA_bare, gnone]; rfl
        rw [bare_put, ebn]
        show putA (bare (al2 ++ [(al[i].1, (l, al[i].2.2))])) _ _ = _
        rw [show bare (al2 ++ [(al[i].1, (l, al[i].2.2))]) = bare al2 ++ [(al[i].1, al[i].2.2)] from List.map_append]
        exact put_again hnone
      · rcases mem_put hp with z | z
        · exact ((ra3.keep fun b o n1 n2 n3 e => s5.1 b o n1 e).keep fun b o _ n2 _ e => e6 b o n2 e) p z
        · have ta : t ≠ a := fun z => by
            obtain ⟨x, y, zz, e⟩ := s5.2
            rw [z, e] at ht; cases ht
          have td : t ≠ da := fun z => by rw [z, eda5] at ht; cases ht
          rw [z]
          exact ⟨.inr (SqT.of (by rw [upd_ne tr]; exact upd_same)), ta, tr, td⟩
    · exact ⟨al2 ++ [(al[i].1, (l, al[i].2.2))], _, rfl, fun b o n1 n2 e => s5.1 _ _ n1 (e3 _ _ (hb b o e) (sm _ _ n1 n2 e)), s5.2, s5.1 _ _ nda (e3 _ _ ndd.symm eda), s5.1 _ _ ndr upd_same, by rw [ebn]; exact List.map_append, ra3.keep fun b o n1 n2 n3 e => s5.1 b o n1 e⟩
  · obtain ⟨al2, y4, rfl, sm, fa, eda, edr, eb, ra⟩ := hv
    refine ⟨eda, ?_⟩
    have e1 : ∀ b o, b ≠ da → H' b = some o → (upd H' da (.dK (dOf rf al))) b = some o := fun b o n e => by rw [upd_ne n]; exact e
    have ndn : dn ≠ a := ne_of hdn hfa (by intro z; cases z)
    have edn : (upd H' da (.dK (dOf rf al))) dn = some (.dK (dOf V.int nl)) := by
      by_cases z : dn = da
      · rw [z, upd_same, ← hda, ← z, hdn]
      · exact e1 _ _ z (sm _ _ ndn z hdn)
    have keep : ∀ b o, b ≠ a → H b = some o → (upd H' da (.dK (dOf rf al))) b = some o := fun b o n e => by
      by_cases z : b = da
      · rw [z, upd_same, ← hda, ← z, e]
      · exact e1 _ _ z (sm _ _ n z e)
    refine ⟨_, rfl, dn, _, rfl, Rd.of edn, fun p1 h1 => ⟨_, rfl, (by show 2 ≤ sizeLine; decide), fun p2 h2 => ?_⟩⟩
    have s1 := same_new h1 (.dK (dOf V.int nl))
    have s2 := same_new h2 (.lst [.ref p1, .ref dr])
    have s12 := s1.trans s2
    have fre : ∀ (b : Addr), (upd H' da (.dK (dOf rf al))) b = none → H b = none := fun b e => by
      cases g : H b with
      | none => rfl
      | some o =>
        by_cases z : b = a
        · obtain ⟨x, y, zz, ea⟩ := fa
          rw [z, e1 _ _ nda.symm ea] at e; cases e
        · rw [keep b o z g] at e; cases e
    have hr1 : (upd H' da (.dK (dOf rf al))) dr = some (.dK (dOf rf al2)) := e1 _ _ ndd edr
    have ebf : bare al2 = bare al := by
      rw [eb, hlen]
      have : (bare al).length = al.length := List.length_map _
      rw [← this, List.take_length]
    refine q p2 p1 dr al2 _ ⟨fun b o n e => s12 _ _ (keep b o n e), ?_⟩ ?_ (fre p1 h1) hr0 upd_same (s2 _ _ upd_same) (s12 _ _ hr1) ?_ ebf ?_ (fun p hp => (ra p hp).2.1)
    · obtain ⟨x, y, z, ea⟩ := fa
      exact ⟨x, y, z, s12 _ _ (e1 _ _ nda.symm ea)⟩
    · refine fre p2 ?_
      cases g : (upd H' da (.dK (dOf rf al))) p2 with
      | none => rfl
      | some o => rw [s1 _ _ g] at h2; cases h2
    · intro z
      rw [z, hr1] at h1
      cases h1
    · exact fun p hp => ((ra p hp).1.keep fun o e => e1 _ _ (ra p hp).2.2.2 e).same s12
theorem ok_stayed {f : Addr} {fd : FuncData} {k : Nat} (F : Fun K "_law_stayed" "_law_stayed" s_law_stayed f fd) (mlist : mg "list" = none) (mlen : mg "len" = none) : FnOk P w K mg base CX0 (k + 1) f fd P_law_stayed (spStayed K) := by
  refine F.ok sc_law_stayed (fun vs H Q E h => ?_) (fun cdv A outer s H vs Q E hr h => ?_)
  · obtain ⟨pg, dn2, da2, dn, da, nl, al, al2, rfl, _⟩ := h
    rfl
  obtain ⟨pg, dn2, da2, dn, da, nl, al, al2, rfl, ep, h2, h1, nok, hda, hda2, nd, ok, ebf, hL, hR, q⟩ := h
  refine ⟨_, (pss_cons (ps_if (PW.pt (pw_or (pt_cmpR (op_ne_dictA (hu0 hr)) (pe_ix ix_list (pv 0) pe_int (fun _ _ => rfl)) (pv 1) (nomark _)) (pw_or1 (pt_cmpR op_ne (pe_callB call_lenD (by rfl) mlen (by decide +kernel) (pa_cons (pe_ix ix_list (pv 0) pe_int (fun _ _ => rfl)) pa_nil)) (pe_callB call_lenD (by rfl) mlen (by decide +kernel) (pa_cons (pv 2) pa_nil)) (nomark _)))))
      (pss_one (ps_ret pe_bl))
      pss_nil)
    (pss_cons (ps_lock (ps_for PassesOwn.never rfl (pi_keys (pv 2)) (pg_name (i := 3) sc_law_stayed.nd rfl (Or.inl rfl))
      (pss_one (ps_if (PW.pt (pw_or (pt_cmp (pc_dnotin (hu_of hr) (pv 3) (pe_ix ix_list (pv 0) pe_int (fun _ _ => rfl)))) (pw_or1 (pt_cmpR (op_neD hr.units) (pe_callTy call_list_of (by rfl) mlist (by decide +kernel) (pa_cons (pe_dget (hu_of hr) (pe_ix ix_list (pv 0) pe_int (fun _ _ => rfl)) (pv 3) (fun _ _ => rfl)) pa_nil)) (pe_dget (hu_of hr) (pv 2) (pv 3) (fun _ _ => rfl)) (nomark _)))))
        (pss_one (ps_ret pe_bl))
        pss_nil))))
    (pss_one (ps_ret pe_bl)))), ?_⟩
  have lens : (dOf rf al2).length = (dOf rf al).length := by
    have e1 : (dOf rf al2).length = al2.length := List.length_map _
    have e2 : (dOf rf al).length = al.length := List.length_map _
    have e3 : (bare al2).length = al2.length := List.length_map _
    have e4 : (bare al).length = al.length := List.length_map _
    rw [e1, e2, ← e3, ← e4, ebf]
  have same : ∀ p ∈ dOf V.int nl, valV (dOf V.int nl) p.1 = some p.2 ∧ flatB p.2 = true := fun p hp => by
    obtain ⟨x, hx, rfl⟩ := List.mem_map.mp hp
    refine ⟨?_, rfl⟩
    show valV (dOf V.int nl) (.inr x.1) = some (V.int x.2)
    rw [valV_d, get_at nok.nd hx]
    rfl
  refine ⟨_, rfl, _, _, _, _, rfl, rfl, (SqL.of ep), atI_nat (j := 0) rfl, _, rfl, dn2, dn, _, _, rfl, rfl, h2, h1, rfl, same, _, rfl, iteF ⟨_, rfl, _, _, _, _, rfl, rfl, (SqL.of ep), atI_nat (j := 1) rfl, da2, _, rfl, hda2, _, rfl, da, _, rfl, hda, rfl, _, rfl, ?_⟩⟩
  rw [lens]
  refine itYn ?_
  refine ⟨da, .dK (dOf rf al), hda, trivial, fun od => ⟨_, rfl, da, od, rfl, .inl ⟨_, upd_same, ?_⟩⟩⟩
  refine for_it walk_keys (fun i σ H' => ∃ (y3 : Option V), σ = [some (.ref pg), some (.ref dn), some (.ref da), y3] ∧ (∀ b o, b ≠ da → H b = some o → H' b = some o) ∧ H' da = some (.frz od (.dK (dOf rf al))))
    ⟨_, rfl, fun b o n e => by rw [upd_ne n]; exact e, upd_same⟩ (fun i σ H' _ hv => ?_) (fun i x σ H' H2 hi hv hy => ?_) (fun σ H' hv => ?_)
  · obtain ⟨y3, rfl, _, e⟩ := hv
    exact e
  · obtain ⟨y3, rfl, sm, eda⟩ := hv
    obtain ⟨rfl, ky, vy, gk, rfl⟩ := hy
    have hlen : (dOf rf al).length = al.length := List.length_map _
    have hi2 : i < al.length := by rw [hlen] at hi; exact hi
    have gp : al[i]? = some al[i] := List.getElem?_eq_getElem hi2
    have gk2 : (dOf rf al)[i]? = some (.inr al[i].1, .ref al[i].2.1) := by
      unfold dOf
      rw [List.getElem?_map, gp]
      rfl
    rw [gk2] at gk
    cases gk
    have pm : al[i] ∈ al := List.getElem_mem hi2
    have gA := get_at ok.nd pm
    have gB : getA (bare al2) al[i].1 = some al[i].2.2 := by
      rw [ebf, getA_bare, gA]
      rfl
    rw [getA_bare] at gB
    obtain ⟨r2, g2, e2⟩ : ∃ r2 : Row, getA al2 al[i].1 = some r2 ∧ r2.2 = al[i].2.2 := by
      cases g : getA al2 al[i].1 with
      | none => rw [g] at gB; cases gB
      | some y => rw [g] at gB; exact ⟨y, rfl, Option.some.inj gB⟩
    have m2 := mem_get g2
    have epd : pg ≠ da := ne_of ep hda (by intro z; cases z)
    have ep2 := sm _ _ epd ep
    have hda22 := sm _ _ nd.symm hda2
    have dg2 : DGet H2 da2 (.str al[i].1) (some (.ref r2.1)) := dget_str hda22 (by rw [valV_d, g2]; rfl)
    have rS : SqI K H2 r2.1 al[i].2.2 := by
      have h := hR _ m2
      rw [show (al[i].1, r2).2.2 = al[i].2.2 from e2] at h
      rcases h with ((h | ⟨o, h⟩) | h) | ((h | ⟨o, h⟩) | h)
      · exact .inl (.inl (.inl (sm _ _ (ne_of h hda (by intro z; cases z)) h)))
      · exact .inl (.inl (.inr ⟨o, sm _ _ (ne_of h hda (by intro z; cases z)) h⟩))
      · exact .inl (.inr h)
      · exact .inr (.inl (.inl (sm _ _ (ne_of h hda (by intro z; cases z)) h)))
      · exact .inr (.inl (.inr ⟨o, sm _ _ (ne_of h hda (by intro z; cases z)) h⟩))
      · exact .inr (.inr h)
    have rL : SqL K H2 al[i].2.1 (al[i].2.2.map V.int) := by
      rcases hL _ pm with (h | ⟨o, h⟩) | h
      · exact .inl (.inl (sm _ _ (ne_of h hda (by intro z; cases z)) h))
      · exact .inl (.inr ⟨o, sm _ _ (ne_of h hda (by intro z; cases z)) h⟩)
      · exact .inr h
    refine ⟨_, rfl, _, rfl, _, _, _, _, rfl, rfl, (SqL.of ep2), atI_nat (j := 1) rfl, da2, _, rfl, dg2, _, rfl, iteF ?_⟩
    refine ⟨_, rfl, _, _, _, _, rfl, rfl, (SqL.of ep2), atI_nat (j := 1) rfl, _, rfl, da2, _, rfl, dg2, r2.1, _, rfl, rS, fun l hl => ?_⟩
    have sl := same_new hl (.lst (al[i].2.2.map V.int))
    have eda3 := sl _ _ eda
    refine ⟨_, rfl, _, rfl, da, _, rfl, dget_frz eda3 (by rw [valV_d, gA]; rfl), intsD al[i].2.2, intsD al[i].2.2, .lst (SqL.of upd_same) (dp_ints _), .lst (sl.seq rL) (dp_ints _), shaped_ints _, shaped_ints _, _, rfl, ?_⟩
    rw [eqv_intsD]
    exact iteF ⟨_, rfl, fun b o n e => sl _ _ (sm _ _ n e), eda3⟩
  · obtain ⟨y3, rfl, sm, eda⟩ := hv
    refine ⟨eda, q _ fun b o e => ?_⟩
    by_cases z : b = da
    · rw [z, upd_same, ← hda, ← z, e]
    · rw [upd_ne z]
      exact sm _ _ z e
end
end K01
namespace K01
open PySem L2 Vk
def spRow : Sp := fun vs H Q _ => ∃ (a : Addr), vs = [.ref a] ∧ Fd H a ∧ ∀ (R : Addr) (xs : List Int) (H' : Hp), Stp a H H' → H R = none → R ≠ a → H' R = some (.lst (xs.map V.int)) → xs.length ≤ 100 → (∀ z ∈ xs, Lim z) → Q (.ref R) H'
/-- a memory that is made: two dicts in a list -/
structure Made (K : PySem.W.Frag) (H H' : Hp) (p dn da : Addr) (nl : List (Str × Int)) (al : List (Str × Row)) (ws ss : List Str) : Prop where
  sm : Same H H'
  np : H p = none
  nn : H dn = none
  na : H da = none
  ep : H' p = some (.lst [.ref dn, .ref da])
  en : H' dn = some (.dK (dOf V.int nl))
  ea : H' da = some (.dK (dOf rf al))
  nok : NamesOk nl
  rok : RowsOk al
  rows : ∀ r ∈ al, H' r.2.1 = some (.lst (r.2.2.map V.int)) ∧ H r.2.1 = none
  kn : ∀ w ∈ ws, (getA nl w).isSome = true
  ka : ∀ w ∈ ss, (getA al w).isSome = true
def spMemory (K : PySem.W.Frag) : Sp := fun vs H Q _ => ∃ (n : Int) (c d : Addr) (ws ss : List Str), vs = [.int n, .ref c, .ref d] ∧ H c = some (.lst (ws.map V.str)) ∧ H d = some (.lst (ss.map V.str)) ∧ ws.length ≤ 100 ∧ ss.length ≤ 100 ∧
  ∀ (p dn da : Addr) (nl : List (Str × Int)) (al : List (Str × Row)) (H' : Hp), Made K H H' p dn da nl al ws ss → Q (.ref p) H'
theorem take_mem {α : Type} {xs : List α} {i : Nat} {x w : α} (h : xs[i]? = some x) (hw : w ∈ xs.take (i + 1)) : w ∈ xs.take i ∨ w = x := by
  rw [List.take_add_one, h] at hw
  rcases List.mem_append.mp hw with z | z
  · exact .inl z
  · exact .inr (by simpa using z)
theorem map_get {α : Type} {f : α → V} {xs : List α} {i : Nat} {v : V} (h : (xs.map f)[i]? = some v) : ∃ x, xs[i]? = some x ∧ v = f x := by
  rw [List.getElem?_map] at h
  cases e : xs[i]? with
  | none => rw [e] at h; cases h
  | some x => rw [e] at h; cases h; exact ⟨x, rfl, rfl⟩
section
variable {P : Program} {w : World} {K : PySem.W.Frag} {mg : Str → Option Value} {base : Heap}
theorem ok_row {f : Addr} {fd : FuncData} {k : Nat} (F : Fun K "_law_row" "_law_row" s_law_row f fd) (mrange : mg "range" = none) (O_law_take : Ok P w K mg base k "_law_take" P_law_take spTake)
    (O_law_datum : Ok P w K mg base k "_law_datum" P_law_datum spDatum) : FnOk P w K mg base CX0 (k + 1) f fd P_law_row spRow := by
  refine F.ok sc_law_row (fun vs H Q E h => ?_) (fun cdv A outer s H vs Q E hr h => ?_)
  · obtain ⟨a, rfl, _⟩ := h
    rfl
  obtain ⟨a, rfl, hF, q⟩ := h
  refine ⟨_, (pss_cons (ps_set (i := 1) sc_law_row.nd rfl (Or.inl rfl) (pe_c O_law_take hr (by rfl) (pa_cons (pv 0) (pa_cons pe_int pa_nil))))
    (pss_cons (ps_set (i := 2) sc_law_row.nd rfl (Or.inl rfl) (pe_op op_add pe_int (pe_c O_law_take hr (by rfl) (pa_cons (pv 0) (pa_cons pe_int pa_nil)))))
    (C8.pss_cut (ps_if (pt_cmpR op_lt (pv 1) pe_int (nomark _))
      (pss_one (ps_set (i := 2) sc_law_row.nd rfl (Or.inl rfl) (pe_ix ix_list (pe_lst (pa_cons pe_int (pa_cons pe_int (pa_cons (pe_op op_add pe_int (pe_c O_law_take hr (by rfl) (pa_cons (pv 0) (pa_cons pe_int pa_nil)))) pa_nil)))) (pv 1) (fun _ _ => rfl))))
      pss_nil)
    (pss_cons (ps_set (i := 3) sc_law_row.nd rfl (Or.inl rfl) (pe_c O_law_take hr (by rfl) (pa_cons (pv 0) (pa_cons pe_int pa_nil))))
    (pss_cons (ps_set (i := 4) sc_law_row.nd rfl (Or.inl rfl) (pe_lst pa_nil))
    (pss_cons (ps_for PassesOwn.never rfl (pi_range1 (by rfl) mrange (pa_cons (pv 2) pa_nil)) (pg_name (i := 5) sc_law_row.nd rfl (Or.inl rfl))
      (pss_cons (ps_set (i := 6) sc_law_row.nd rfl (Or.inl rfl) (pe_c O_law_datum hr (by rfl) (pa_cons (pv 0) pa_nil)))
      (C8.pss_cut (ps_if (pt_cmpR op_eq (pv 6) pe_int (nomark _))
        (pss_one (ps_set (i := 6) sc_law_row.nd rfl (Or.inl rfl) pe_int))
        pss_nil)
      (C8.pss_cut (ps_if (PW.pt (pw_or (pt_cmpR op_eq (pv 3) pe_int (nomark _)) (pw_or1 (PW.pt (pw_and (pt_cmpR op_gt (pv 3) pe_int (nomark _)) (pw_and1 (pt_cmpR op_eq (pe_c O_law_take hr (by rfl) (pa_cons (pv 0) (pa_cons pe_int pa_nil))) pe_int (nomark _))))))))
        (pss_one (ps_set (i := 6) sc_law_row.nd rfl (Or.inl rfl) pe_int))
        pss_nil)
      (pss_one (ps_expr (pe_bm PySem.F.plainAttrs_list PySem.F.slot_list_append PySem.F.type_list_append mt_append (pv 4) (pa_cons (pv 6) pa_nil))))))))
    (pss_one (ps_ret (pv 4))))))))), ?_⟩
  refine rd_take rfl hF (by decide) (by decide) fun kind H1 k0 k1 s1 => ?_
  refine rd_take rfl s1.2 (by decide) (by decide) fun n2 H2 n20 n21 s2 => ⟨_, _, rfl, rfl, ?_⟩
  refine ⟨fun σ' H' => ∃ sz : Int, σ' = [some (.ref a), some (.int kind), some (.int sz), none, none, none, none] ∧ Stp a H H' ∧ 0 ≤ sz ∧ sz ≤ 64, ?_, fun σ' H' hm => ?_⟩
  · refine ⟨_, rfl, _, _, rfl, rfl, _, rfl, ite2' (fun c => ?_) (fun c => ⟨_, rfl, s1.trans s2, by omega, by omega⟩)⟩
    refine rd_take rfl s2.2 (by decide) (by decide) fun n3 H3 n30 n31 s3 => ⟨_, _, rfl, rfl, (by show 3 ≤ sizeLine; decide), fun l hl => ⟨_, rfl, ?_⟩⟩
    obtain ⟨v, vm, ev⟩ := atI_in (xs := ([0, 1, 10 + n3] : List Int).map V.int) (i := kind) k0 c
    obtain ⟨sz, szm, rfl⟩ := List.mem_map.mp vm
    refine ⟨_, _, _, _, rfl, rfl, SqL.of upd_same, ev, sz, rfl, (s1.trans (s2.trans s3)).same (same_new hl _), ?_⟩
    simp only [List.mem_cons, List.not_mem_nil, or_false] at szm
    omega
  obtain ⟨sz, rfl, s3, z0, z1⟩ := hm
  refine rd_take rfl s3.2 (by decide) (by decide) fun st H4 _ _ s4 => ?_
  refine ⟨(by show 0 ≤ sizeLine; decide), fun p hp => ⟨_, rfl, sz, rfl, by omega, by omega, ?_⟩⟩
  have s04 := s3.trans s4
  have pa : p ≠ a := by
    obtain ⟨x, y, z, e⟩ := s4.2
    exact (ne_of_none e hp).symm
  have pH : H p = none := by
    cases g : H p with
    | none => rfl
    | some o => rw [s04.1 _ _ pa g] at hp; cases hp
  refine for_range (n := sz.toNat) (fun i σ H' => ∃ (xs : List Int) (y5 y6 : Option V), σ = [some (.ref a), some (.int kind), some (.int sz), some (.int st), some (.ref p), y5, y6] ∧ Stp a H4 H' ∧ H' p = some (.lst (xs.map V.int)) ∧ xs.length = i ∧ ∀ w ∈ xs, Lim w)
    ⟨[], _, _, rfl, Stp.of s4.2 (same_new hp _), upd_same, rfl, by simp⟩ (fun i σ H' hi hv => ?_) (fun σ H' hv => ?_)
  · obtain ⟨xs, y5, y6, rfl, sm, ep, ln, wo⟩ := hv
    refine ⟨_, rfl, a, rfl, sm.2, fun m H2 lm s2 => ?_⟩
    refine ⟨fun σ3 H3 => ∃ (m : Int), σ3 = [some (.ref a), some (.int kind), some (.int sz), some (.int st), some (.ref p), some (.int (0 + i)), some (.int m)] ∧ Stp a H' H3 ∧ Lim m, ?_, fun σ3 H3 hm => ?_⟩
    · refine ⟨_, rfl, rfl, _, rfl, ite2 (fun c => ⟨1, rfl, s2, by decide, by decide⟩) (fun c => ⟨m, rfl, s2, lm⟩)⟩
    obtain ⟨m, rfl, s3, lm⟩ := hm
    refine ⟨fun σ3 H3 => ∃ (m : Int), σ3 = [some (.ref a), some (.int kind), some (.int sz), some (.int st), some (.ref p), some (.int (0 + i)), some (.int m)] ∧ Stp a H' H3 ∧ Lim m, ?_, fun σ3 H3 hm => ?_⟩
    · have fin0 : ∀ H5, Stp a H' H5 → ∃ (m : Int), ([some (.ref a), some (.int kind), some (.int sz), some (.int st), some (.ref p), some (.int (0 + i)), some (.int 0)] : St) = [some (.ref a), some (.int kind), some (.int sz), some (.int st), some (.ref p), some (.int (0 + i)), some (.int m)] ∧ Stp a H' H5 ∧ Lim m := fun H5 s => ⟨0, rfl, s, by decide, by decide⟩
      have finm : ∀ H5, Stp a H' H5 → ∃ (m' : Int), ([some (.ref a), some (.int kind), some (.int sz), some (.int st), some (.ref p), some (.int (0 + i)), some (.int m)] : St) = [some (.ref a), some (.int kind), some (.int sz), some (.int st), some (.ref p), some (.int (0 + i)), some (.int m')] ∧ Stp a H' H5 ∧ Lim m' := fun H5 s => ⟨m, rfl, s, lm⟩
      refine ⟨_, rfl, rfl, _, rfl, ite2 (fun c => ite2 (fun _ => fin0 _ s3) (fun z => absurd rfl z)) (fun c => ?_)⟩
      refine ⟨_, rfl, _, _, rfl, rfl, _, rfl, ite2 (fun c2 => ?_) (fun c2 => ite2 (fun z => absurd z (by decide)) (fun _ => finm _ s3))⟩
      refine rd_take rfl s3.2 (by decide) (by decide) fun r5 H5 _ _ s5 => ⟨rfl, _, rfl, ite2 (fun c3 => fin0 _ (s3.trans s5)) (fun c3 => finm _ (s3.trans s5))⟩
    obtain ⟨m, rfl, s3', lm'⟩ := hm
    have ep3 := s3'.1 _ _ pa ep
    refine ⟨_, rfl, .inl ⟨rfl, _, SqL.of ep3⟩, _, rfl, p, _, _, rfl, rfl, ep3, Nat.lt_of_le_of_lt (by rw [List.length_map]; show xs.length ≤ 1000; omega) (small1000 (Nat.le_refl 1000)), ?_⟩
    refine ⟨xs ++ [m], _, _, rfl, ⟨fun b o nb eb => ?_, ?_⟩, ?_, by rw [List.length_append, ln]; rfl, ?_⟩
    · rw [upd_ne (ne_of_none eb hp)]
      exact s3'.1 b o nb (sm.1 b o nb eb)
    · obtain ⟨x, y, z, e⟩ := s3'.2
      exact ⟨x, y, z, by rw [upd_ne pa.symm]; exact e⟩
    · rw [upd_same, List.map_append]
      rfl
    · intro w hw
      rcases List.mem_append.mp hw with z | z
      · exact wo w z
      · rw [List.mem_singleton.mp z]
        exact lm'
  · obtain ⟨xs, y5, y6, rfl, sm, ep, ln, wo⟩ := hv
    exact ⟨_, rfl, q p xs H' (s04.trans sm) pH pa ep (by omega) wo⟩
theorem ok_memory {f : Addr} {fd : FuncData} {k : Nat} (F : Fun K "_law_memory" "_law_memory" s_law_memory f fd) (O_law_feed : Ok P w K mg base k "_law_feed" P_law_feed spFeed) (O_law_row : Ok P w K mg base k "_law_row" P_law_row spRow)
    (O_law_datum : Ok P w K mg base k "_law_datum" P_law_datum spDatum) : FnOk P w K mg base CX0 (k + 1) f fd P_law_memory (spMemory K) := by
  refine F.ok sc_law_memory (fun vs H Q E h => ?_) (fun cdv A outer s H vs Q E hr h => ?_)
  · obtain ⟨n, c, d, ws, ss, rfl, _⟩ := h
    rfl
  obtain ⟨n, c, d, ws, ss, rfl, hc, hd, wz, sz, q⟩ := h
  refine ⟨_, (pss_cons (ps_set (i := 3) sc_law_memory.nd rfl (Or.inl rfl) (pe_c O_law_feed hr (by rfl) (pa_cons (pv 0) pa_nil)))
    (pss_cons (ps_set (i := 4) sc_law_memory.nd rfl (Or.inl rfl) pe_dnewK)
    (pss_cons (ps_for PassesOwn.never rfl (pi_list (pv 1)) (pg_name (i := 5) sc_law_memory.nd rfl (Or.inl rfl))
      (pss_one (ps_dput (hu_of hr) (pv 4) (pv 5) (pe_c O_law_datum hr (by rfl) (pa_cons (pv 3) pa_nil)) rfl)))
    (pss_cons (ps_set (i := 6) sc_law_memory.nd rfl (Or.inl rfl) pe_dnewK)
    (pss_cons (ps_for PassesOwn.never rfl (pi_list (pv 2)) (pg_name (i := 5) sc_law_memory.nd rfl (Or.inl rfl))
      (pss_one (ps_dput (hu_of hr) (pv 6) (pv 5) (pe_c O_law_row hr (by rfl) (pa_cons (pv 3) pa_nil)) rfl)))
    (pss_one (ps_ret (pe_lst (pa_cons (pv 4) (pa_cons (pv 6) pa_nil)))))))))), ?_⟩
  refine ⟨_, rfl, n, rfl, fun pf H1 s1 npf f1 => ?_⟩
  intro dn hdn
  have ndf : dn ≠ pf := by
    obtain ⟨x, y, z, e⟩ := f1
    exact (ne_of_none e hdn).symm
  have hdnH : H dn = none := s1.free hdn
  have g1 := same_new hdn (.dK (dOf V.int []))
  have keepD : ∀ {Hx : Hp} {o : HO}, Same H Hx → Same H (upd Hx dn o) := fun {Hx o} s => same_put s hdnH
  have keepS : ∀ {Hx Hy : Hp}, Same H Hx → Stp pf Hx Hy → Same H Hy := fun {Hx Hy} s t b o e => t.1 b o (ne_of_none e npf) (s b o e)
  refine ⟨_, rfl, c, rfl, ⟨_, SqL.of (g1 _ _ (s1 _ _ hc))⟩, ?_⟩
  refine for_list (xs := ws.map V.str) (fun i σ H' => ∃ (nl : List (Str × Int)) (y5 : Option V), σ = [some (.int n), some (.ref c), some (.ref d), some (.ref pf), some (.ref dn), y5, none] ∧ Same H H' ∧ Fd H' pf ∧ H' dn = some (.dK (dOf V.int nl)) ∧ (∀ p ∈ nl, Lim p.2) ∧ (nl.map (·.1)).Nodup ∧ nl.length ≤ i ∧ ∀ w ∈ ws.take i, (getA nl w).isSome = true)
    ⟨[], _, rfl, s1.trans g1, f1.same g1, upd_same, (fun p hp => by cases hp), List.nodup_nil, Nat.le_refl 0, (fun w hw => by cases hw)⟩ (fun i σ H' _ hv => ?_) (fun i x σ H' hx hv => ?_) (fun σ H' hv => ?_)
  · obtain ⟨nl, y5, rfl, sm, _⟩ := hv
    exact SqL.of (sm _ _ hc)
  · obtain ⟨nl, y5, rfl, sm, fd, en, lim, nd, ln, kn⟩ := hv
    obtain ⟨wd, gw, rfl⟩ := map_get hx
    have il : i < ws.length := (List.getElem?_eq_some_iff.mp gw).1
    refine ⟨_, rfl, pf, rfl, fd, fun m H2 lm s2 => ⟨_, rfl, _, rfl, dn, _, rfl, DPut.k (k := Sum.inr wd) (s2.1 _ _ ndf en) ?_, ?_⟩⟩
    · show (List.map _ nl).length < _
      rw [List.length_map]
      exact small1000 (by omega)
    rw [putK_d]
    refine ⟨putA nl wd m, _, rfl, keepD (keepS sm s2), ?_, upd_same, fun p hp => ?_, nodup_put nd, Nat.le_trans len_put (by omega), fun z hz => ?_⟩
    · obtain ⟨x, y, z, e⟩ := s2.2
      exact ⟨x, y, z, by rw [upd_ne ndf.symm]; exact e⟩
    · rcases mem_put hp with z | z
      · exact lim p z
      · rw [z]; exact lm
    · rw [getA_put]
      split
      · rfl
      · rename_i c
        rcases take_mem gw hz with y | y
        · exact kn z y
        · exact absurd y c
  obtain ⟨nl, y5, rfl, sm, fd, en, lim, nd, ln, kn⟩ := hv
  rw [List.length_map] at ln
  rw [List.length_map, List.take_length] at kn
  intro da hda
  have naf : da ≠ pf := by
    obtain ⟨x, y, z, e⟩ := fd
    exact (ne_of_none e hda).symm
  have nad : dn ≠ da := ne_of_none en hda
  have hdaH : H da = none := sm.free hda
  have g2 := same_new hda (.dK (dOf rf []))
  have keepA : ∀ {Hx : Hp} {o : HO}, Same H Hx → Same H (upd Hx da o) := fun {Hx o} s => same_put s hdaH
  refine ⟨_, rfl, d, rfl, ⟨_, SqL.of (g2 _ _ (sm _ _ hd))⟩, ?_⟩
  refine for_list (xs := ss.map V.str) (fun i σ H' => ∃ (al : List (Str × Row)) (y5 : Option V), σ = [some (.int n), some (.ref c), some (.ref d), some (.ref pf), some (.ref dn), y5, some (.ref da)] ∧ Same H H' ∧ Fd H' pf ∧ H' dn = some (.dK (dOf V.int nl)) ∧ H' da = some (.dK (dOf rf al)) ∧ (∀ p ∈ al, (∀ x ∈ p.2.2, Lim x) ∧ p.2.2.length ≤ 100) ∧ (al.map (·.1)).Nodup ∧ al.length ≤ i ∧
      (∀ r ∈ al, H' r.2.1 = some (.lst (r.2.2.map V.int)) ∧ H r.2.1 = none ∧ r.2.1 ≠ pf) ∧ ∀ w ∈ ss.take i, (getA al w).isSome = true)
    ⟨[], _, rfl, sm.trans g2, fd.same g2, g2 _ _ en, upd_same, (fun p hp => by cases hp), List.nodup_nil, Nat.le_refl 0, (fun p hp => by cases hp), (fun w hw => by cases hw)⟩ (fun i σ H' _ hv => ?_) (fun i x σ H' hx hv => ?_) (fun σ H' hv => ?_)
  · obtain ⟨al, y5, rfl, sm, _⟩ := hv
    exact SqL.of (sm _ _ hd)
  · obtain ⟨al, y5, rfl, sm2, fd2, en2, ea2, lim2, nd2, ln2, rows2, ka2⟩ := hv
    obtain ⟨wd, gw, rfl⟩ := map_get hx
    have il : i < ss.length := (List.getElem?_eq_some_iff.mp gw).1
    refine ⟨_, rfl, pf, rfl, fd2, fun R zs H4 s4 nR Rpf eR lz hb4 => ?_⟩
    have Rda : R ≠ da := fun z => by rw [z, ea2] at nR; cases nR
    have RH : H R = none := by
      cases g : H R with
      | none => rfl
      | some o => rw [sm2 _ _ g] at nR; cases nR
    refine ⟨_, rfl, _, rfl, da, _, rfl, DPut.k (k := Sum.inr wd) (s4.1 _ _ naf ea2) ?_, ?_⟩
    · show (List.map _ al).length < _
      rw [List.length_map]
      exact small1000 (by omega)
    rw [show (V.ref R) = rf (R, zs) from rfl, putK_d]
    refine ⟨putA al wd (R, zs), _, rfl, keepA (keepS sm2 s4), ?_, ?_, upd_same, fun p hp => ?_, nodup_put nd2, Nat.le_trans len_put (by omega), fun p hp => ?_, fun z hz => ?_⟩
    · obtain ⟨x, y, z, e⟩ := s4.2
      exact ⟨x, y, z, by rw [upd_ne naf.symm]; exact e⟩
    · rw [upd_ne nad]
      exact s4.1 _ _ ndf en2
    · rcases mem_put hp with z | z
      · exact lim2 p z
      · rw [z]; exact ⟨hb4, lz⟩
    · rcases mem_put hp with z | z
      · obtain ⟨e1, e2, e3⟩ := rows2 p z
        exact ⟨by rw [upd_ne (ne_of e1 ea2 (by intro z; cases z))]; exact s4.1 _ _ e3 e1, e2, e3⟩
      · rw [z]
        exact ⟨by rw [upd_ne Rda]; exact eR, RH, Rpf⟩
    · rw [getA_put]
      split
      · rfl
      · rename_i c
        rcases take_mem gw hz with y | y
        · exact ka2 z y
        · exact absurd y c
  · obtain ⟨al, y5, rfl, sm2, fd2, en2, ea2, lim2, nd2, ln2, rows2, ka2⟩ := hv
    rw [List.length_map] at ln2
    rw [List.length_map, List.take_length] at ka2
    refine ⟨_, rfl, _, rfl, (by show 2 ≤ sizeLine; decide), fun p hp => ?_⟩
    have g3 := same_new hp (.lst [.ref dn, .ref da])
    exact q p dn da nl al _ ⟨sm2.trans g3, sm2.free hp, hdnH, hdaH, upd_same, g3 _ _ en2, g3 _ _ ea2, ⟨lim, nd, by omega⟩, ⟨lim2, nd2, by omega⟩, fun r hr => ⟨g3 _ _ (rows2 r hr).1, (rows2 r hr).2.1⟩, kn, ka2⟩
end
end K01
namespace K01
open PySem L2 Vk
/-- all but what stands at p is kept -/
def Keep (p : Addr) (H H' : Hp) : Prop := ∀ b o, b ≠ p → H b = some o → H' b = some o
theorem Keep.trans {p : Addr} {H H1 H2 : Hp} (a : Keep p H H1) (b : Keep p H1 H2) : Keep p H H2 := fun c o n e => b c o n (a c o n e)
theorem Keep.same {p : Addr} {H H' : Hp} (s : Same H H') : Keep p H H' := fun b o _ e => s b o e
/-- a memory as it stands, apart from p -/
structure MemAt (K : PySem.W.Frag) (p : Addr) (H : Hp) (q dn da : Addr) (nl : List (Str × Int)) (al : List (Str × Row)) : Prop where
  eq : H q = some (.lst [.ref dn, .ref da])
  en : H dn = some (.dK (dOf V.int nl))
  ea : H da = some (.dK (dOf rf al))
  rows : ∀ r ∈ al, SqI K H r.2.1 r.2.2 ∧ r.2.1 ≠ p
  nq : q ≠ p
  nn : dn ≠ p
  na : da ≠ p
theorem MemAt.keep {K : PySem.W.Frag} {p : Addr} {H H' : Hp} {q dn da : Addr} {nl : List (Str × Int)} {al : List (Str × Row)} (m : MemAt K p H q dn da nl al) (k : Keep p H H') : MemAt K p H' q dn da nl al :=
  ⟨k _ _ m.nq m.eq, k _ _ m.nn m.en, k _ _ m.na m.ea, fun r hr => ⟨(m.rows r hr).1.keep fun o e => k _ _ (m.rows r hr).2 e, (m.rows r hr).2⟩, m.nq, m.nn, m.na⟩
theorem MemAt.rowsAt {K : PySem.W.Frag} {p : Addr} {H : Hp} {q dn da : Addr} {nl : List (Str × Int)} {al : List (Str × Row)} (m : MemAt K p H q dn da nl al) : RowsAt K H al := fun r hr => (m.rows r hr).1
/-- lists of numbers -/
def Lsts (p : Addr) (H : Hp) (al : List (Str × Row)) : Prop := ∀ r ∈ al, H r.2.1 = some (.lst (r.2.2.map V.int)) ∧ r.2.1 ≠ p
theorem Lsts.keep {p : Addr} {H H' : Hp} {al : List (Str × Row)} (h : Lsts p H al) (k : Keep p H H') : Lsts p H' al := fun r hr => ⟨k _ _ (h r hr).2 (h r hr).1, (h r hr).2⟩
theorem Lsts.rl {K : PySem.W.Frag} {p : Addr} {H : Hp} {al : List (Str × Row)} (h : Lsts p H al) : RowsL K H al := fun r hr => SqL.of (h r hr).1
theorem good_subs {ns as : List Str} {e f : Ex} (h : e.good ns as) (hf : f ∈ e.subs) : f.good ns as := Ex.subs_all (p := fun e => e.good ns as) (fun _ _ m g => Ex.kids_good m g) h f hf
theorem dep_subs {n : Nat} {e f : Ex} (h : e.dep ≤ n) (hf : f ∈ e.subs) : f.dep ≤ n := Ex.subs_all (p := fun e => e.dep ≤ n) (fun _ _ m g => by have := Ex.kids_dep m; omega) h f hf
theorem SqI.keepD {K : PySem.W.Frag} {H H' : Hp} {p : Addr} {xs : List Int} (h : SqI K H p xs) (k : ∀ o, (∀ kvs, o ≠ .dK kvs) → H p = some o → H' p = some o) : SqI K H' p xs := by
  rcases h with ((h | ⟨o, h⟩) | h) | ((h | ⟨o, h⟩) | h)
  · exact .inl (.inl (.inl (k _ (by intro _ z; cases z) h)))
  · exact .inl (.inl (.inr ⟨o, k _ (by intro _ z; cases z) h⟩))
  · exact .inl (.inr h)
  · exact .inr (.inl (.inl (k _ (by intro _ z; cases z) h)))
  · exact .inr (.inl (.inr ⟨o, k _ (by intro _ z; cases z) h⟩))
  · exact .inr (.inr h)
theorem tu_of {K : PySem.W.Frag} {H H' : Hp} (k : ∀ b o, (∀ kvs, o ≠ .dK kvs) → H b = some o → H' b = some o) : Tu K H H' := fun b xs q => by
  rcases q with (q | ⟨o, q⟩) | q
  · exact .inl (.inl (k _ _ (by intro _ z; cases z) q))
  · exact .inl (.inr ⟨o, k _ _ (by intro _ z; cases z) q⟩)
  · exact .inr q
theorem mem_al {K : PySem.W.Frag} {H : Hp} {dn da : Addr} {nl : List (Str × Int)} {al al' : List (Str × Row)} {ws ss : List Str} (en : H dn = some (.dK (dOf V.int nl))) (ea : H da = some (.dK (dOf rf al'))) (ra : RowsAt K H al') (b : bare al' = bare al) (nok : ∀ p ∈ nl, Lim p.2) (rok : ∀ p ∈ al, (∀ x ∈ p.2.2, Lim x) ∧ p.2.2.length ≤ 100) (kn : ∀ w ∈ ws, (getA nl w).isSome = true) (ka : ∀ w ∈ ss, (getA al w).isSome = true) :
    Mem K H dn da (nmF nl) (arF al) ws ss := by
  rw [← arF_bare b]
  refine mem_mk en ea nok (fun r hr => ?_) ra kn (fun w hw => ?_)
  · have h1 : (r.1, r.2.2) ∈ bare al' := List.mem_map.mpr ⟨r, hr, rfl⟩
    rw [b] at h1
    obtain ⟨r', hr', e⟩ := List.mem_map.mp h1
    have e2 : r'.2.2 = r.2.2 := (Prod.mk.inj e).2
    rw [← e2]
    exact rok r' hr'
  · have h1 := ka w hw
    have h2 : (getA (bare al) w).isSome = true := by rw [getA_bare, Option.isSome_map]; exact h1
    rw [← b, getA_bare, Option.isSome_map] at h2
    exact h2
theorem mem_of {K : PySem.W.Frag} {p : Addr} {H : Hp} {q dn da : Addr} {nl : List (Str × Int)} {al al' : List (Str × Row)} {ws ss : List Str} (m : MemAt K p H q dn da nl al') (b : bare al' = bare al) (nok : ∀ p ∈ nl, Lim p.2) (rok : ∀ p ∈ al, (∀ x ∈ p.2.2, Lim x) ∧ p.2.2.length ≤ 100) (kn : ∀ w ∈ ws, (getA nl w).isSome = true) (ka : ∀ w ∈ ss, (getA al w).isSome = true) :
    Mem K H dn da (nmF nl) (arF al) ws ss := by
  rw [← arF_bare b]
  refine mem_mk m.en m.ea nok (fun r hr => ?_) m.rowsAt kn (fun w hw => ?_)
  · have h1 : (r.1, r.2.2) ∈ bare al' := List.mem_map.mpr ⟨r, hr, rfl⟩
    rw [b] at h1
    obtain ⟨r', hr', e⟩ := List.mem_map.mp h1
    have e2 : r'.2.2 = r.2.2 := (Prod.mk.inj e).2
    rw [← e2]
    exact rok r' hr'
  · have h1 := ka w hw
    have h2 : (getA (bare al) w).isSome = true := by rw [getA_bare, Option.isSome_map]; exact h1
    rw [← b, getA_bare, Option.isSome_map] at h2
    exact h2
def spSpots : Sp := fun vs H Q _ => ∃ (a : Addr) (n : Int), vs = [.ref a, .int n] ∧ Fd H a ∧ 0 ≤ n ∧ n ≤ 100 ∧ ∀ (R : Addr) (xs : List Int) (H' : Hp), Stp a H H' → H' R = some (.lst (xs.map V.int)) → (∀ z ∈ xs, Lim z) → Q (.ref R) H'
def spSpotted (K : PySem.W.Frag) : Sp := fun vs H Q _ => ∃ (a pg dg ag da : Addr) (head wd : Str) (n : Int) (al alg : List (Str × Row)) (ss : List Str), vs = [.ref a, .ref pg, .ref da, .str head, .str wd, .int n] ∧ Fd H a ∧ 0 ≤ n ∧ n ≤ 100 ∧
  H pg = some (.lst [.ref dg, .ref ag]) ∧ H ag = some (.dK (dOf rf alg)) ∧ H da = some (.dK (dOf rf al)) ∧ pg ≠ a ∧ ag ≠ a ∧ da ≠ a ∧ (∀ r ∈ al, SqI K H r.2.1 r.2.2 ∧ r.2.1 ≠ a) ∧ (∀ r ∈ alg, SqI K H r.2.1 r.2.2 ∧ r.2.1 ≠ a) ∧
  bare alg = bare al ∧ RowsOk al ∧ (∀ w ∈ ss, (getA al w).isSome = true) ∧ ("place" : Str) ∈ ss ∧ (head ∈ ss ∨ head = "nth") ∧ ∀ H', Stp a H H' → Q (.bl true) H'
section
variable {P : Program} {w : World} {K : PySem.W.Frag} {mg : Str → Option Value} {base : Heap}
theorem ok_spots {f : Addr} {fd : FuncData} {k : Nat} (F : Fun K "_law_spots" "_law_spots" s_law_spots f fd) (O_law_take : Ok P w K mg base k "_law_take" P_law_take spTake)
    (O_law_datum : Ok P w K mg base k "_law_datum" P_law_datum spDatum) : FnOk P w K mg base CX0 (k + 1) f fd P_law_spots spSpots := by
  refine F.ok sc_law_spots (fun vs H Q E h => ?_) (fun cdv A outer s H vs Q E hr h => ?_)
  · obtain ⟨a, n, rfl, _⟩ := h
    rfl
  obtain ⟨a, n, rfl, hF, n0, n1, q⟩ := h
  refine ⟨_, (pss_cons (ps_set (i := 2) sc_law_spots.nd rfl (Or.inl rfl) (pe_lst (pa_cons (pe_un un_neg pe_int) (pa_cons pe_int (pa_cons (pe_op op_sub (pv 1) pe_int) (pa_cons (pv 1) (pa_cons (pe_op op_add (pv 1) pe_int) (pa_cons (pe_op op_sub pe_int (pv 1)) (pa_cons (pe_op op_pow pe_int pe_int) (pa_cons (pe_op op_sub pe_int (pe_op op_pow pe_int pe_int)) pa_nil))))))))))
    (pss_one (ps_ret (pe_op op_cat (pv 2) (pe_lst (pa_cons (pe_c O_law_take hr (by rfl) (pa_cons (pv 0) (pa_cons (pe_op op_add (pv 1) pe_int) pa_nil))) (pa_cons (pe_c O_law_take hr (by rfl) (pa_cons (pv 0) (pa_cons (pe_op op_add (pv 1) pe_int) pa_nil))) (pa_cons (pe_c O_law_datum hr (by rfl) (pa_cons (pv 0) pa_nil)) pa_nil)))))))), ?_⟩
  refine ⟨_, rfl, _, rfl, _, _, rfl, rfl, _, rfl, _, rfl, _, _, rfl, rfl, _, rfl, _, _, rfl, rfl, _, _, rfl, rfl, ⟨by decide, by decide, by decide⟩, _, _, rfl, rfl, ⟨by decide, by decide, by decide⟩, _, _, rfl, rfl, (by show 8 ≤ sizeLine; decide), fun l hl => ?_⟩
  have t1 := same_new hl (.lst [.int (-1), .int 0, .int (n - 1), .int n, .int (n + 1), .int (0 - n), .int (10 ^ 12), .int (0 - 10 ^ 12)])
  have la : l ≠ a := by
    obtain ⟨x, y, z, e⟩ := hF
    exact (ne_of_none e hl).symm
  refine ⟨_, rfl, _, rfl, _, rfl, _, _, rfl, rfl, a, n + 1, rfl, hF.same t1, by omega, by omega, fun r1 H1 r10 r11 s1 => ?_⟩
  refine ⟨_, rfl, _, rfl, _, _, rfl, rfl, a, n + 1, rfl, s1.2, by omega, by omega, fun r2 H2 r20 r21 s2 => ?_⟩
  refine ⟨_, rfl, a, rfl, s2.2, fun m H3 lm s3 => ⟨(by show 3 ≤ sizeLine; decide), fun l2 hl2 => ?_⟩⟩
  have el := same_new hl2 (.lst [.int r1, .int r2, .int m]) _ _ (s3.1 _ _ la (s2.1 _ _ la (s1.1 _ _ la upd_same)))
  refine ⟨l, l2, _, _, rfl, rfl, el, upd_same, (by show 11 ≤ sizeLine; decide), fun R hR => ?_⟩
  refine q R [-1, 0, n - 1, n, n + 1, 0 - n, 10 ^ 12, 0 - 10 ^ 12, r1, r2, m] _ ((((Stp.of hF t1).trans (s1.trans (s2.trans s3))).same (same_new hl2 _)).same (same_new hR _)) upd_same fun z hz => ?_
  simp only [List.mem_cons, List.not_mem_nil, or_false] at hz
  unfold Lim at lm ⊢
  omega
theorem ok_spotted {f : Addr} {fd : FuncData} {k : Nat} (F : Fun K "_law_spotted" "_law_spotted" s_law_spotted f fd) (mdict : mg "dict" = none) (O_law_spots : Ok P w K mg base k "_law_spots" P_law_spots spSpots)
    (O_law_valued : Ok P w K mg base k "_law_valued" P_law_valued (spValued K)) : FnOk P w K mg base CX0 (k + 1) f fd P_law_spotted (spSpotted K) := by
  refine F.ok sc_law_spotted (fun vs H Q E h => ?_) (fun cdv A outer s H vs Q E hr h => ?_)
  · obtain ⟨a, pg, dg, ag, da, head, wd, n, al, alg, ss, rfl, _⟩ := h
    rfl
  obtain ⟨a, pg, dg, ag, da, head, wd, n, al, alg, ss, rfl, hF, n0, n1, epg, eag, eda, pga, aga, daa, rA, rG, bg, rok, ka, plc, hd, q⟩ := h
  refine ⟨_, (pss_cons (ps_for PassesOwn.never rfl (pi_list (pe_c O_law_spots hr (by rfl) (pa_cons (pv 0) (pa_cons (pv 5) pa_nil)))) (pg_name (i := 6) sc_law_spotted.nd rfl (Or.inl rfl))
      (pss_cons (ps_set (i := 7) sc_law_spotted.nd rfl (Or.inl rfl) pe_dnewK)
      (pss_cons (ps_dput (hu_of hr) (pv 7) (pv 4) (pv 6) rfl)
      (pss_cons (ps_set (i := 8) sc_law_spotted.nd rfl (Or.inl rfl) (pe_lst (pa_cons (pe_tup (pa_cons pe_str (pa_cons (pv 4) pa_nil))) pa_nil)))
      (C8.pss_cut (ps_if (pt_cmpR op_ge (pv 6) pe_int (nomark _))
        (pss_one (ps_expr (pe_bm PySem.F.plainAttrs_list PySem.F.slot_list_append PySem.F.type_list_append mt_append (pv 8) (pa_cons (pe_tup (pa_cons pe_str (pa_cons (pv 6) pa_nil))) pa_nil))))
        pss_nil)
      (pss_one (ps_for PassesOwn.never rfl (pi_list (pv 8)) (pg_name (i := 9) sc_law_spotted.nd rfl (Or.inl rfl))
        (pss_cons (ps_set (i := 10) sc_law_spotted.nd rfl (Or.inl rfl) (pe_tup (pa_cons pe_str (pa_cons (pv 3) (pa_cons (pv 9) pa_nil)))))
        (C8.pss_cut (ps_if (pt_cmpR op_eq (pv 3) pe_str (nomark _))
          (pss_one (ps_set (i := 10) sc_law_spotted.nd rfl (Or.inl rfl) (pe_tup (pa_cons pe_str (pa_cons pe_str (pa_cons (pe_tup (pa_cons (pv 9) pa_nil)) pa_nil))))))
          pss_nil)
        (pss_one (ps_if (pt_not (pt_val (pe_c O_law_valued hr (by rfl) (pa_cons (pv 10) (pa_cons (pe_lst (pa_cons (pe_callTy call_dictD (by rfl) mdict (by decide +kernel) (pa_cons (pv 7) pa_nil)) (pa_cons (pe_ix ix_list (pv 1) pe_int (fun _ _ => rfl)) pa_nil))) (pa_cons (pv 7) (pa_cons (pv 2) pa_nil)))))))
          (pss_one (ps_ret pe_bl))
          pss_nil)))))))))))
    (pss_one (ps_ret pe_bl))), ?_⟩
  refine ⟨_, rfl, _, rfl, a, n, rfl, hF, n0, n1, fun R xs H1 s1 eR lim => ?_⟩
  have eag1 := s1.1 _ _ aga eag
  have epg1 := s1.1 _ _ pga epg
  have eda1 := s1.1 _ _ daa eda
  have rA1 : RowsAt K H1 al := fun r hr => (rA r hr).1.keep fun o e => s1.1 _ _ (rA r hr).2 e
  have rG1 : RowsAt K H1 alg := fun r hr => (rG r hr).1.keep fun o e => s1.1 _ _ (rG r hr).2 e
  refine ⟨R, rfl, ⟨_, SqL.of eR⟩, ?_⟩
  refine for_list (xs := xs.map V.int) (fun i σ H' => ∃ (y6 y7 y8 y9 y10 : Option V), σ = [some (.ref a), some (.ref pg), some (.ref da), some (.str head), some (.str wd), some (.int n), y6, y7, y8, y9, y10] ∧ Same H1 H')
    ⟨_, _, _, _, _, rfl, Same.refl _⟩ (fun i σ H' _ hv => ?_) (fun i x σ H' hx hv => ?_) (fun σ H' hv => ?_)
  · obtain ⟨y6, y7, y8, y9, y10, rfl, sm⟩ := hv
    exact SqL.of (sm _ _ eR)
  · obtain ⟨y6, y7, y8, y9, y10, rfl, sm⟩ := hv
    obtain ⟨spot, gs, rfl⟩ := map_get hx
    have ls := lim spot (List.mem_of_getElem? gs)
    intro dn hdn
    refine ⟨_, rfl, _, rfl, _, rfl, dn, _, rfl, DPut.k (k := Sum.inr wd) (kvs := dOf V.int []) upd_same (by show 0 < sizeLine; decide), ?_⟩
    rw [putK_d, upd_upd]
    have s4 := same_new hdn (.dK (dOf V.int (putA [] wd spot)))
    refine ⟨_, rfl, (by show 2 ≤ sizeLine; decide), fun t1 ht1 => ⟨(by show 1 ≤ sizeLine; decide), fun I hI => ?_⟩⟩
    have s5 := same_new ht1 (.tup [.str "name", .str wd])
    have s6 := same_new hI (.lst [.ref t1])
    generalize hH6 : upd (upd (upd H' dn (.dK (dOf V.int (putA [] wd spot)))) t1 (.tup [.str "name", .str wd])) I (.lst [.ref t1]) = H6
    have s16 : Same H1 H6 := by rw [← hH6]; exact sm.trans (s4.trans (s5.trans s6))
    have edn6 : H6 dn = some (.dK (dOf V.int (putA [] wd spot))) := by rw [← hH6]; exact s6 _ _ (s5 _ _ upd_same)
    have eI6 : H6 I = some (.lst [.ref t1]) := by rw [← hH6]; exact upd_same
    have et6 : (Ex.nam wd).At K H6 (.ref t1) := ⟨t1, rfl, SqT.of (by rw [← hH6]; exact s6 _ _ upd_same)⟩
    have hI1 : H1 I = none := by
      cases g : H1 I with
      | none => rfl
      | some o => rw [s5 _ _ (s4 _ _ (sm _ _ g))] at hI; cases hI
    have nId : I ≠ dn := fun z => by rw [z, s5 _ _ upd_same] at hI; cases hI
    refine ⟨fun σ7 H7 => ∃ (us : List V), σ7 = [some (.ref a), some (.ref pg), some (.ref da), some (.str head), some (.str wd), some (.int n), some (.int spot), some (.ref dn), some (.ref I), y9, y10] ∧ Same H1 H7 ∧ H7 dn = some (.dK (dOf V.int (putA [] wd spot))) ∧ H7 I = some (.lst us) ∧ (∀ v ∈ us, ∃ e : Ex, e.At K H7 v ∧ e.dep = 1 ∧ e.good [wd] ss) ∧ us.length ≤ 2, ?_, fun σ7 H7 hm => ?_⟩
    · refine ⟨_, rfl, _, _, rfl, rfl, _, rfl, ite2' (fun c => ?_) (fun c => ⟨_, rfl, s16, edn6, eI6, fun v hv => ?_, by show 1 ≤ 2; decide⟩)⟩
      · refine ⟨_, rfl, .inl ⟨rfl, _, SqL.of eI6⟩, _, rfl, (by show 2 ≤ sizeLine; decide), fun t2 ht2 => ?_⟩
        have s7 := same_new ht2 (.tup [.str "number", .int spot])
        refine ⟨I, _, _, rfl, rfl, s7 _ _ eI6, by show 1 < sizeLine; decide, ?_⟩
        have nt1 : t1 ≠ I := fun z => by rw [← z, upd_same] at hI; cases hI
        have nt2 : t2 ≠ I := fun z => by rw [z, eI6] at ht2; cases ht2
        have keepI : ∀ {Hx : Hp} {o : HO}, Same H1 Hx → Same H1 (upd Hx I o) := fun {Hx o} s => same_put s hI1
        refine ⟨[.ref t1, .ref t2], rfl, keepI (s16.trans s7), ?_, upd_same, fun v hv => ?_, Nat.le_refl 2⟩
        · rw [upd_ne nId.symm]; exact s7 _ _ edn6
        · simp only [List.mem_cons, List.not_mem_nil, or_false] at hv
          rcases hv with rfl | rfl
          · refine ⟨Ex.nam wd, ⟨t1, rfl, SqT.of ?_⟩, rfl, List.mem_cons_self ..⟩
            rw [upd_ne nt1]
            refine s7 _ _ ?_
            rw [← hH6]; exact s6 _ _ upd_same
          · refine ⟨Ex.num spot, ⟨t2, rfl, SqT.of ?_⟩, rfl, c, ls.2⟩
            rw [upd_ne nt2]; exact upd_same
      · rw [List.mem_singleton.mp hv]
        exact ⟨Ex.nam wd, et6, rfl, List.mem_cons_self ..⟩
    obtain ⟨us, rfl, s17, edn7, eI7, hus, lus⟩ := hm
    refine ⟨_, rfl, I, rfl, ⟨_, SqL.of eI7⟩, ?_⟩
    refine for_list (xs := us) (fun i σ H8 => ∃ (y9 y10 : Option V), σ = [some (.ref a), some (.ref pg), some (.ref da), some (.str head), some (.str wd), some (.int n), some (.int spot), some (.ref dn), some (.ref I), y9, y10] ∧ Same H7 H8)
      ⟨_, _, rfl, Same.refl _⟩ (fun i σ H8 _ hv => ?_) (fun j v σ H8 hx hv => ?_) (fun σ H8 hv => ?_)
    · obtain ⟨y9, y10, rfl, sm⟩ := hv
      exact SqL.of (sm _ _ eI7)
    · obtain ⟨y9, y10, rfl, sm8⟩ := hv
      obtain ⟨e0, at0, dep0, good0⟩ := hus v (List.mem_of_getElem? hx)
      have at8 := at0.tu (Same.tu sm8)
      refine ⟨_, rfl, _, rfl, (by show 3 ≤ sizeLine; decide), fun t3 ht3 => ?_⟩
      have s9 := same_new ht3 (.tup [.str "read", .str head, v])
      refine ⟨fun σ9 H9 => ∃ (v9 : V) (e9 : Ex), σ9 = [some (.ref a), some (.ref pg), some (.ref da), some (.str head), some (.str wd), some (.int n), some (.int spot), some (.ref dn), some (.ref I), some v, some v9] ∧ Same H8 H9 ∧ e9.At K H9 v9 ∧ e9.dep ≤ 12 ∧ e9.good [wd] ss, ?_, fun σ9 H9 hm => ?_⟩
      · refine ⟨_, rfl, rfl, _, rfl, ite2 (fun c => ?_) (fun c => ?_)⟩
        · refine ⟨_, rfl, (by show 1 ≤ sizeLine; decide), fun t4 ht4 => ⟨(by show 3 ≤ sizeLine; decide), fun t5 ht5 => ?_⟩⟩
          have s10 := same_new ht4 (.tup [v])
          have s11 := same_new ht5 (.tup [.str "call", .str "nth", .ref t4])
          exact ⟨.ref t5, Ex.c1 "nth" e0, rfl, s9.trans (s10.trans s11), ⟨t5, t4, v, rfl, SqT.of upd_same, SqT.of (s11 _ _ upd_same), at8.tu (Same.tu (s9.trans (s10.trans s11)))⟩, by show e0.dep + 1 ≤ 12; omega, rfl, good0⟩
        · have hin : head ∈ ss := by
            rcases hd with h | h
            · exact h
            · exact absurd (decide_eq_true (by rw [h])) c
          exact ⟨.ref t3, Ex.rd head e0, rfl, s9, ⟨t3, v, rfl, SqT.of upd_same, at8.tu (Same.tu s9)⟩, by show e0.dep + 1 ≤ 12; omega, hin, good0⟩
      obtain ⟨v9, e9, rfl, s89, at9, dep9, good9⟩ := hm
      have s79 := sm8.trans s89
      have s19 := s17.trans s79
      have edn9 := s79 _ _ edn7
      refine ⟨_, rfl, _, rfl, dn, _, rfl, Rd.of edn9, fun d2 hd2 => ?_⟩
      have u2 := same_new hd2 (.dK (dOf V.int (putA [] wd spot)))
      have s1u := s19.trans u2
      have q1 := s1u _ _ epg1
      refine ⟨_, rfl, _, _, _, _, rfl, rfl, (SqL.of q1), atI_nat (j := 1) rfl, (by show 2 ≤ sizeLine; decide), fun lg hlg => ⟨_, rfl, _, rfl, ?_⟩⟩
      have u3 := same_new hlg (.lst [.ref d2, .ref ag])
      have ua := u2.trans u3
      have s1a := s19.trans ua
      have nlim : ∀ p ∈ putA ([] : List (Str × Int)) wd spot, Lim p.2 := fun p hp => by
        rcases mem_put hp with z | z
        · cases z
        · rw [z]; exact ls
      have gw : ∀ z ∈ [wd], (getA (putA ([] : List (Str × Int)) wd spot) z).isSome = true := fun z hz => by
        rw [getA_put, List.mem_singleton.mp hz, if_pos rfl]
        rfl
      refine ⟨v9, e9, lg, d2, ag, dn, da, nmF (putA [] wd spot), arF al, [wd], ss, rfl, at9.tu (Same.tu ua), dep9, good9, .inl plc, upd_same, ?_, ?_, fun H10 s10 => ⟨_, rfl, iteF ⟨_, _, rfl, sm8.trans (s89.trans (ua.trans s10))⟩⟩⟩
      · exact mem_al (u3 _ _ upd_same) (s1a _ _ eag1) (fun r hr => (rG1 r hr).same s1a) bg nlim rok.lim gw ka
      · exact mem_al (ua _ _ edn9) (s1a _ _ eda1) (fun r hr => (rA1 r hr).same s1a) rfl nlim rok.lim gw ka
    · obtain ⟨y9, y10, rfl, sm8⟩ := hv
      exact ⟨_, _, _, _, _, rfl, s17.trans sm8⟩
  · obtain ⟨y6, y7, y8, y9, y10, rfl, sm⟩ := hv
    exact q H' (s1.same sm)
end
end K01
namespace K01
open PySem L2 Vk
def spPicked : Sp := fun vs H Q _ => ∃ (a : Addr) (wd : Str), vs = [.ref a, .str wd] ∧ Fd H a ∧ wd.length ≤ 100 ∧ ∀ H', Stp a H H' → Q (.bl true) H'
theorem three {j : Nat} (h : j < 3) : 0 ≤ ((0 : Int) + (j : Nat)) ∧ ((0 : Int) + (j : Nat)) < 3 := by omega
section
variable {P : Program} {w : World} {K : PySem.W.Frag} {mg : Str → Option Value} {base : Heap}
theorem ok_picked {f : Addr} {fd : FuncData} {k : Nat} (F : Fun K "_law_picked" "_law_picked" s_law_picked f fd) (mdict : mg "dict" = none) (mrange : mg "range" = none) (O_law_take : Ok P w K mg base k "_law_take" P_law_take spTake)
    (O_law_datum : Ok P w K mg base k "_law_datum" P_law_datum spDatum) (O_law_clip : Ok P w K mg base k "_law_clip" P_law_clip spClip) (O_law_valued : Ok P w K mg base k "_law_valued" P_law_valued (spValued K)) : FnOk P w K mg base CX0 (k + 1) f fd P_law_picked spPicked := by
  refine F.ok sc_law_picked (fun vs H Q E h => ?_) (fun cdv A outer s H vs Q E hr h => ?_)
  · obtain ⟨a, wd, rfl, _⟩ := h
    rfl
  obtain ⟨a, wd, rfl, hF, wl, q⟩ := h
  refine ⟨_, (pss_cons (ps_set (i := 2) sc_law_picked.nd rfl (Or.inl rfl) (pe_lst (pa_cons (pe_op op_add_str (pe_slice sl_str (pv 1) po_none (po_some pe_int)) pe_str) (pa_cons (pe_op op_add_str (pe_slice sl_str (pv 1) po_none (po_some pe_int)) pe_str) (pa_cons (pe_op op_add_str (pe_slice sl_str (pv 1) po_none (po_some pe_int)) pe_str) pa_nil)))))
    (pss_cons (ps_set (i := 3) sc_law_picked.nd rfl (Or.inl rfl) (pe_tup (pa_cons (pe_tup (pa_cons pe_str (pa_cons (pe_ix ix_list (pv 2) pe_int (fun _ _ => rfl)) pa_nil))) (pa_cons (pe_tup (pa_cons pe_str (pa_cons (pe_ix ix_list (pv 2) pe_int (fun _ _ => rfl)) pa_nil))) (pa_cons (pe_tup (pa_cons pe_str (pa_cons (pe_ix ix_list (pv 2) pe_int (fun _ _ => rfl)) pa_nil))) pa_nil)))))
    (pss_cons (ps_set (i := 4) sc_law_picked.nd rfl (Or.inl rfl) (pe_c O_law_datum hr (by rfl) (pa_cons (pv 0) pa_nil)))
    (pss_cons (ps_set (i := 5) sc_law_picked.nd rfl (Or.inl rfl) (pe_c O_law_datum hr (by rfl) (pa_cons (pv 0) pa_nil)))
    (C8.pss_cut (ps_if (pt_cmpR op_eq (pe_c O_law_take hr (by rfl) (pa_cons (pv 0) (pa_cons pe_int pa_nil))) pe_int (nomark _))
      (pss_one (ps_set (i := 5) sc_law_picked.nd rfl (Or.inl rfl) (pe_c O_law_clip hr (by rfl) (pa_cons (pe_op op_sub (pe_op op_add (pv 4) pe_int) (pe_op op_mul pe_int (pe_c O_law_take hr (by rfl) (pa_cons (pv 0) (pa_cons pe_int pa_nil))))) pa_nil))))
      pss_nil)
    (pss_cons (ps_for PassesOwn.never rfl (pi_range1 (by rfl) mrange (pa_cons pe_int pa_nil)) (pg_name (i := 6) sc_law_picked.nd rfl (Or.inl rfl))
      (pss_cons (ps_set (i := 7) sc_law_picked.nd rfl (Or.inl rfl) pe_dnewK)
      (pss_cons (ps_dput (hu_of hr) (pv 7) (pe_ix ix_list (pv 2) pe_int (fun _ _ => rfl)) (pe_ix ix_list (pe_lst (pa_cons (pv 4) (pa_cons (pv 5) (pa_cons (pv 4) pa_nil)))) (pv 6) (fun _ _ => rfl)) rfl)
      (pss_cons (ps_dput (hu_of hr) (pv 7) (pe_ix ix_list (pv 2) pe_int (fun _ _ => rfl)) (pe_ix ix_list (pe_lst (pa_cons (pv 5) (pa_cons (pv 4) (pa_cons (pv 4) pa_nil)))) (pv 6) (fun _ _ => rfl)) rfl)
      (pss_cons (ps_for PassesOwn.never rfl (pi_list (pe_lst (pa_cons pe_str (pa_cons pe_str pa_nil)))) (pg_name (i := 8) sc_law_picked.nd rfl (Or.inl rfl))
        (pss_one (ps_if (pt_not (pt_val (pe_c O_law_valued hr (by rfl) (pa_cons (pe_tup (pa_cons pe_str (pa_cons (pv 8) (pa_cons (pe_tup (pa_cons (pe_ix ix_tup (pv 3) pe_int (fun _ _ => rfl)) (pa_cons (pe_ix ix_tup (pv 3) pe_int (fun _ _ => rfl)) pa_nil))) pa_nil)))) (pa_cons (pe_lst (pa_cons (pe_callTy call_dictD (by rfl) mdict (by decide +kernel) (pa_cons (pv 7) pa_nil)) (pa_cons pe_dnewK pa_nil))) (pa_cons (pv 7) (pa_cons pe_dnewK pa_nil)))))))
          (pss_one (ps_ret pe_bl))
          pss_nil)))
      (pss_one (ps_for PassesOwn.never rfl (pi_list (pe_lst (pa_cons pe_int (pa_cons pe_int (pa_cons (pe_un un_neg pe_int) (pa_cons (pe_c O_law_datum hr (by rfl) (pa_cons (pv 0) pa_nil)) (pa_cons (pe_op op_pow pe_int pe_int) (pa_cons (pe_op op_sub pe_int (pe_op op_pow pe_int pe_int)) pa_nil)))))))) (pg_name (i := 9) sc_law_picked.nd rfl (Or.inl rfl))
        (pss_cons (ps_dput (hu_of hr) (pv 7) (pe_ix ix_list (pv 2) pe_int (fun _ _ => rfl)) (pv 9) rfl)
        (pss_one (ps_if (pt_not (pt_val (pe_c O_law_valued hr (by rfl) (pa_cons (pe_tup (pa_cons pe_str (pa_cons pe_str (pa_cons (pv 3) pa_nil)))) (pa_cons (pe_lst (pa_cons (pe_callTy call_dictD (by rfl) mdict (by decide +kernel) (pa_cons (pv 7) pa_nil)) (pa_cons pe_dnewK pa_nil))) (pa_cons (pv 7) (pa_cons pe_dnewK pa_nil)))))))
          (pss_one (ps_ret pe_bl))
          pss_nil))))))))))
    (pss_one (ps_ret pe_bl)))))))), ?_⟩
  have cl : (cutS wd none (some 10)).length ≤ 10 := by
    have := len_head wd 10
    rw [show (10 : Int) = ((10 : Nat) : Int) from rfl, this]
    omega
  refine ⟨_, rfl, 10, rfl, wd, rfl, small_line (by omega), _, _, rfl, rfl, small_line (by show _ + 1 ≤ 1000; omega), ?_⟩
  refine ⟨_, rfl, 10, rfl, wd, rfl, small_line (by omega), _, _, rfl, rfl, small_line (by show _ + 1 ≤ 1000; omega), ?_⟩
  refine ⟨_, rfl, 10, rfl, wd, rfl, small_line (by omega), _, _, rfl, rfl, small_line (by show _ + 1 ≤ 1000; omega), (by show 3 ≤ sizeLine; decide), fun W hW => ?_⟩
  generalize (cutS wd none (some 10) ++ ("0" : Str)) = w0
  generalize (cutS wd none (some 10) ++ ("1" : Str)) = w1
  generalize (cutS wd none (some 10) ++ ("2" : Str)) = w2
  have t0 := same_new hW (.lst [.str w0, .str w1, .str w2])
  have eW0 : (upd H W (.lst [.str w0, .str w1, .str w2])) W = some (.lst [.str w0, .str w1, .str w2]) := upd_same
  have Wa : W ≠ a := by
    obtain ⟨x, y, z, e⟩ := hF
    exact (ne_of_none e hW).symm
  generalize hHa : upd H W (.lst [.str w0, .str w1, .str w2]) = Ha at *
  refine ⟨_, rfl, _, _, _, _, rfl, rfl, (SqL.of eW0), atI_nat (j := 0) rfl, (by show 2 ≤ sizeLine; decide), fun p0 h0 => ?_⟩
  have t1 := same_new h0 (.tup [.str "name", .str w0])
  have eW1 := t1 _ _ eW0
  refine ⟨_, rfl, _, _, _, _, rfl, rfl, (SqL.of eW1), atI_nat (j := 1) rfl, (by show 2 ≤ sizeLine; decide), fun p1 h1 => ?_⟩
  have t2 := same_new h1 (.tup [.str "name", .str w1])
  have eW2 := t2 _ _ eW1
  refine ⟨_, rfl, _, _, _, _, rfl, rfl, (SqL.of eW2), atI_nat (j := 2) rfl, (by show 2 ≤ sizeLine; decide), fun p2 h2 => ⟨(by show 3 ≤ sizeLine; decide), fun pp hpp => ?_⟩⟩
  have t3 := same_new h2 (.tup [.str "name", .str w2])
  have t4 := same_new hpp (.tup [.ref p0, .ref p1, .ref p2])
  have a0 : (Ex.nam w0).At K (upd (upd (upd (upd Ha p0 (.tup [.str "name", .str w0])) p1 (.tup [.str "name", .str w1])) p2 (.tup [.str "name", .str w2])) pp (.tup [.ref p0, .ref p1, .ref p2])) (.ref p0) := ⟨p0, rfl, SqT.of (t4 _ _ (t3 _ _ (t2 _ _ upd_same)))⟩
  have a1 : (Ex.nam w1).At K (upd (upd (upd (upd Ha p0 (.tup [.str "name", .str w0])) p1 (.tup [.str "name", .str w1])) p2 (.tup [.str "name", .str w2])) pp (.tup [.ref p0, .ref p1, .ref p2])) (.ref p1) := ⟨p1, rfl, SqT.of (t4 _ _ (t3 _ _ upd_same))⟩
  have a2 : (Ex.nam w2).At K (upd (upd (upd (upd Ha p0 (.tup [.str "name", .str w0])) p1 (.tup [.str "name", .str w1])) p2 (.tup [.str "name", .str w2])) pp (.tup [.ref p0, .ref p1, .ref p2])) (.ref p2) := ⟨p2, rfl, SqT.of (t4 _ _ upd_same)⟩
  have aP : SqT K (upd (upd (upd (upd Ha p0 (.tup [.str "name", .str w0])) p1 (.tup [.str "name", .str w1])) p2 (.tup [.str "name", .str w2])) pp (.tup [.ref p0, .ref p1, .ref p2])) pp [.ref p0, .ref p1, .ref p2] := SqT.of upd_same
  have eWb := t4 _ _ (t3 _ _ eW2)
  have g0 := t0.trans (t1.trans (t2.trans (t3.trans t4)))
  generalize hHb : upd (upd (upd (upd Ha p0 (.tup [.str "name", .str w0])) p1 (.tup [.str "name", .str w1])) p2 (.tup [.str "name", .str w2])) pp (.tup [.ref p0, .ref p1, .ref p2]) = Hb at *
  have fb := hF.same g0
  refine ⟨_, rfl, a, rfl, fb, fun x H3 lx s3 => ⟨_, rfl, a, rfl, s3.2, fun y H4 ly s4 => ?_⟩⟩
  refine ⟨fun σ' H' => ∃ y : Int, σ' = [some (.ref a), some (.str wd), some (.ref W), some (.ref pp), some (.int x), some (.int y), none, none, none, none] ∧ Stp a Hb H' ∧ Lim y, ?_, fun σ' H' hm => ?_⟩
  · refine rd_take rfl s4.2 (by decide) (by decide) fun r5 H5 _ _ s5 => ⟨rfl, _, rfl, ite2 (fun c => ?_) (fun c => ⟨y, rfl, s3.trans (s4.trans s5), ly⟩)⟩
    refine ⟨_, rfl, _, _, rfl, rfl, rd_take rfl s5.2 (by decide) (by decide) fun r6 H6 _ _ s6 => ⟨_, _, rfl, rfl, .inl ⟨by omega, by omega⟩, _, _, rfl, rfl, _, rfl, _, rfl, s3.trans (s4.trans (s5.trans s6)), clip_lim⟩⟩
  obtain ⟨y, rfl, sb, ly⟩ := hm
  refine ⟨3, rfl, by decide, by decide, for_range (n := 3) (fun j σ Hc => ∃ y6 y7 y8 y9 : Option V, σ = [some (.ref a), some (.str wd), some (.ref W), some (.ref pp), some (.int x), some (.int y), y6, y7, y8, y9] ∧ Stp a Hb Hc)
    ⟨_, _, _, _, rfl, sb⟩ (fun j σ Hc hj hv => ?_) (fun σ Hc hv => ?_)⟩
  · obtain ⟨y6, y7, y8, y9, rfl, sc⟩ := hv
    have fj := three hj
    intro dn hdn
    have dna : dn ≠ a := by
      obtain ⟨x, y, z, e⟩ := sc.2
      exact (ne_of_none e hdn).symm
    have dnb : Hb dn = none := by
      cases g : Hb dn with
      | none => rfl
      | some o => rw [sc.1 _ _ dna g] at hdn; cases hdn
    -- the frame
    have put : ∀ {Hx : Hp} {o : HO}, Stp a Hb Hx → Stp a Hb (upd Hx dn o) := fun {Hx o} s => ⟨fun b o' nb e => by rw [upd_ne (ne_of_none e dnb)]; exact s.1 b o' nb e, by
      obtain ⟨x, y, z, e⟩ := s.2
      exact ⟨x, y, z, by rw [upd_ne dna.symm]; exact e⟩⟩
    have sd := put (o := .dK []) sc
    refine ⟨_, rfl, _, rfl, _, rfl, (by show 3 ≤ sizeLine; decide), fun l1 hl1 => ⟨_, rfl, ?_⟩⟩
    obtain ⟨v1, vm1, ev1⟩ := atI_in (xs := ([x, y, x] : List Int).map V.int) fj.1 fj.2
    obtain ⟨u1, um1, rfl⟩ := List.mem_map.mp vm1
    have q1 := same_new hl1 (.lst [.int x, .int y, .int x])
    have sd1 := sd.same q1
    have ew1 := sd1.1 _ _ Wa eWb
    refine ⟨_, _, _, _, rfl, rfl, SqL.of upd_same, ev1, _, rfl, _, rfl, _, _, _, _, rfl, rfl, (SqL.of ew1), atI_nat (j := 1) rfl, dn, _, rfl, DPut.k (k := Sum.inr w1) (kvs := dOf V.int []) (q1 _ _ upd_same) (by show 0 < sizeLine; decide), ?_⟩
    rw [putK_d]
    have sd2 := put (o := .dK (dOf V.int (putA [] w1 u1))) sd1
    have edn2 : (upd (upd (upd Hc dn (.dK [])) l1 (.lst [.int x, .int y, .int x])) dn (.dK (dOf V.int (putA [] w1 u1)))) dn = some (.dK (dOf V.int (putA [] w1 u1))) := upd_same
    generalize hHd : upd (upd (upd Hc dn (.dK [])) l1 (.lst [.int x, .int y, .int x])) dn (.dK (dOf V.int (putA [] w1 u1))) = Hd at *
    refine ⟨_, rfl, _, rfl, _, rfl, (by show 3 ≤ sizeLine; decide), fun l2 hl2 => ⟨_, rfl, ?_⟩⟩
    obtain ⟨v2, vm2, ev2⟩ := atI_in (xs := ([y, x, x] : List Int).map V.int) fj.1 fj.2
    obtain ⟨u2, um2, rfl⟩ := List.mem_map.mp vm2
    have q2 := same_new hl2 (.lst [.int y, .int x, .int x])
    have sd3 := sd2.same q2
    have ew2 := sd3.1 _ _ Wa eWb
    refine ⟨_, _, _, _, rfl, rfl, SqL.of upd_same, ev2, _, rfl, _, rfl, _, _, _, _, rfl, rfl, (SqL.of ew2), atI_nat (j := 2) rfl, dn, _, rfl, DPut.k (k := Sum.inr w2) (kvs := dOf V.int (putA [] w1 u1)) (q2 _ _ edn2) (by show 1 < sizeLine; decide), ?_⟩
    rw [putK_d]
    have sd4 := put (o := .dK (dOf V.int (putA (putA [] w1 u1) w2 u2))) sd3
    have edn4 : (upd (upd Hd l2 (.lst [.int y, .int x, .int x])) dn (.dK (dOf V.int (putA (putA [] w1 u1) w2 u2)))) dn = some (.dK (dOf V.int (putA (putA [] w1 u1) w2 u2))) := upd_same
    generalize hHe : upd (upd Hd l2 (.lst [.int y, .int x, .int x])) dn (.dK (dOf V.int (putA (putA [] w1 u1) w2 u2))) = He at *
    have lu : ∀ u, u ∈ ([x, y, x] : List Int) ∨ u ∈ ([y, x, x] : List Int) → Lim u := fun u hu => by
      simp only [List.mem_cons, List.not_mem_nil, or_false] at hu
      rcases hu with (rfl | rfl | rfl) | (rfl | rfl | rfl) <;> assumption
    have nlim : ∀ p ∈ putA (putA ([] : List (Str × Int)) w1 u1) w2 u2, Lim p.2 := fun p hp => by
      rcases mem_put hp with z | z
      · rcases mem_put z with z | z
        · cases z
        · rw [z]; exact lu _ (.inl um1)
      · rw [z]; exact lu _ (.inr um2)
    have gw : ∀ z ∈ [w1, w2], (getA (putA (putA ([] : List (Str × Int)) w1 u1) w2 u2) z).isSome = true := fun z hz => by
      rw [getA_put]
      split
      · rfl
      · rw [getA_put]
        split
        · rfl
        · rename_i n1 n2
          simp only [List.mem_cons, List.not_mem_nil, or_false] at hz
          rcases hz with h | h
          · exact absurd h n2
          · exact absurd h n1
    have nz : (putA (putA ([] : List (Str × Int)) w1 u1) w2 u2).length ≤ 2 := Nat.le_trans len_put (Nat.succ_le_succ len_put)
    generalize putA (putA ([] : List (Str × Int)) w1 u1) w2 u2 = nl at *
    have noRows : ∀ {Hx : Hp}, RowsAt K Hx [] := fun {Hx} p hp => by cases hp
    -- min, max
    refine ⟨(by show 2 ≤ sizeLine; decide), fun lc hlc => ⟨lc, rfl, ⟨_, SqL.of upd_same⟩, ?_⟩⟩
    have q3 := same_new hlc (.lst [.str "min", .str "max"])
    have elc : (upd He lc (.lst [.str "min", .str "max"])) lc = some (.lst [.str "min", .str "max"]) := upd_same
    have sf := sd4.same q3
    have ednf := q3 _ _ edn4
    generalize hHf : upd He lc (.lst [.str "min", .str "max"]) = Hf at *
    refine for_list (xs := [V.str "min", V.str "max"]) (fun i σ Hg => ∃ y8 : Option V, σ = [some (.ref a), some (.str wd), some (.ref W), some (.ref pp), some (.int x), some (.int y), some (.int (0 + j)), some (.ref dn), y8, y9] ∧ Same Hf Hg)
      ⟨_, rfl, Same.refl _⟩ (fun i σ Hg _ hv => ?_) (fun i cv σ Hg hx hv => ?_) (fun σ Hg hv => ?_)
    · obtain ⟨y8, rfl, sg⟩ := hv
      exact SqL.of (sg _ _ elc)
    · obtain ⟨y8, rfl, sg⟩ := hv
      obtain ⟨cs, ccs, rfl⟩ : ∃ cs : Str, (cs = "min" ∨ cs = "max") ∧ cv = .str cs := by
        have := List.mem_of_getElem? hx
        simp only [List.mem_cons, List.not_mem_nil, or_false] at this
        rcases this with rfl | rfl
        · exact ⟨_, .inl rfl, rfl⟩
        · exact ⟨_, .inr rfl, rfl⟩
      have sbg := sf.same sg
      have tug := sbg.tu (K := K) fb
      have hPg := tug _ _ aP
      refine ⟨_, rfl, _, rfl, _, _, _, _, rfl, rfl, hPg, atI_nat (j := 1) rfl, _, rfl, _, _, _, _, rfl, rfl, hPg, atI_nat (j := 2) rfl, (by show 2 ≤ sizeLine; decide), fun t5 ht5 => ⟨(by show 3 ≤ sizeLine; decide), fun t6 ht6 => ?_⟩⟩
      have r5 := same_new ht5 (.tup [.ref p1, .ref p2])
      have r6 := same_new ht6 (.tup [.str "call", .str cs, .ref t5])
      have r56 := r5.trans r6
      have edn6 := r56 _ _ (sg _ _ ednf)
      refine ⟨_, rfl, dn, _, rfl, Rd.of edn6, fun d2 hd2 => ?_⟩
      intro d3 hd3
      refine ⟨(by show 2 ≤ sizeLine; decide), fun lg hlg => ⟨_, rfl, ?_⟩⟩
      intro d4 hd4
      have v2 := same_new hd2 (.dK (dOf V.int nl))
      have v3 := same_new hd3 (.dK (dOf rf []))
      have v4 := same_new hlg (.lst [.ref d2, .ref d3])
      have v5 := same_new hd4 (.dK (dOf rf []))
      have va := v2.trans (v3.trans (v4.trans v5))
      have r6a := r6.trans va
      have r5a := r5.trans r6a
      exact ⟨.ref t6, Ex.c2 cs (.nam w1) (.nam w2), lg, d2, d3, dn, d4, nmF nl, arF [], [w1, w2], [], rfl,
        ⟨t6, t5, .ref p1, .ref p2, rfl, SqT.of (va _ _ upd_same), SqT.of (r6a _ _ upd_same), (a1.tu tug).tu (Same.tu r5a), (a2.tu tug).tu (Same.tu r5a)⟩,
        (by show max 1 1 + 1 ≤ 12; decide), ⟨ccs, List.mem_cons_self .., List.mem_cons_of_mem _ (List.mem_cons_self ..)⟩, .inr ⟨trivial, trivial⟩, v5 _ _ upd_same,
        mem_mk (al := []) ((v3.trans (v4.trans v5)) _ _ upd_same) ((v4.trans v5) _ _ upd_same) nlim (fun p hp => by cases hp) noRows gw (fun z hz => by cases hz),
        mem_mk (al := []) (va _ _ edn6) upd_same nlim (fun p hp => by cases hp) noRows gw (fun z hz => by cases hz), fun H8 s8 => ⟨_, rfl, iteF ⟨_, rfl, sg.trans (r5a.trans s8)⟩⟩⟩
    obtain ⟨y8, rfl, sg⟩ := hv
    have sbg := sf.same sg
    have edng := sg _ _ ednf
    -- pick
    refine ⟨_, rfl, _, rfl, a, rfl, sbg.2, fun m Hm lm sm => ⟨_, _, rfl, rfl, ⟨by decide, by decide, by decide⟩, _, _, rfl, rfl, ⟨by decide, by decide, by decide⟩, _, _, rfl, rfl, (by show 6 ≤ sizeLine; decide), fun lk hlk => ⟨lk, rfl, ⟨_, SqL.of upd_same⟩, ?_⟩⟩⟩
    have sbm := sbg.trans sm
    have q4 := same_new hlk (.lst [.int 0, .int 1, .int (-1), .int m, .int (10 ^ 12), .int (0 - 10 ^ 12)])
    have elk : (upd Hm lk (.lst [.int 0, .int 1, .int (-1), .int m, .int (10 ^ 12), .int (0 - 10 ^ 12)])) lk = some (.lst [.int 0, .int 1, .int (-1), .int m, .int (10 ^ 12), .int (0 - 10 ^ 12)]) := upd_same
    have sk := sbm.same q4
    have ednm := sm.1 _ _ dna edng
    have ednk := q4 _ _ ednm
    have lkd : lk ≠ dn := fun z => by rw [z, ednm] at hlk; cases hlk
    refine for_list (xs := ([0, 1, -1, m, 10 ^ 12, 0 - 10 ^ 12] : List Int).map V.int) (fun i σ Hg => ∃ (y9 : Option V) (nl' : List (Str × Int)), σ = [some (.ref a), some (.str wd), some (.ref W), some (.ref pp), some (.int x), some (.int y), some (.int (0 + j)), some (.ref dn), y8, y9] ∧ Stp a Hb Hg ∧ Hg lk = some (.lst [.int 0, .int 1, .int (-1), .int m, .int (10 ^ 12), .int (0 - 10 ^ 12)]) ∧ Hg dn = some (.dK (dOf V.int nl')) ∧ (∀ p ∈ nl', Lim p.2) ∧ (∀ z ∈ [w1, w2], (getA nl' z).isSome = true) ∧ nl'.length ≤ 2 + i)
      ⟨_, nl, rfl, sk, elk, ednk, nlim, gw, nz⟩ (fun i σ Hg _ hv => ?_) (fun i cv σ Hg hx hv => ?_) (fun σ Hg hv => ?_)
    · obtain ⟨y9, nl', rfl, sg, el, ed, nlm, gw', nz'⟩ := hv
      exact SqL.of el
    · obtain ⟨y9, nl', rfl, sg, el, ed, nlm, gw', nz'⟩ := hv
      obtain ⟨ck, gk, rfl⟩ := map_get hx
      have il : i < 6 := (List.getElem?_eq_some_iff.mp gk).1
      have lck : Lim ck := by
        have := List.mem_of_getElem? gk
        simp only [List.mem_cons, List.not_mem_nil, or_false] at this
        unfold Lim at lm ⊢
        omega
      have ewg := sg.1 _ _ Wa eWb
      refine ⟨_, rfl, _, rfl, _, rfl, _, _, _, _, rfl, rfl, (SqL.of ewg), atI_nat (j := 0) rfl, dn, _, rfl, DPut.k (k := Sum.inr w0) (kvs := dOf V.int nl') ed ?_, ?_⟩
      · show (List.map _ nl').length < _
        rw [List.length_map]
        exact small1000 (by omega)
      rw [putK_d]
      have sp := put (o := .dK (dOf V.int (putA nl' w0 ck))) sg
      have edp : (upd Hg dn (.dK (dOf V.int (putA nl' w0 ck)))) dn = some (.dK (dOf V.int (putA nl' w0 ck))) := upd_same
      have elp : (upd Hg dn (.dK (dOf V.int (putA nl' w0 ck)))) lk = some (.lst [.int 0, .int 1, .int (-1), .int m, .int (10 ^ 12), .int (0 - 10 ^ 12)]) := by rw [upd_ne lkd]; exact el
      have nlm2 : ∀ p ∈ putA nl' w0 ck, Lim p.2 := fun p hp => by
        rcases mem_put hp with z | z
        · exact nlm p z
        · rw [z]; exact lck
      have gw2 : ∀ z ∈ [w0, w1, w2], (getA (putA nl' w0 ck) z).isSome = true := fun z hz => by
        rw [getA_put]
        split
        · rfl
        · rename_i n1
          rcases List.mem_cons.mp hz with h | h
          · exact absurd h n1
          · exact gw' z h
      have nz2 : (putA nl' w0 ck).length ≤ 2 + (i + 1) := Nat.le_trans len_put (by omega)
      generalize hHp : upd Hg dn (.dK (dOf V.int (putA nl' w0 ck))) = Hq at *
      have tuq := sp.tu (K := K) fb
      refine ⟨_, rfl, (by show 3 ≤ sizeLine; decide), fun t6 ht6 => ?_⟩
      have r6 := same_new ht6 (.tup [.str "call", .str "pick", .ref pp])
      have edn6 := r6 _ _ edp
      refine ⟨_, rfl, dn, _, rfl, Rd.of edn6, fun d2 hd2 => ?_⟩
      intro d3 hd3
      refine ⟨(by show 2 ≤ sizeLine; decide), fun lg hlg => ⟨_, rfl, ?_⟩⟩
      intro d4 hd4
      have v2 := same_new hd2 (.dK (dOf V.int (putA nl' w0 ck)))
      have v3 := same_new hd3 (.dK (dOf rf []))
      have v4 := same_new hlg (.lst [.ref d2, .ref d3])
      have v5 := same_new hd4 (.dK (dOf rf []))
      have va := v2.trans (v3.trans (v4.trans v5))
      have r6a := r6.trans va
      have mw : ∀ z ∈ [w1, w2], z ∈ [w0, w1, w2] := fun z hz => List.mem_cons_of_mem _ hz
      exact ⟨.ref t6, Ex.c3 "pick" (.nam w0) (.nam w1) (.nam w2), lg, d2, d3, dn, d4, nmF (putA nl' w0 ck), arF [], [w0, w1, w2], [], rfl,
        ⟨t6, pp, .ref p0, .ref p1, .ref p2, rfl, SqT.of (va _ _ upd_same), Same.tu r6a _ _ (tuq _ _ aP), (a0.tu tuq).tu (Same.tu r6a), (a1.tu tuq).tu (Same.tu r6a), (a2.tu tuq).tu (Same.tu r6a)⟩,
        (by show max 1 (max 1 1) + 1 ≤ 12; decide), ⟨rfl, List.mem_cons_self .., mw _ (List.mem_cons_self ..), mw _ (List.mem_cons_of_mem _ (List.mem_cons_self ..))⟩, .inr ⟨trivial, trivial, trivial⟩, v5 _ _ upd_same,
        mem_mk (al := []) ((v3.trans (v4.trans v5)) _ _ upd_same) ((v4.trans v5) _ _ upd_same) nlm2 (fun p hp => by cases hp) noRows gw2 (fun z hz => by cases hz),
        mem_mk (al := []) (va _ _ edn6) upd_same nlm2 (fun p hp => by cases hp) noRows gw2 (fun z hz => by cases hz), fun H8 s8 => ⟨_, rfl, iteF ⟨_, putA nl' w0 ck, rfl, sp.same (r6a.trans s8), (r6a.trans s8) _ _ elp, (r6a.trans s8) _ _ edp, nlm2, fun z hz => gw2 z (mw z hz), nz2⟩⟩⟩
    · obtain ⟨y9, nl', rfl, sg, el, ed, nlm, gw', nz'⟩ := hv
      exact ⟨_, _, _, _, rfl, sg⟩
  · obtain ⟨y6, y7, y8, y9, rfl, sc⟩ := hv
    exact q Hc ((Stp.of hF g0).trans sc)
end
end K01
namespace K01
open PySem L2 Vk
def spLaw (K : PySem.W.Frag) : Sp := fun vs H Q _ => ∃ (a : Addr) (ns : List Int), vs = [.ref a] ∧ SqL K H a (ns.map V.int) ∧ ns.length ≤ 63 ∧ ∀ H', Q (.bl true) H'
section
variable {P : Program} {w : World} {K : PySem.W.Frag} {mg : Str → Option Value} {base : Heap}
set_option maxHeartbeats 1000000 in
theorem ok_law {f : Addr} {fd : FuncData} {k : Nat} (F : Fun K "law" "law" s_law f fd) (mlen : mg "len" = none) (O_law_cell : Ok P w K mg base k "_law_cell" P_law_cell (spCellv K)) (O_law_feed : Ok P w K mg base k "_law_feed" P_law_feed spFeed) (O_law_take : Ok P w K mg base k "_law_take" P_law_take spTake)
    (O_law_word_row : Ok P w K mg base k "_law_word_row" P_law_word_row spWordRow) (O_law_memory : Ok P w K mg base k "_law_memory" P_law_memory (spMemory K)) (O_law_deep : Ok P w K mg base k "_law_deep" P_law_deep spDeep) (O_law_tree : Ok P w K mg base k "_law_tree" P_law_tree (spTree K 12))
    (O_law_handed : Ok P w K mg base k "_law_handed" P_law_handed (spHanded K)) (O_law_subs : Ok P w K mg base k "_law_subs" P_law_subs (spSubs K 12)) (O_law_valued : Ok P w K mg base k "_law_valued" P_law_valued (spValued K)) (O_law_stayed : Ok P w K mg base k "_law_stayed" P_law_stayed (spStayed K))
    (O_law_spotted : Ok P w K mg base k "_law_spotted" P_law_spotted (spSpotted K)) (O_law_picked : Ok P w K mg base k "_law_picked" P_law_picked spPicked) : FnOk P w K mg base CX0 (k + 1) f fd P_law (spLaw K) := by
  refine F.ok sc_law (fun vs H Q E h => ?_) (fun cdv A outer s H vs Q E hr h => ?_)
  · obtain ⟨a, ns, rfl, _⟩ := h
    rfl
  obtain ⟨a, ns, rfl, hS, _, q⟩ := h
  refine ⟨_, (pss_cons (ps_set (i := 1) sc_law.nd rfl (Or.inl rfl) (pe_c O_law_feed hr (by rfl) (pa_cons (pe_c O_law_cell hr (by rfl) (pa_cons (pv 0) (pa_cons pe_int pa_nil))) pa_nil)))
    (pss_cons (ps_set (i := 2) sc_law.nd rfl (Or.inl rfl) (pe_c O_law_word_row hr (by rfl) (pa_cons (pv 1) (pa_cons (pe_op op_add pe_int (pe_c O_law_take hr (by rfl) (pa_cons (pv 1) (pa_cons pe_int pa_nil)))) pa_nil))))
    (pss_cons (ps_set (i := 3) sc_law.nd rfl (Or.inl rfl) (pe_op op_cat (pe_lst (pa_cons pe_str pa_nil)) (pe_c O_law_word_row hr (by rfl) (pa_cons (pv 1) (pa_cons (pe_op op_add pe_int (pe_c O_law_take hr (by rfl) (pa_cons (pv 1) (pa_cons pe_int pa_nil)))) pa_nil)))))
    (C8.pss_cut (ps_if (pt_cmpR op_eq (pe_c O_law_take hr (by rfl) (pa_cons (pv 1) (pa_cons pe_int pa_nil))) pe_int (nomark _))
      (pss_one (ps_expr (pe_bm PySem.F.plainAttrs_list PySem.F.slot_list_append PySem.F.type_list_append mt_append (pv 3) (pa_cons (pe_ix ix_list (pv 2) pe_int (fun _ _ => rfl)) pa_nil))))
      pss_nil)
    (pss_cons (ps_set (i := 4) sc_law.nd rfl (Or.inl rfl) (pe_c O_law_memory hr (by rfl) (pa_cons (pe_c O_law_cell hr (by rfl) (pa_cons (pv 0) (pa_cons pe_int pa_nil))) (pa_cons (pv 2) (pa_cons (pv 3) pa_nil)))))
    (pss_cons (ps_set (i := 5) sc_law.nd rfl (Or.inl rfl) (pe_c O_law_memory hr (by rfl) (pa_cons (pe_c O_law_cell hr (by rfl) (pa_cons (pv 0) (pa_cons pe_int pa_nil))) (pa_cons (pv 2) (pa_cons (pv 3) pa_nil)))))
    (pss_cons (ps_set (i := 6) sc_law.nd rfl (Or.inl rfl) (pe_c O_law_feed hr (by rfl) (pa_cons (pe_c O_law_cell hr (by rfl) (pa_cons (pv 0) (pa_cons pe_int pa_nil))) pa_nil)))
    (pss_cons (ps_set (i := 7) sc_law.nd rfl (Or.inl rfl) (pe_c O_law_handed hr (by rfl) (pa_cons (pv 6) (pa_cons (pe_ix ix_list (pv 4) pe_int (fun _ _ => rfl)) (pa_cons (pe_ix ix_list (pv 4) pe_int (fun _ _ => rfl)) pa_nil)))))
    (pss_cons (ps_set (i := 8) sc_law.nd rfl (Or.inl rfl) (pe_c O_law_handed hr (by rfl) (pa_cons (pv 6) (pa_cons (pe_ix ix_list (pv 5) pe_int (fun _ _ => rfl)) (pa_cons (pe_ix ix_list (pv 5) pe_int (fun _ _ => rfl)) pa_nil)))))
    (pss_cons (ps_for PassesOwn.never rfl (pi_list (pv 3)) (pg_name (i := 9) sc_law.nd rfl (Or.inl rfl))
      (pss_one (ps_if (pt_not (pt_val (pe_c O_law_spotted hr (by rfl) (pa_cons (pv 6) (pa_cons (pv 7) (pa_cons (pe_ix ix_list (pv 4) pe_int (fun _ _ => rfl)) (pa_cons (pv 9) (pa_cons (pe_ix ix_list (pv 2) pe_int (fun _ _ => rfl)) (pa_cons (pe_callB call_len_seq (by rfl) mlen (by decide +kernel) (pa_cons (pe_dget (hu_of hr) (pe_ix ix_list (pv 4) pe_int (fun _ _ => rfl)) (pv 9) (fun _ _ => rfl)) pa_nil)) pa_nil)))))))))
        (pss_one (ps_ret pe_bl))
        pss_nil)))
    (pss_cons (ps_set (i := 10) sc_law.nd rfl (Or.inl rfl) (pe_callB call_len_seq (by rfl) mlen (by decide +kernel) (pa_cons (pe_lc (own := [("number", 11)]) (g := gName 11) rfl sc_law.nd (pi_list (pe_dget (hu_of hr) (pe_ix ix_list (pv 4) pe_int (fun _ _ => rfl)) pe_str (fun _ _ => rfl))) (blkOk_by (N := N_law) (sc := defScope s_law) (by decide +kernel)) (fun _ _ _ _ _ => pg_name (i := 11) sc_law.nd rfl (Or.inl rfl)) (fun _ _ _ _ _ => pts_one (pt_cmpR op_eq (pv 11) pe_int (nomark _))) (fun _ _ _ _ _ => pv 11)) pa_nil)))
    (pss_cons (ps_for PassesOwn.never rfl (pi_list (pe_lst (pa_cons (pv 10) (pa_cons (pe_callB call_len_seq (by rfl) mlen (by decide +kernel) (pa_cons (pe_dget (hu_of hr) (pe_ix ix_list (pv 4) pe_int (fun _ _ => rfl)) pe_str (fun _ _ => rfl)) pa_nil)) pa_nil)))) (pg_name (i := 12) sc_law.nd rfl (Or.inl rfl))
      (pss_one (ps_if (pt_not (pt_val (pe_c O_law_spotted hr (by rfl) (pa_cons (pv 6) (pa_cons (pv 7) (pa_cons (pe_ix ix_list (pv 4) pe_int (fun _ _ => rfl)) (pa_cons pe_str (pa_cons (pe_ix ix_list (pv 2) pe_int (fun _ _ => rfl)) (pa_cons (pv 12) pa_nil)))))))))
        (pss_one (ps_ret pe_bl))
        pss_nil)))
    (pss_cons (ps_if (pt_not (pt_val (pe_c O_law_picked hr (by rfl) (pa_cons (pv 6) (pa_cons (pe_ix ix_list (pv 2) pe_int (fun _ _ => rfl)) pa_nil)))))
      (pss_one (ps_ret pe_bl))
      pss_nil)
    (pss_cons (ps_set (i := 13) sc_law.nd rfl (Or.inl rfl) (pe_c O_law_feed hr (by rfl) (pa_cons (pe_c O_law_cell hr (by rfl) (pa_cons (pv 0) (pa_cons pe_int pa_nil))) pa_nil)))
    (pss_cons (ps_set (i := 14) sc_law.nd rfl (Or.inl rfl) (pe_lst (pa_cons (pe_ix ix_list (pe_lst (pa_cons pe_int (pa_cons pe_int (pa_cons pe_int (pa_cons pe_int pa_nil))))) (pe_c O_law_take hr (by rfl) (pa_cons (pv 13) (pa_cons pe_int pa_nil))) (fun _ _ => rfl)) pa_nil)))
    (pss_cons (ps_set (i := 15) sc_law.nd rfl (Or.inl rfl) (pe_lst (pa_cons pe_str (pa_cons pe_str (pa_cons pe_str (pa_cons pe_str (pa_cons pe_str (pa_cons pe_str (pa_cons pe_str (pa_cons pe_str (pa_cons pe_str (pa_cons pe_str pa_nil))))))))))))
    (pss_cons (ps_set (i := 16) sc_law.nd rfl (Or.inl rfl) (pe_c O_law_tree hr (by rfl) (pa_cons (pv 13) (pa_cons (pv 14) (pa_cons (pe_c O_law_deep hr (by rfl) (pa_cons (pv 13) pa_nil)) (pa_cons pe_bl (pa_cons (pv 2) (pa_cons (pv 3) (pa_cons (pv 15) pa_nil)))))))))
    (pss_cons (ps_for PassesOwn.never rfl (pi_list (pe_c O_law_subs hr (by rfl) (pa_cons (pv 16) pa_nil))) (pg_name (i := 17) sc_law.nd rfl (Or.inl rfl))
      (pss_one (ps_if (pt_not (pt_val (pe_c O_law_valued hr (by rfl) (pa_cons (pv 17) (pa_cons (pv 7) (pa_cons (pe_ix ix_list (pv 4) pe_int (fun _ _ => rfl)) (pa_cons (pe_ix ix_list (pv 4) pe_int (fun _ _ => rfl)) pa_nil)))))))
        (pss_one (ps_ret pe_bl))
        pss_nil)))
    (pss_cons (ps_if (PW.pt (pw_or (pt_not (pt_val (pe_c O_law_valued hr (by rfl) (pa_cons (pv 16) (pa_cons (pv 8) (pa_cons (pe_ix ix_list (pv 5) pe_int (fun _ _ => rfl)) (pa_cons (pe_ix ix_list (pv 5) pe_int (fun _ _ => rfl)) pa_nil))))))) (pw_or1 (pt_not (pt_val (pe_c O_law_valued hr (by rfl) (pa_cons (pv 16) (pa_cons (pv 7) (pa_cons (pe_ix ix_list (pv 4) pe_int (fun _ _ => rfl)) (pa_cons (pe_ix ix_list (pv 4) pe_int (fun _ _ => rfl)) pa_nil))))))))))
      (pss_one (ps_ret pe_bl))
      pss_nil)
    (pss_one (ps_ret (pe_and (pe_c O_law_stayed hr (by rfl) (pa_cons (pv 7) (pa_cons (pe_ix ix_list (pv 4) pe_int (fun _ _ => rfl)) (pa_cons (pe_ix ix_list (pv 4) pe_int (fun _ _ => rfl)) pa_nil)))) (pe_one (pe_c O_law_stayed hr (by rfl) (pa_cons (pv 8) (pa_cons (pe_ix ix_list (pv 5) pe_int (fun _ _ => rfl)) (pa_cons (pe_ix ix_list (pv 5) pe_int (fun _ _ => rfl)) pa_nil))))))))))))))))))))))))))), ?_⟩
  refine ⟨_, rfl, a, ns, 0, rfl, hS, by decide, by decide, fun n0 => ⟨n0, rfl, fun pf H1 s1 npf f1 => ?_⟩⟩
  -- words
  refine ⟨_, rfl, rd_take rfl f1 (by decide) (by decide) fun r2 H2 r20 r21 s2 => ⟨_, _, rfl, rfl, pf, 1 + r2, rfl, s2.2, by omega, by omega, fun W H3 ws s3 nW eW lw wo => ?_⟩⟩
  have k13 : Same H H3 := fun b o e => s3.1 b o (ne_of_none e npf) (s2.1 b o (ne_of_none e npf) (s1 b o e))
  have Wf : W ≠ pf := by
    obtain ⟨x, y, z, e⟩ := s2.2
    exact (ne_of_none e nW).symm
  have WH : H W = none := by
    cases g : H W with
    | none => rfl
    | some o => rw [s2.1 _ _ Wf (s1 _ _ g)] at nW; cases nW
  -- shelves
  refine ⟨(by show 1 ≤ sizeLine; decide), fun l1 h1 => ?_⟩
  have t1 := same_new h1 (.lst [.str "place"])
  have l1f : l1 ≠ pf := by
    obtain ⟨x, y, z, e⟩ := s3.2
    exact (ne_of_none e h1).symm
  refine ⟨_, rfl, rd_take rfl (s3.2.same t1) (by decide) (by decide) fun r4 H4 r40 r41 s4 => ⟨_, _, rfl, rfl, pf, 1 + r4, rfl, s4.2, by omega, by omega, fun S2 H5 ws2 s5 nS2 eS2 lw2 wo2 => ?_⟩⟩
  have l1S : l1 ≠ S2 := fun z => by
    have e := s4.1 _ _ l1f (show (upd H3 l1 (.lst [.str "place"])) l1 = some (.lst [.str "place"]) from upd_same)
    rw [z] at e; rw [e] at nS2; cases nS2
  refine ⟨l1, S2, _, _, rfl, rfl, s5.1 _ _ l1f (s4.1 _ _ l1f upd_same), eS2, ?_, fun Sh hSh => ?_⟩
  · rw [List.length_map]
    exact small_line (by show 1 + _ ≤ 1000; omega)
  have t5 := same_new hSh (.lst ([V.str "place"] ++ ws2.map V.str))
  have k35 : Keep pf H3 (upd H5 Sh (.lst ([V.str "place"] ++ ws2.map V.str))) := fun b o n e => t5 _ _ (s5.1 b o n (s4.1 b o n (t1 _ _ e)))
  have f5 := s5.2.same t5
  have eW5 := k35 _ _ Wf eW
  have ShW : Sh ≠ W := fun z => by
    have e := s5.1 _ _ Wf (s4.1 _ _ Wf (t1 _ _ eW))
    rw [z, e] at hSh; cases hSh
  have Shf : Sh ≠ pf := by
    obtain ⟨x, y, z, e⟩ := s5.2
    exact (ne_of_none e hSh).symm
  have kH5 : Same H (upd H5 Sh (.lst ([V.str "place"] ++ ws2.map V.str))) := fun b o e => k35 b o (ne_of_none e npf) (k13 b o e)
  have ShH : H Sh = none := by
    cases g : H Sh with
    | none => rfl
    | some o => rw [s5.1 _ _ Shf (s4.1 _ _ Shf (t1 _ _ (k13 _ _ g)))] at hSh; cases hSh
  refine ⟨fun σ6 H6 => ∃ (ss : List Str), σ6 = [some (.ref a), some (.ref pf), some (.ref W), some (.ref Sh), none, none, none, none, none, none, none, none, none, none, none, none, none, none] ∧ Same H H6 ∧ H6 W = some (.lst (ws.map V.str)) ∧ H6 Sh = some (.lst (ss.map V.str)) ∧ ("place" : Str) ∈ ss ∧ ss.length ≤ 10, ?_, fun σ6 H6 hm => ?_⟩
  · refine rd_take rfl f5 (by decide) (by decide) fun r6 H6 _ _ s6 => ⟨rfl, _, rfl, ite2 (fun c => ?_) (fun c => ?_)⟩
    · have eSh6 := s6.1 _ _ Shf (show (upd H5 Sh (.lst ([V.str "place"] ++ ws2.map V.str))) Sh = some (.lst ([V.str "place"] ++ ws2.map V.str)) from upd_same)
      have eW6 := s6.1 _ _ Wf eW5
      obtain ⟨w0, wr, rfl⟩ : ∃ x r, ws = x :: r := by
        cases ws with
        | nil => exfalso; simp at lw; omega
        | cons x r => exact ⟨x, r, rfl⟩
      refine ⟨_, rfl, .inl ⟨rfl, _, SqL.of eSh6⟩, _, rfl, _, _, _, _, rfl, rfl, (SqL.of eW6), atI_nat (j := 0) rfl, Sh, _, _, rfl, rfl, eSh6, ?_, ?_⟩
      · rw [List.length_append, List.length_map]
        exact small1000 (by show 1 + _ ≤ 1000; omega)
      · refine ⟨"place" :: (ws2 ++ [w0]), rfl, fun b o e => ?_, ?_, ?_, List.mem_cons_self .., ?_⟩
        · rw [upd_ne (ne_of_none e ShH)]
          exact s6.1 b o (ne_of_none e npf) (kH5 b o e)
        · rw [upd_ne ShW.symm]; exact eW6
        · rw [upd_same, List.map_cons, List.map_append]; rfl
        · simp only [List.length_cons, List.length_append, List.length_nil]; omega
    · refine ⟨"place" :: ws2, rfl, fun b o e => s6.1 b o (ne_of_none e npf) (kH5 b o e), s6.1 _ _ Wf eW5, s6.1 _ _ Shf upd_same, List.mem_cons_self .., ?_⟩
      simp only [List.length_cons]; omega
  obtain ⟨ss, rfl, k6, eW6, eSh6, plc, lss⟩ := hm
  have wlen : 1 ≤ ws.length ∧ ws.length ≤ 6 := by omega
  obtain ⟨w0, wr, rfl⟩ : ∃ x r, ws = x :: r := by
    cases ws with
    | nil => exact absurd wlen.1 (by decide)
    | cons x r => exact ⟨x, r, rfl⟩
  have w0l := (wo w0 (List.mem_cons_self ..)).hi
  generalize hws : w0 :: wr = ws at *
  -- here, there
  refine ⟨_, rfl, a, ns, 1, rfl, k6.seq hS, by decide, by decide, fun n1 => ⟨_, rfl, _, rfl, n1, W, Sh, ws, ss, rfl, eW6, eSh6, by omega, by omega, fun ph dn1 da1 nl1 al1 H7 M1 => ?_⟩⟩
  have k7 := k6.trans M1.sm
  refine ⟨_, rfl, a, ns, 2, rfl, k7.seq hS, by decide, by decide, fun n2 => ⟨_, rfl, _, rfl, n2, W, Sh, ws, ss, rfl, M1.sm _ _ eW6, M1.sm _ _ eSh6, by omega, by omega, fun pt dn2 da2 nl2 al2 H8 M2 => ?_⟩⟩
  have k8 := k7.trans M2.sm
  refine ⟨_, rfl, a, ns, 3, rfl, k8.seq hS, by decide, by decide, fun n3 => ⟨n3, rfl, fun pd H9 s9 npd f9 => ?_⟩⟩
  have k9 := k8.trans s9
  have ne8 : ∀ {b : Addr} {o : HO}, H8 b = some o → b ≠ pd := fun {b o} e => ne_of_none e npd
  have here9 : MemAt K pd H9 ph dn1 da1 nl1 al1 := ⟨s9 _ _ (M2.sm _ _ M1.ep), s9 _ _ (M2.sm _ _ M1.en), s9 _ _ (M2.sm _ _ M1.ea), fun r hr => ⟨.inl (SqL.of (s9 _ _ (M2.sm _ _ (M1.rows r hr).1))), ne8 (M2.sm _ _ (M1.rows r hr).1)⟩, ne8 (M2.sm _ _ M1.ep), ne8 (M2.sm _ _ M1.en), ne8 (M2.sm _ _ M1.ea)⟩
  have there9 : MemAt K pd H9 pt dn2 da2 nl2 al2 := ⟨s9 _ _ M2.ep, s9 _ _ M2.en, s9 _ _ M2.ea, fun r hr => ⟨.inl (SqL.of (s9 _ _ (M2.rows r hr).1)), ne8 (M2.rows r hr).1⟩, ne8 M2.ep, ne8 M2.en, ne8 M2.ea⟩
  have lh9 : Lsts pd H9 al1 := fun r hr => ⟨s9 _ _ (M2.sm _ _ (M1.rows r hr).1), ne8 (M2.sm _ _ (M1.rows r hr).1)⟩
  have lt9 : Lsts pd H9 al2 := fun r hr => ⟨s9 _ _ (M2.rows r hr).1, ne8 (M2.rows r hr).1⟩
  have eW9 : H9 W = some (.lst (ws.map V.str)) := s9 _ _ (M2.sm _ _ (M1.sm _ _ eW6))
  have eSh9 : H9 Sh = some (.lst (ss.map V.str)) := s9 _ _ (M2.sm _ _ (M1.sm _ _ eSh6))
  have Wd : W ≠ pd := ne8 (M2.sm _ _ (M1.sm _ _ eW6))
  have Shd : Sh ≠ pd := ne8 (M2.sm _ _ (M1.sm _ _ eSh6))
  have nda12 : da1 ≠ da2 := ne_of_none M1.ea M2.na
  -- given, other
  refine ⟨_, rfl, _, rfl, _, _, _, _, rfl, rfl, (SqL.of here9.eq), atI_nat (j := 0) rfl, _, rfl, _, _, _, _, rfl, rfl, (SqL.of here9.eq), atI_nat (j := 1) rfl, pd, dn1, da1, nl1, al1, rfl, f9, here9.en, here9.ea, M1.rok, lh9.rl, fun r hr => (lh9 r hr).2, fun pg dg ag alg Hd sd npg ndg nag eg eng eag ndag bg rg rgn => ?_⟩
  have nepd : ∀ {Hx : Hp} {b : Addr}, Fd Hx pd → Hx b = none → b ≠ pd := fun {Hx b} f e => by
    obtain ⟨x, y, z, ef⟩ := f
    exact (ne_of_none ef e).symm
  have hered := here9.keep sd.1
  have thered := there9.keep sd.1
  have lhd := lh9.keep sd.1
  have ltd := lt9.keep sd.1
  have dag : da1 ≠ ag := ne_of_none here9.ea nag
  refine ⟨_, rfl, _, rfl, _, _, _, _, rfl, rfl, (SqL.of thered.eq), atI_nat (j := 0) rfl, _, rfl, _, _, _, _, rfl, rfl, (SqL.of thered.eq), atI_nat (j := 1) rfl, pd, dn2, da2, nl2, al2, rfl, sd.2, thered.en, thered.ea, M2.rok, ltd.rl, fun r hr => (ltd r hr).2, fun po dO ao alo He se npo ndo nao eo eno eao ndao bo ro ron => ?_⟩
  have heree := hered.keep se.1
  have theree := thered.keep se.1
  have lhe := lhd.keep se.1
  have lte := ltd.keep se.1
  have dao : da2 ≠ ao := ne_of_none thered.ea nao
  have pgd := nepd f9 npg
  have dgd := nepd f9 ndg
  have agd := nepd f9 nag
  have givd : MemAt K pd Hd pg dg ag nl1 alg := ⟨eg, eng, eag, fun r hr => ⟨rg r hr, rgn r hr⟩, pgd, dgd, agd⟩
  have give := givd.keep se.1
  have othe : MemAt K pd He po dO ao nl2 alo := ⟨eo, eno, eao, fun r hr => ⟨ro r hr, ron r hr⟩, nepd sd.2 npo, nepd sd.2 ndo, nepd sd.2 nao⟩
  have eWe : He W = some (.lst (ws.map V.str)) := se.1 _ _ Wd (sd.1 _ _ Wd eW9)
  have eShe : He Sh = some (.lst (ss.map V.str)) := se.1 _ _ Shd (sd.1 _ _ Shd eSh9)
  have kHe : Same H He := fun b o eb => se.1 b o (ne_of_none (k8 b o eb) npd) (sd.1 b o (ne_of_none (k8 b o eb) npd) (k9 b o eb))
  have i0 : ∀ {Hx : Hp}, Hx W = some (.lst (ws.map V.str)) → SqL K Hx W (V.str w0 :: wr.map V.str) := fun {Hx} e => SqL.of (by rw [e, ← hws]; rfl)
  -- the length of a row that stands here
  have rowAt : ∀ {z : Str}, z ∈ ss → ∃ r : Row, getA al1 z = some r ∧ (z, r) ∈ al1 ∧ r.2.length ≤ 100 := fun {z} hz => by
    obtain ⟨r, hr⟩ := Option.isSome_iff_exists.mp (M1.ka z hz)
    exact ⟨r, hr, mem_get hr, (M1.rok.lim _ (mem_get hr)).2⟩
  -- reads
  refine ⟨_, rfl, Sh, rfl, ⟨_, SqL.of eShe⟩, ?_⟩
  refine for_list (xs := ss.map V.str) (fun i σ H' => ∃ (y9 : Option V), σ = [some (.ref a), some (.ref pf), some (.ref W), some (.ref Sh), some (.ref ph), some (.ref pt), some (.ref pd), some (.ref pg), some (.ref po), y9, none, none, none, none, none, none, none, none] ∧ Stp pd He H')
    ⟨_, rfl, fun _ _ _ e => e, se.2⟩ (fun i σ H' _ hv => ?_) (fun i x σ H' hx hv => ?_) (fun σ H' hv => ?_)
  · obtain ⟨y9, rfl, sm⟩ := hv
    exact SqL.of (sm.1 _ _ Shd eShe)
  · obtain ⟨y9, rfl, sm⟩ := hv
    obtain ⟨z, gz, rfl⟩ := map_get hx
    have zin := List.mem_of_getElem? gz
    obtain ⟨r, hr, rm, rl⟩ := rowAt zin
    have h1 := heree.keep sm.1
    have g1 := give.keep sm.1
    have l1' := lhe.keep sm.1
    have iw := i0 (sm.1 _ _ Wd eWe)
    refine ⟨_, rfl, _, rfl, _, rfl, _, _, _, _, rfl, rfl, (SqL.of h1.eq), atI_nat (j := 1) rfl, _, rfl, _, rfl, _, _, _, _, rfl, rfl, iw, atI_nat (j := 0) rfl, _, rfl, _, _, _, _, rfl, rfl, (SqL.of h1.eq), atI_nat (j := 1) rfl, _, rfl, da1, _, rfl, dget_str h1.ea (by rw [valV_d, hr]; rfl), r.1, _, rfl, .inl (SqL.of (l1' _ rm).1), ?_⟩
    refine ⟨pd, pg, dg, ag, da1, z, w0, _, al1, alg, ss, rfl, sm.2, by omega, by show ((r.2.map V.int).length : Int) ≤ 100; rw [List.length_map]; omega, g1.eq, g1.ea, h1.ea, g1.nq, g1.na, h1.na, h1.rows, g1.rows, bg, M1.rok, M1.ka, plc, .inl zin, fun H2 s2 => ⟨_, rfl, iteF ⟨_, rfl, sm.trans s2⟩⟩⟩
  obtain ⟨y9, rfl, sm⟩ := hv
  have h1 := heree.keep sm.1
  have l1' := lhe.keep sm.1
  obtain ⟨r, hr, rm, rl⟩ := rowAt plc
  -- free
  have rowL := SqL.of (K := K) (l1' _ rm).1
  have dg1 : DGet H' da1 (.str "place") (some (.ref r.1)) := dget_str h1.ea (by rw [valV_d, hr]; rfl)
  refine ⟨_, rfl, _, _, _, _, rfl, rfl, (SqL.of h1.eq), atI_nat (j := 1) rfl, da1, _, rfl, dg1, r.1, rfl, ⟨_, rowL⟩, fun D hD => ?_⟩
  refine lc_list (xs := r.2.map V.int) (fun j H3 => Same H' H3 ∧ ∃ zs : List Int, H3 D = some (.lst (zs.map V.int)) ∧ zs.length ≤ j)
    ⟨same_new hD _, [], upd_same, Nat.le_refl 0⟩ (fun j H3 _ hp => SqL.of (hp.1 _ _ (l1' _ rm).1)) (fun j x H3 hx hp => ?_) (fun H3 hp => ?_)
  · obtain ⟨kp, zs, eD, lz⟩ := hp
    obtain ⟨m, gm, rfl⟩ := map_get hx
    have jl : j < r.2.length := (List.getElem?_eq_some_iff.mp gm).1
    refine ⟨rfl, _, rfl, rfl, _, rfl, ite2 (fun c => ?_) (fun c => ⟨kp, zs, eD, by omega⟩)⟩
    refine ⟨_, rfl, _, eD, by rw [List.length_map]; exact small1000 (by omega), same_put kp hD, zs ++ [m], ?_, ?_⟩
    · rw [upd_same, List.map_append]; rfl
    · rw [List.length_append]; show zs.length + 1 ≤ j + 1; omega
  obtain ⟨kp, zs, eD, lz⟩ := hp
  rw [List.length_map] at lz
  refine ⟨D, _, rfl, .inl (SqL.of eD), ?_⟩
  have sm3 := sm.same kp
  have h3 := heree.keep sm3.1
  have l3 := lhe.keep sm3.1
  have dg3 : DGet H3 da1 (.str "place") (some (.ref r.1)) := dget_str h3.ea (by rw [valV_d, hr]; rfl)
  refine ⟨_, rfl, _, rfl, _, _, _, _, rfl, rfl, (SqL.of h3.eq), atI_nat (j := 1) rfl, da1, _, rfl, dg3, r.1, _, rfl, .inl (SqL.of (l3 _ rm).1), (by show 2 ≤ sizeLine; decide), fun ls hls => ⟨ls, rfl, ⟨_, SqL.of upd_same⟩, ?_⟩⟩
  generalize hfr : (((zs.map V.int).length : Nat) : Int) = fr
  generalize hln : (((r.2.map V.int).length : Nat) : Int) = ln
  have fr0 : 0 ≤ fr ∧ fr ≤ 100 := by rw [← hfr, List.length_map]; omega
  have ln0 : 0 ≤ ln ∧ ln ≤ 100 := by rw [← hln, List.length_map]; omega
  have t3 := same_new hls (.lst [.int fr, .int ln])
  have els : (upd H3 ls (.lst [.int fr, .int ln])) ls = some (.lst [.int fr, .int ln]) := upd_same
  have lspd : ls ≠ pd := nepd sm3.2 hls
  have sml := sm3.same t3
  generalize hHl : upd H3 ls (.lst [.int fr, .int ln]) = Hl at *
  refine for_list (xs := [V.int fr, V.int ln]) (fun i σ H' => ∃ (y12 : Option V), σ = [some (.ref a), some (.ref pf), some (.ref W), some (.ref Sh), some (.ref ph), some (.ref pt), some (.ref pd), some (.ref pg), some (.ref po), y9, some (.int fr), none, y12, none, none, none, none, none] ∧ Stp pd Hl H')
    ⟨_, rfl, fun _ _ _ e => e, sml.2⟩ (fun i σ H' _ hv => ?_) (fun i x σ H' hx hv => ?_) (fun σ H' hv => ?_)
  · obtain ⟨y12, rfl, s5⟩ := hv
    exact SqL.of (s5.1 _ _ lspd els)
  · obtain ⟨y12, rfl, s5⟩ := hv
    obtain ⟨sz, z0, z1, rfl⟩ : ∃ n : Int, 0 ≤ n ∧ n ≤ 100 ∧ x = .int n := by
      have := List.mem_of_getElem? hx
      simp only [List.mem_cons, List.not_mem_nil, or_false] at this
      rcases this with rfl | rfl
      · exact ⟨_, fr0.1, fr0.2, rfl⟩
      · exact ⟨_, ln0.1, ln0.2, rfl⟩
    have sm5 := sml.trans s5
    have h5 := heree.keep sm5.1
    have g5 := give.keep sm5.1
    have iw := i0 (sm5.1 _ _ Wd eWe)
    refine ⟨_, rfl, _, rfl, _, rfl, _, _, _, _, rfl, rfl, (SqL.of h5.eq), atI_nat (j := 1) rfl, _, rfl, _, _, _, _, rfl, rfl, iw, atI_nat (j := 0) rfl, _, rfl, ?_⟩
    refine ⟨pd, pg, dg, ag, da1, "nth", w0, _, al1, alg, ss, rfl, sm5.2, z0, z1, g5.eq, g5.ea, h5.ea, g5.nq, g5.na, h5.na, h5.rows, g5.rows, bg, M1.rok, M1.ka, plc, .inr rfl, fun H2 s2 => ⟨_, rfl, iteF ⟨_, rfl, s5.trans s2⟩⟩⟩
  obtain ⟨y12, rfl, s5⟩ := hv
  have sm5 := sml.trans s5
  have iw5 := i0 (sm5.1 _ _ Wd eWe)
  refine ⟨_, rfl, _, rfl, _, _, _, _, rfl, rfl, iw5, atI_nat (j := 0) rfl, pd, w0, rfl, sm5.2, by omega, fun Hx s6 => ⟨_, rfl, iteF ?_⟩⟩
  have sx := sm5.trans s6
  have hereX := heree.keep sx.1
  have thereX := theree.keep sx.1
  have lhX := lhe.keep sx.1
  have ltX := lte.keep sx.1
  have givX := give.keep sx.1
  have othX := othe.keep sx.1
  have eWX := sx.1 _ _ Wd eWe
  have eShX := sx.1 _ _ Shd eShe
  have kHX : Same H Hx := fun b o eb => sx.1 b o (ne_of_none (k8 b o eb) npd) (kHe b o eb)
  -- room, menu, expr
  refine ⟨_, rfl, a, ns, 4, rfl, kHX.seq hS, by decide, by decide, fun n4 => ⟨n4, rfl, fun pG HG sG npG fG => ?_⟩⟩
  refine ⟨(by show 4 ≤ sizeLine; decide), fun l9 h9 => rd_inI [16, 10, 40, 120] rfl fG h9 rfl (by decide) (by decide) fun rm0 Ha _ sa => ?_⟩
  refine ⟨(by show 1 ≤ sizeLine; decide), fun rm' hrm => ⟨(by show 10 ≤ sizeLine; decide), fun mn hmn => ?_⟩⟩
  have ta := same_new hrm (.lst [.int rm0])
  have tb := same_new hmn (.lst ((["leaf", "leaf", "read", "read", "read", "op", "op", "call", "call", "call"] : List Str).map V.str))
  have tab := ta.trans tb
  refine ⟨_, rfl, _, rfl, _, rfl, pG, rfl, sa.2.same tab, fun dp Hb dp0 dp1 sb => ?_⟩
  have rmpG : rm' ≠ pG := by
    obtain ⟨x, y, z, e⟩ := sa.2
    exact (ne_of_none e hrm).symm
  have R9 : Rm Hb rm' := ⟨rm0, sb.1 _ _ rmpG (tb _ _ upd_same)⟩
  have mnpG : mn ≠ pG := by
    obtain ⟨x, y, z, e⟩ := sa.2.same ta
    exact (ne_of_none e hmn).symm
  have sXb : Same Hx Hb := fun b o eb => sb.1 b o (ne_of_none eb npG) (tab _ _ (sa.1 b o (ne_of_none eb npG) (sG _ _ eb)))
  refine ⟨_, rfl, _, rfl, _, rfl, pG, rm', W, Sh, mn, dp, true, ws, ss, _, rfl, sb.2, R9, ⟨sXb _ _ eWX, wlen.1, by omega⟩, ⟨sXb _ _ eShX, List.length_pos_of_mem plc, by omega⟩, (show Ws Hb mn ["leaf", "leaf", "read", "read", "read", "op", "op", "call", "call", "call"] from ⟨sb.1 _ _ mnpG upd_same, by decide, by decide⟩), dp0, by omega, by omega, fun v Hc e sc te de ge => ?_⟩
  have sXc : Same Hx Hc := fun b o eb => by
    have e1 := sa.1 b o (ne_of_none eb npG) (sG _ _ eb)
    exact sc.1 b o (ne_of_none eb npG) (ne_of_none e1 hrm) (sXb _ _ eb)
  have hereC := hereX.keep (Keep.same sXc)
  have thereC := thereX.keep (Keep.same sXc)
  have lhC := lhX.keep (Keep.same sXc)
  have ltC := ltX.keep (Keep.same sXc)
  have givC := givX.keep (Keep.same sXc)
  have othC := othX.keep (Keep.same sXc)
  -- every part
  refine ⟨_, rfl, v, e, rfl, te, de, by decide, fun pS Hf us sf npS eS au => ⟨pS, rfl, ⟨_, SqL.of eS⟩, ?_⟩⟩
  refine for_list (xs := us) (fun i σ H' => ∃ (y17 : Option V), σ = [some (.ref a), some (.ref pf), some (.ref W), some (.ref Sh), some (.ref ph), some (.ref pt), some (.ref pd), some (.ref pg), some (.ref po), y9, some (.int fr), none, y12, some (.ref pG), some (.ref rm'), some (.ref mn), some v, y17] ∧ Same Hf H')
    ⟨_, rfl, Same.refl _⟩ (fun i σ H' _ hv => ?_) (fun i x σ H' hx hv => ?_) (fun σ H' hv => ?_)
  · obtain ⟨y17, rfl, sm⟩ := hv
    exact SqL.of (sm _ _ eS)
  · obtain ⟨y17, rfl, sm⟩ := hv
    obtain ⟨ei, gi, ati⟩ := au.get hx
    have em := List.mem_of_getElem? gi
    have kk := Keep.same (p := pd) (sf.trans sm)
    have h1 := hereC.keep kk
    have g1 := givC.keep kk
    exact ⟨_, rfl, _, rfl, _, rfl, _, _, _, _, rfl, rfl, (SqL.of h1.eq), atI_nat (j := 0) rfl, _, rfl, _, _, _, _, rfl, rfl, (SqL.of h1.eq), atI_nat (j := 1) rfl, x, ei, pg, dg, ag, dn1, da1, nmF nl1, arF al1, ws, ss, rfl, ati.tu (Same.tu sm), dep_subs de em, good_subs ge em, .inl plc, g1.eq, mem_of g1 bg M1.nok.lim M1.rok.lim M1.kn M1.ka, mem_of h1 rfl M1.nok.lim M1.rok.lim M1.kn M1.ka, fun H9' s9' => ⟨_, rfl, iteF ⟨_, rfl, sm.trans s9'⟩⟩⟩
  obtain ⟨y17, rfl, sm7⟩ := hv
  have kk := Keep.same (p := pd) (sf.trans sm7)
  have h1 := hereC.keep kk
  have th1 := thereC.keep kk
  have g1 := givC.keep kk
  have o1 := othC.keep kk
  have te1 := te.tu (Same.tu (sf.trans sm7))
  refine ⟨_, rfl, _, rfl, _, rfl, _, _, _, _, rfl, rfl, (SqL.of th1.eq), atI_nat (j := 0) rfl, _, rfl, _, _, _, _, rfl, rfl, (SqL.of th1.eq), atI_nat (j := 1) rfl, v, e, po, dO, ao, dn2, da2, nmF nl2, arF al2, ws, ss, rfl, te1, de, ge, .inl plc, o1.eq, mem_of o1 bo M2.nok.lim M2.rok.lim M2.kn M2.ka, mem_of th1 rfl M2.nok.lim M2.rok.lim M2.kn M2.ka, fun Ha2 sa2 => ⟨_, rfl, iteF ?_⟩⟩
  have ka2 := Keep.same (p := pd) sa2
  have q1 := (h1.keep ka2).eq
  refine ⟨_, rfl, _, rfl, _, rfl, _, _, _, _, rfl, rfl, (SqL.of q1), atI_nat (j := 0) rfl, _, rfl, _, _, _, _, rfl, rfl, (SqL.of q1), atI_nat (j := 1) rfl, v, e, pg, dg, ag, dn1, da1, nmF nl1, arF al1, ws, ss, rfl, te1.tu (Same.tu sa2), de, ge, .inl plc, (g1.keep ka2).eq, mem_of (g1.keep ka2) bg M1.nok.lim M1.rok.lim M1.kn M1.ka, mem_of (h1.keep ka2) rfl M1.nok.lim M1.rok.lim M1.kn M1.ka, fun Hb2 sb2 => ⟨_, rfl, iteF ?_⟩⟩
  have kab := Keep.same (p := pd) (sa2.trans sb2)
  have h2 := h1.keep kab
  have th2 := th1.keep kab
  have g2 := g1.keep kab
  have o2 := o1.keep kab
  have lh2 := (lhC.keep kk).keep kab
  have lt2 := (ltC.keep kk).keep kab
  refine ⟨_, rfl, _, rfl, _, _, _, _, rfl, rfl, (SqL.of h2.eq), atI_nat (j := 0) rfl, _, rfl, _, _, _, _, rfl, rfl, (SqL.of h2.eq), atI_nat (j := 1) rfl, pg, dg, ag, dn1, da1, nl1, al1, alg, rfl, g2.eq, g2.en, h2.en, M1.nok, h2.ea, g2.ea, dag, M1.rok, bg, lh2.rl, g2.rowsAt, fun Hc2 sc2 => ⟨_, rfl, iteT ?_⟩⟩
  have kc2 := Keep.same (p := pd) sc2
  have q2 := (th2.keep kc2).eq
  exact ⟨_, rfl, _, rfl, _, _, _, _, rfl, rfl, (SqL.of q2), atI_nat (j := 0) rfl, _, rfl, _, _, _, _, rfl, rfl, (SqL.of q2), atI_nat (j := 1) rfl, po, dO, ao, dn2, da2, nl2, al2, alo, rfl, (o2.keep kc2).eq, (o2.keep kc2).en, (th2.keep kc2).en, M2.nok, (th2.keep kc2).ea, (o2.keep kc2).ea, dao, M2.rok, bo, (lt2.keep kc2).rl, (o2.keep kc2).rowsAt, fun Hd2 _ => q Hd2⟩
end
end K01
namespace K01
open PySem L2 Vk
theorem none_ok {P : Program} {w : World} {K : PySem.W.Frag} {mg : Str → Option Value} {base : Heap} {k : Nat} {f : Addr} {fd : FuncData} {ps : List Str} {sp : Sp} (no : ∀ vs H Q E, ¬ sp vs H Q E) : FnOk P w K mg base CX0 k f fd ps sp :=
  ⟨fun vs H Q E h => absurd h (no vs H Q E), fun A outer s H args us vs Q E _ _ _ _ h => absurd h (no vs H Q E)⟩
set_option maxHeartbeats 0 in
theorem all_mk {l : PySem.W.OpenLaw} {w : World} {K : PySem.W.Frag} {h : Heap} {mg : Str → Option Value} {fa f0 f1 f2 f3 f4 f5 f6 f7 f8 f9 f10 f11 f12 f13 f14 f15 f16 f17 f18 f19 f20 f21 f22 f23 f24 f25 f26 f27 f28 f29 f30 f31 f32 f33 : Addr} (X : K.In h) (G : h.Ns mainGlobals mg) (hfa : mg "law" = some (.ref fa))
    {od0 an0 od1 an1 od2 an2 od3 an3 od4 an4 od5 an5 od6 an6 od7 an7 od8 an8 od9 an9 od10 an10 od11 an11 od12 an12 od13 an13 od14 an14 od15 an15 od16 an16 od17 an17 od18 an18 od19 an19 od20 an20 od21 an21 od22 an22 od23 an23 od24 an24 od25 an25 od26 an26 od27 an27 od28 an28 od29 an29 od30 an30 od31 an31 od32 an32 od33 an33 : Option Addr} {sl0 sl1 sl2 sl3 sl4 sl5 sl6 sl7 sl8 sl9 sl10 sl11 sl12 sl13 sl14 sl15 sl16 sl17 sl18 sl19 sl20 sl21 sl22 sl23 sl24 sl25 sl26 sl27 sl28 sl29 sl30 sl31 sl32 sl33 : Array (Option Value)} {oc0 kV0 dc0 pm0 cd0 ct0 oc1 kV1 dc1 pm1 cd1 ct1 oc2 kV2 dc2 pm2 cd2 ct2 oc3 kV3 dc3 pm3 cd3 ct3 oc4 kV4 dc4 pm4 cd4 ct4 oc5 kV5 dc5 pm5 cd5 ct5 oc6 kV6 dc6 pm6 cd6 ct6 oc7 kV7 dc7 pm7 cd7 ct7 oc8 kV8 dc8 pm8 cd8 ct8 oc9 kV9 dc9 pm9 cd9 ct9 oc10 kV10 dc10 pm10 cd10 ct10 oc11 kV11 dc11 pm11 cd11 ct11 oc12 kV12 dc12 pm12 cd12 ct12 oc13 kV13 dc13 pm13 cd13 ct13 oc14 kV14 dc14 pm14 cd14 ct14 oc15 kV15 dc15 pm15 cd15 ct15 oc16 kV16 dc16 pm16 cd16 ct16 oc17 kV17 dc17 pm17 cd17 ct17 oc18 kV18 dc18 pm18 cd18 ct18 oc19 kV19 dc19 pm19 cd19 ct19 oc20 kV20 dc20 pm20 cd20 ct20 oc21 kV21 dc21 pm21 cd21 ct21 oc22 kV22 dc22 pm22 cd22 ct22 oc23 kV23 dc23 pm23 cd23 ct23 oc24 kV24 dc24 pm24 cd24 ct24 oc25 kV25 dc25 pm25 cd25 ct25 oc26 kV26 dc26 pm26 cd26 ct26 oc27 kV27 dc27 pm27 cd27 ct27 oc28 kV28 dc28 pm28 cd28 ct28 oc29 kV29 dc29 pm29 cd29 ct29 oc30 kV30 dc30 pm30 cd30 ct30 oc31 kV31 dc31 pm31 cd31 ct31 oc32 kV32 dc32 pm32 cd32 ct32 oc33 kV33 dc33 pm33 cd33 ct33 : Value}
    {tLIMIT : Tok}
    (a0 : PySem.W.nsIn K mainGlobals "clip" = some (some (.ref f0))) (l0 : K.lookup f0 = some ⟨oc0, od0, .func (PySem.W.fnOf "clip" "clip" (defArgs s_clip) (defBody s_clip) (defScope s_clip) .none kV0 dc0 pm0 an0 cd0 ct0), sl0⟩) (c0 : PySem.W.codeIn K cd0 "clip" = true) (k0 : PySem.W.keepIn K (.ref f0) = true)
    (a1 : PySem.W.nsIn K mainGlobals "value_of" = some (some (.ref f1))) (l1 : K.lookup f1 = some ⟨oc1, od1, .func (PySem.W.fnOf "value_of" "value_of" (defArgs s_value_of) (defBody s_value_of) (defScope s_value_of) .none kV1 dc1 pm1 an1 cd1 ct1), sl1⟩) (c1 : PySem.W.codeIn K cd1 "value_of" = true) (k1 : PySem.W.keepIn K (.ref f1) = true)
    (a2 : PySem.W.nsIn K mainGlobals "operands_of" = some (some (.ref f2))) (l2 : K.lookup f2 = some ⟨oc2, od2, .func (PySem.W.fnOf "operands_of" "operands_of" (defArgs s_operands_of) (defBody s_operands_of) (defScope s_operands_of) .none kV2 dc2 pm2 an2 cd2 ct2), sl2⟩) (c2 : PySem.W.codeIn K cd2 "operands_of" = true) (k2 : PySem.W.keepIn K (.ref f2) = true)
    (a3 : PySem.W.nsIn K mainGlobals "_cell_of" = some (some (.ref f3))) (l3 : K.lookup f3 = some ⟨oc3, od3, .func (PySem.W.fnOf "_cell_of" "_cell_of" (defArgs s_cell_of) (defBody s_cell_of) (defScope s_cell_of) .none kV3 dc3 pm3 an3 cd3 ct3), sl3⟩) (c3 : PySem.W.codeIn K cd3 "_cell_of" = true) (k3 : PySem.W.keepIn K (.ref f3) = true)
    (a4 : PySem.W.nsIn K mainGlobals "_joined_value" = some (some (.ref f4))) (l4 : K.lookup f4 = some ⟨oc4, od4, .func (PySem.W.fnOf "_joined_value" "_joined_value" (defArgs s_joined_value) (defBody s_joined_value) (defScope s_joined_value) .none kV4 dc4 pm4 an4 cd4 ct4), sl4⟩) (c4 : PySem.W.codeIn K cd4 "_joined_value" = true) (k4 : PySem.W.keepIn K (.ref f4) = true)
    (a5 : PySem.W.nsIn K mainGlobals "_holds" = some (some (.ref f5))) (l5 : K.lookup f5 = some ⟨oc5, od5, .func (PySem.W.fnOf "_holds" "_holds" (defArgs s_holds) (defBody s_holds) (defScope s_holds) .none kV5 dc5 pm5 an5 cd5 ct5), sl5⟩) (c5 : PySem.W.codeIn K cd5 "_holds" = true) (k5 : PySem.W.keepIn K (.ref f5) = true)
    (a6 : PySem.W.nsIn K mainGlobals "_called_value" = some (some (.ref f6))) (l6 : K.lookup f6 = some ⟨oc6, od6, .func (PySem.W.fnOf "_called_value" "_called_value" (defArgs s_called_value) (defBody s_called_value) (defScope s_called_value) .none kV6 dc6 pm6 an6 cd6 ct6), sl6⟩) (c6 : PySem.W.codeIn K cd6 "_called_value" = true) (k6 : PySem.W.keepIn K (.ref f6) = true)
    (a7 : PySem.W.nsIn K mainGlobals "_index_of_zero" = some (some (.ref f7))) (l7 : K.lookup f7 = some ⟨oc7, od7, .func (PySem.W.fnOf "_index_of_zero" "_index_of_zero" (defArgs s_index_of_zero) (defBody s_index_of_zero) (defScope s_index_of_zero) .none kV7 dc7 pm7 an7 cd7 ct7), sl7⟩) (c7 : PySem.W.codeIn K cd7 "_index_of_zero" = true) (k7 : PySem.W.keepIn K (.ref f7) = true)
    (a8 : PySem.W.nsIn K mainGlobals "_law_whole" = some (some (.ref f8))) (l8 : K.lookup f8 = some ⟨oc8, od8, .func (PySem.W.fnOf "_law_whole" "_law_whole" (defArgs s_law_whole) (defBody s_law_whole) (defScope s_law_whole) .none kV8 dc8 pm8 an8 cd8 ct8), sl8⟩) (c8 : PySem.W.codeIn K cd8 "_law_whole" = true) (k8 : PySem.W.keepIn K (.ref f8) = true)
    (a9 : PySem.W.nsIn K mainGlobals "_law_cell" = some (some (.ref f9))) (l9 : K.lookup f9 = some ⟨oc9, od9, .func (PySem.W.fnOf "_law_cell" "_law_cell" (defArgs s_law_cell) (defBody s_law_cell) (defScope s_law_cell) .none kV9 dc9 pm9 an9 cd9 ct9), sl9⟩) (c9 : PySem.W.codeIn K cd9 "_law_cell" = true) (k9 : PySem.W.keepIn K (.ref f9) = true)
    (a10 : PySem.W.nsIn K mainGlobals "_law_feed" = some (some (.ref f10))) (l10 : K.lookup f10 = some ⟨oc10, od10, .func (PySem.W.fnOf "_law_feed" "_law_feed" (defArgs s_law_feed) (defBody s_law_feed) (defScope s_law_feed) .none kV10 dc10 pm10 an10 cd10 ct10), sl10⟩) (c10 : PySem.W.codeIn K cd10 "_law_feed" = true) (k10 : PySem.W.keepIn K (.ref f10) = true)
    (a11 : PySem.W.nsIn K mainGlobals "_law_take" = some (some (.ref f11))) (l11 : K.lookup f11 = some ⟨oc11, od11, .func (PySem.W.fnOf "_law_take" "_law_take" (defArgs s_law_take) (defBody s_law_take) (defScope s_law_take) .none kV11 dc11 pm11 an11 cd11 ct11), sl11⟩) (c11 : PySem.W.codeIn K cd11 "_law_take" = true) (k11 : PySem.W.keepIn K (.ref f11) = true)
    (a12 : PySem.W.nsIn K mainGlobals "_law_number" = some (some (.ref f12))) (l12 : K.lookup f12 = some ⟨oc12, od12, .func (PySem.W.fnOf "_law_number" "_law_number" (defArgs s_law_number) (defBody s_law_number) (defScope s_law_number) .none kV12 dc12 pm12 an12 cd12 ct12), sl12⟩) (c12 : PySem.W.codeIn K cd12 "_law_number" = true) (k12 : PySem.W.keepIn K (.ref f12) = true)
    (a13 : PySem.W.nsIn K mainGlobals "_law_datum" = some (some (.ref f13))) (l13 : K.lookup f13 = some ⟨oc13, od13, .func (PySem.W.fnOf "_law_datum" "_law_datum" (defArgs s_law_datum) (defBody s_law_datum) (defScope s_law_datum) .none kV13 dc13 pm13 an13 cd13 ct13), sl13⟩) (c13 : PySem.W.codeIn K cd13 "_law_datum" = true) (k13 : PySem.W.keepIn K (.ref f13) = true)
    (a14 : PySem.W.nsIn K mainGlobals "_law_word" = some (some (.ref f14))) (l14 : K.lookup f14 = some ⟨oc14, od14, .func (PySem.W.fnOf "_law_word" "_law_word" (defArgs s_law_word) (defBody s_law_word) (defScope s_law_word) .none kV14 dc14 pm14 an14 cd14 ct14), sl14⟩) (c14 : PySem.W.codeIn K cd14 "_law_word" = true) (k14 : PySem.W.keepIn K (.ref f14) = true)
    (a15 : PySem.W.nsIn K mainGlobals "_law_near" = some (some (.ref f15))) (l15 : K.lookup f15 = some ⟨oc15, od15, .func (PySem.W.fnOf "_law_near" "_law_near" (defArgs s_law_near) (defBody s_law_near) (defScope s_law_near) .none kV15 dc15 pm15 an15 cd15 ct15), sl15⟩) (c15 : PySem.W.codeIn K cd15 "_law_near" = true) (k15 : PySem.W.keepIn K (.ref f15) = true)
    (a16 : PySem.W.nsIn K mainGlobals "_law_word_row" = some (some (.ref f16))) (l16 : K.lookup f16 = some ⟨oc16, od16, .func (PySem.W.fnOf "_law_word_row" "_law_word_row" (defArgs s_law_word_row) (defBody s_law_word_row) (defScope s_law_word_row) .none kV16 dc16 pm16 an16 cd16 ct16), sl16⟩) (c16 : PySem.W.codeIn K cd16 "_law_word_row" = true) (k16 : PySem.W.keepIn K (.ref f16) = true)
    (a17 : PySem.W.nsIn K mainGlobals "_law_leaf" = some (some (.ref f17))) (l17 : K.lookup f17 = some ⟨oc17, od17, .func (PySem.W.fnOf "_law_leaf" "_law_leaf" (defArgs s_law_leaf) (defBody s_law_leaf) (defScope s_law_leaf) .none kV17 dc17 pm17 an17 cd17 ct17), sl17⟩) (c17 : PySem.W.codeIn K cd17 "_law_leaf" = true) (k17 : PySem.W.keepIn K (.ref f17) = true)
    (a18 : PySem.W.nsIn K mainGlobals "_law_tree" = some (some (.ref f18))) (l18 : K.lookup f18 = some ⟨oc18, od18, .func (PySem.W.fnOf "_law_tree" "_law_tree" (defArgs s_law_tree) (defBody s_law_tree) (defScope s_law_tree) .none kV18 dc18 pm18 an18 cd18 ct18), sl18⟩) (c18 : PySem.W.codeIn K cd18 "_law_tree" = true) (k18 : PySem.W.keepIn K (.ref f18) = true)
    (a19 : PySem.W.nsIn K mainGlobals "_law_deep" = some (some (.ref f19))) (l19 : K.lookup f19 = some ⟨oc19, od19, .func (PySem.W.fnOf "_law_deep" "_law_deep" (defArgs s_law_deep) (defBody s_law_deep) (defScope s_law_deep) .none kV19 dc19 pm19 an19 cd19 ct19), sl19⟩) (c19 : PySem.W.codeIn K cd19 "_law_deep" = true) (k19 : PySem.W.keepIn K (.ref f19) = true)
    (a20 : PySem.W.nsIn K mainGlobals "_law_parts" = some (some (.ref f20))) (l20 : K.lookup f20 = some ⟨oc20, od20, .func (PySem.W.fnOf "_law_parts" "_law_parts" (defArgs s_law_parts) (defBody s_law_parts) (defScope s_law_parts) .none kV20 dc20 pm20 an20 cd20 ct20), sl20⟩) (c20 : PySem.W.codeIn K cd20 "_law_parts" = true) (k20 : PySem.W.keepIn K (.ref f20) = true)
    (a21 : PySem.W.nsIn K mainGlobals "_law_subs" = some (some (.ref f21))) (l21 : K.lookup f21 = some ⟨oc21, od21, .func (PySem.W.fnOf "_law_subs" "_law_subs" (defArgs s_law_subs) (defBody s_law_subs) (defScope s_law_subs) .none kV21 dc21 pm21 an21 cd21 ct21), sl21⟩) (c21 : PySem.W.codeIn K cd21 "_law_subs" = true) (k21 : PySem.W.keepIn K (.ref f21) = true)
    (a22 : PySem.W.nsIn K mainGlobals "_law_clip" = some (some (.ref f22))) (l22 : K.lookup f22 = some ⟨oc22, od22, .func (PySem.W.fnOf "_law_clip" "_law_clip" (defArgs s_law_clip) (defBody s_law_clip) (defScope s_law_clip) .none kV22 dc22 pm22 an22 cd22 ct22), sl22⟩) (c22 : PySem.W.codeIn K cd22 "_law_clip" = true) (k22 : PySem.W.keepIn K (.ref f22) = true)
    (a23 : PySem.W.nsIn K mainGlobals "_law_sign_value" = some (some (.ref f23))) (l23 : K.lookup f23 = some ⟨oc23, od23, .func (PySem.W.fnOf "_law_sign_value" "_law_sign_value" (defArgs s_law_sign_value) (defBody s_law_sign_value) (defScope s_law_sign_value) .none kV23 dc23 pm23 an23 cd23 ct23), sl23⟩) (c23 : PySem.W.codeIn K cd23 "_law_sign_value" = true) (k23 : PySem.W.keepIn K (.ref f23) = true)
    (a24 : PySem.W.nsIn K mainGlobals "_law_value" = some (some (.ref f24))) (l24 : K.lookup f24 = some ⟨oc24, od24, .func (PySem.W.fnOf "_law_value" "_law_value" (defArgs s_law_value) (defBody s_law_value) (defScope s_law_value) .none kV24 dc24 pm24 an24 cd24 ct24), sl24⟩) (c24 : PySem.W.codeIn K cd24 "_law_value" = true) (k24 : PySem.W.keepIn K (.ref f24) = true)
    (a25 : PySem.W.nsIn K mainGlobals "_law_handed" = some (some (.ref f25))) (l25 : K.lookup f25 = some ⟨oc25, od25, .func (PySem.W.fnOf "_law_handed" "_law_handed" (defArgs s_law_handed) (defBody s_law_handed) (defScope s_law_handed) .none kV25 dc25 pm25 an25 cd25 ct25), sl25⟩) (c25 : PySem.W.codeIn K cd25 "_law_handed" = true) (k25 : PySem.W.keepIn K (.ref f25) = true)
    (a26 : PySem.W.nsIn K mainGlobals "_law_stayed" = some (some (.ref f26))) (l26 : K.lookup f26 = some ⟨oc26, od26, .func (PySem.W.fnOf "_law_stayed" "_law_stayed" (defArgs s_law_stayed) (defBody s_law_stayed) (defScope s_law_stayed) .none kV26 dc26 pm26 an26 cd26 ct26), sl26⟩) (c26 : PySem.W.codeIn K cd26 "_law_stayed" = true) (k26 : PySem.W.keepIn K (.ref f26) = true)
    (a27 : PySem.W.nsIn K mainGlobals "_law_valued" = some (some (.ref f27))) (l27 : K.lookup f27 = some ⟨oc27, od27, .func (PySem.W.fnOf "_law_valued" "_law_valued" (defArgs s_law_valued) (defBody s_law_valued) (defScope s_law_valued) .none kV27 dc27 pm27 an27 cd27 ct27), sl27⟩) (c27 : PySem.W.codeIn K cd27 "_law_valued" = true) (k27 : PySem.W.keepIn K (.ref f27) = true)
    (a28 : PySem.W.nsIn K mainGlobals "_law_row" = some (some (.ref f28))) (l28 : K.lookup f28 = some ⟨oc28, od28, .func (PySem.W.fnOf "_law_row" "_law_row" (defArgs s_law_row) (defBody s_law_row) (defScope s_law_row) .none kV28 dc28 pm28 an28 cd28 ct28), sl28⟩) (c28 : PySem.W.codeIn K cd28 "_law_row" = true) (k28 : PySem.W.keepIn K (.ref f28) = true)
    (a29 : PySem.W.nsIn K mainGlobals "_law_memory" = some (some (.ref f29))) (l29 : K.lookup f29 = some ⟨oc29, od29, .func (PySem.W.fnOf "_law_memory" "_law_memory" (defArgs s_law_memory) (defBody s_law_memory) (defScope s_law_memory) .none kV29 dc29 pm29 an29 cd29 ct29), sl29⟩) (c29 : PySem.W.codeIn K cd29 "_law_memory" = true) (k29 : PySem.W.keepIn K (.ref f29) = true)
    (a30 : PySem.W.nsIn K mainGlobals "_law_spots" = some (some (.ref f30))) (l30 : K.lookup f30 = some ⟨oc30, od30, .func (PySem.W.fnOf "_law_spots" "_law_spots" (defArgs s_law_spots) (defBody s_law_spots) (defScope s_law_spots) .none kV30 dc30 pm30 an30 cd30 ct30), sl30⟩) (c30 : PySem.W.codeIn K cd30 "_law_spots" = true) (k30 : PySem.W.keepIn K (.ref f30) = true)
    (a31 : PySem.W.nsIn K mainGlobals "_law_spotted" = some (some (.ref f31))) (l31 : K.lookup f31 = some ⟨oc31, od31, .func (PySem.W.fnOf "_law_spotted" "_law_spotted" (defArgs s_law_spotted) (defBody s_law_spotted) (defScope s_law_spotted) .none kV31 dc31 pm31 an31 cd31 ct31), sl31⟩) (c31 : PySem.W.codeIn K cd31 "_law_spotted" = true) (k31 : PySem.W.keepIn K (.ref f31) = true)
    (a32 : PySem.W.nsIn K mainGlobals "_law_picked" = some (some (.ref f32))) (l32 : K.lookup f32 = some ⟨oc32, od32, .func (PySem.W.fnOf "_law_picked" "_law_picked" (defArgs s_law_picked) (defBody s_law_picked) (defScope s_law_picked) .none kV32 dc32 pm32 an32 cd32 ct32), sl32⟩) (c32 : PySem.W.codeIn K cd32 "_law_picked" = true) (k32 : PySem.W.keepIn K (.ref f32) = true)
    (a33 : PySem.W.nsIn K mainGlobals "law" = some (some (.ref f33))) (l33 : K.lookup f33 = some ⟨oc33, od33, .func (PySem.W.fnOf "law" "law" (defArgs s_law) (defBody s_law) (defScope s_law) .none kV33 dc33 pm33 an33 cd33 ct33), sl33⟩) (c33 : PySem.W.codeIn K cd33 "law" = true) (k33 : PySem.W.keepIn K (.ref f33) = true)
    (qLIMIT : PySem.W.nsIn K mainGlobals "LIMIT" = some (some (.int (10 ^ 12) tLIMIT)))
    (zlen : PySem.W.nsIn K mainGlobals "len" = some none) (zint : PySem.W.nsIn K mainGlobals "int" = some none) (zmin : PySem.W.nsIn K mainGlobals "min" = some none) (zmax : PySem.W.nsIn K mainGlobals "max" = some none) (zlist : PySem.W.nsIn K mainGlobals "list" = some none) (ztuple : PySem.W.nsIn K mainGlobals "tuple" = some none) (zdict : PySem.W.nsIn K mainGlobals "dict" = some none) (zrange : PySem.W.nsIn K mainGlobals "range" = some none) (zenumerate : PySem.W.nsIn K mainGlobals "enumerate" = some none) (zisinstance : PySem.W.nsIn K mainGlobals "isinstance" = some none) (zbool : PySem.W.nsIn K mainGlobals "bool" = some none) :
    ∃ fd : FuncData, (∀ (s : Shared) (v : Value), BindsTo s fd ⟨[v], []⟩ [("script", v)]) ∧ ∀ base : Heap, K.In base → base.Ns mainGlobals mg → FnOk l.prog w K mg base CX0 20 fa fd ["script"] (spLaw K) := by
  have e := hfa.symm.trans (PySem.W.mg_of X G a33)
  cases e
  have F_clip := fun_mk (st := s_clip) l0 c0 k0
  have b_clip := F_clip.binds (ps := P_clip) fun _ _ _ _ _ _ us hl => match us, hl with | [_], _ => rfl
  have m_clip := PySem.W.mg_of X G a0
  have F_value_of := fun_mk (st := s_value_of) l1 c1 k1
  have b_value_of := F_value_of.binds (ps := P_value_of) fun _ _ _ _ _ _ us hl => match us, hl with | [_, _, _], _ => rfl
  have m_value_of := PySem.W.mg_of X G a1
  have F_operands_of := fun_mk (st := s_operands_of) l2 c2 k2
  have b_operands_of := F_operands_of.binds (ps := P_operands_of) fun _ _ _ _ _ _ us hl => match us, hl with | [_], _ => rfl
  have m_operands_of := PySem.W.mg_of X G a2
  have F_cell_of := fun_mk (st := s_cell_of) l3 c3 k3
  have b_cell_of := F_cell_of.binds (ps := P_cell_of) fun _ _ _ _ _ _ us hl => match us, hl with | [_, _], _ => rfl
  have m_cell_of := PySem.W.mg_of X G a3
  have F_joined_value := fun_mk (st := s_joined_value) l4 c4 k4
  have b_joined_value := F_joined_value.binds (ps := P_joined_value) fun _ _ _ _ _ _ us hl => match us, hl with | [_, _, _], _ => rfl
  have m_joined_value := PySem.W.mg_of X G a4
  have F_holds := fun_mk (st := s_holds) l5 c5 k5
  have b_holds := F_holds.binds (ps := P_holds) fun _ _ _ _ _ _ us hl => match us, hl with | [_, _, _], _ => rfl
  have m_holds := PySem.W.mg_of X G a5
  have F_called_value := fun_mk (st := s_called_value) l6 c6 k6
  have b_called_value := F_called_value.binds (ps := P_called_value) fun _ _ _ _ _ _ us hl => match us, hl with | [_, _, _], _ => rfl
  have m_called_value := PySem.W.mg_of X G a6
  have F_index_of_zero := fun_mk (st := s_index_of_zero) l7 c7 k7
  have b_index_of_zero := F_index_of_zero.binds (ps := P_index_of_zero) fun _ _ _ _ _ _ us hl => match us, hl with | [_, _], _ => rfl
  have m_index_of_zero := PySem.W.mg_of X G a7
  have F_law_whole := fun_mk (st := s_law_whole) l8 c8 k8
  have b_law_whole := F_law_whole.binds (ps := P_law_whole) fun _ _ _ _ _ _ us hl => match us, hl with | [_], _ => rfl
  have m_law_whole := PySem.W.mg_of X G a8
  have F_law_cell := fun_mk (st := s_law_cell) l9 c9 k9
  have b_law_cell := F_law_cell.binds (ps := P_law_cell) fun _ _ _ _ _ _ us hl => match us, hl with | [_, _], _ => rfl
  have m_law_cell := PySem.W.mg_of X G a9
  have F_law_feed := fun_mk (st := s_law_feed) l10 c10 k10
  have b_law_feed := F_law_feed.binds (ps := P_law_feed) fun _ _ _ _ _ _ us hl => match us, hl with | [_], _ => rfl
  have m_law_feed := PySem.W.mg_of X G a10
  have F_law_take := fun_mk (st := s_law_take) l11 c11 k11
  have b_law_take := F_law_take.binds (ps := P_law_take) fun _ _ _ _ _ _ us hl => match us, hl with | [_, _], _ => rfl
  have m_law_take := PySem.W.mg_of X G a11
  have F_law_number := fun_mk (st := s_law_number) l12 c12 k12
  have b_law_number := F_law_number.binds (ps := P_law_number) fun _ _ _ _ _ _ us hl => match us, hl with | [_], _ => rfl
  have m_law_number := PySem.W.mg_of X G a12
  have F_law_datum := fun_mk (st := s_law_datum) l13 c13 k13
  have b_law_datum := F_law_datum.binds (ps := P_law_datum) fun _ _ _ _ _ _ us hl => match us, hl with | [_], _ => rfl
  have m_law_datum := PySem.W.mg_of X G a13
  have F_law_word := fun_mk (st := s_law_word) l14 c14 k14
  have b_law_word := F_law_word.binds (ps := P_law_word) fun _ _ _ _ _ _ us hl => match us, hl with | [_], _ => rfl
  have m_law_word := PySem.W.mg_of X G a14
  have F_law_near := fun_mk (st := s_law_near) l15 c15 k15
  have b_law_near := F_law_near.binds (ps := P_law_near) fun _ _ _ _ _ _ us hl => match us, hl with | [_, _], _ => rfl
  have m_law_near := PySem.W.mg_of X G a15
  have F_law_word_row := fun_mk (st := s_law_word_row) l16 c16 k16
  have b_law_word_row := F_law_word_row.binds (ps := P_law_word_row) fun _ _ _ _ _ _ us hl => match us, hl with | [_, _], _ => rfl
  have m_law_word_row := PySem.W.mg_of X G a16
  have F_law_leaf := fun_mk (st := s_law_leaf) l17 c17 k17
  have b_law_leaf := F_law_leaf.binds (ps := P_law_leaf) fun _ _ _ _ _ _ us hl => match us, hl with | [_, _], _ => rfl
  have m_law_leaf := PySem.W.mg_of X G a17
  have F_law_tree := fun_mk (st := s_law_tree) l18 c18 k18
  have b_law_tree := F_law_tree.binds (ps := P_law_tree) fun _ _ _ _ _ _ us hl => match us, hl with | [_, _, _, _, _, _, _], _ => rfl
  have m_law_tree := PySem.W.mg_of X G a18
  have F_law_deep := fun_mk (st := s_law_deep) l19 c19 k19
  have b_law_deep := F_law_deep.binds (ps := P_law_deep) fun _ _ _ _ _ _ us hl => match us, hl with | [_], _ => rfl
  have m_law_deep := PySem.W.mg_of X G a19
  have F_law_parts := fun_mk (st := s_law_parts) l20 c20 k20
  have b_law_parts := F_law_parts.binds (ps := P_law_parts) fun _ _ _ _ _ _ us hl => match us, hl with | [_], _ => rfl
  have m_law_parts := PySem.W.mg_of X G a20
  have F_law_subs := fun_mk (st := s_law_subs) l21 c21 k21
  have b_law_subs := F_law_subs.binds (ps := P_law_subs) fun _ _ _ _ _ _ us hl => match us, hl with | [_], _ => rfl
  have m_law_subs := PySem.W.mg_of X G a21
  have F_law_clip := fun_mk (st := s_law_clip) l22 c22 k22
  have b_law_clip := F_law_clip.binds (ps := P_law_clip) fun _ _ _ _ _ _ us hl => match us, hl with | [_], _ => rfl
  have m_law_clip := PySem.W.mg_of X G a22
  have F_law_sign_value := fun_mk (st := s_law_sign_value) l23 c23 k23
  have b_law_sign_value := F_law_sign_value.binds (ps := P_law_sign_value) fun _ _ _ _ _ _ us hl => match us, hl with | [_, _, _], _ => rfl
  have m_law_sign_value := PySem.W.mg_of X G a23
  have F_law_value := fun_mk (st := s_law_value) l24 c24 k24
  have b_law_value := F_law_value.binds (ps := P_law_value) fun _ _ _ _ _ _ us hl => match us, hl with | [_, _, _], _ => rfl
  have m_law_value := PySem.W.mg_of X G a24
  have F_law_handed := fun_mk (st := s_law_handed) l25 c25 k25
  have b_law_handed := F_law_handed.binds (ps := P_law_handed) fun _ _ _ _ _ _ us hl => match us, hl with | [_, _, _], _ => rfl
  have m_law_handed := PySem.W.mg_of X G a25
  have F_law_stayed := fun_mk (st := s_law_stayed) l26 c26 k26
  have b_law_stayed := F_law_stayed.binds (ps := P_law_stayed) fun _ _ _ _ _ _ us hl => match us, hl with | [_, _, _], _ => rfl
  have m_law_stayed := PySem.W.mg_of X G a26
  have F_law_valued := fun_mk (st := s_law_valued) l27 c27 k27
  have b_law_valued := F_law_valued.binds (ps := P_law_valued) fun _ _ _ _ _ _ us hl => match us, hl with | [_, _, _, _], _ => rfl
  have m_law_valued := PySem.W.mg_of X G a27
  have F_law_row := fun_mk (st := s_law_row) l28 c28 k28
  have b_law_row := F_law_row.binds (ps := P_law_row) fun _ _ _ _ _ _ us hl => match us, hl with | [_], _ => rfl
  have m_law_row := PySem.W.mg_of X G a28
  have F_law_memory := fun_mk (st := s_law_memory) l29 c29 k29
  have b_law_memory := F_law_memory.binds (ps := P_law_memory) fun _ _ _ _ _ _ us hl => match us, hl with | [_, _, _], _ => rfl
  have m_law_memory := PySem.W.mg_of X G a29
  have F_law_spots := fun_mk (st := s_law_spots) l30 c30 k30
  have b_law_spots := F_law_spots.binds (ps := P_law_spots) fun _ _ _ _ _ _ us hl => match us, hl with | [_, _], _ => rfl
  have m_law_spots := PySem.W.mg_of X G a30
  have F_law_spotted := fun_mk (st := s_law_spotted) l31 c31 k31
  have b_law_spotted := F_law_spotted.binds (ps := P_law_spotted) fun _ _ _ _ _ _ us hl => match us, hl with | [_, _, _, _, _, _], _ => rfl
  have m_law_spotted := PySem.W.mg_of X G a31
  have F_law_picked := fun_mk (st := s_law_picked) l32 c32 k32
  have b_law_picked := F_law_picked.binds (ps := P_law_picked) fun _ _ _ _ _ _ us hl => match us, hl with | [_, _], _ => rfl
  have m_law_picked := PySem.W.mg_of X G a32
  have F_law := fun_mk (st := s_law) l33 c33 k33
  have b_law := F_law.binds (ps := P_law) fun _ _ _ _ _ _ us hl => match us, hl with | [_], _ => rfl
  have m_law := PySem.W.mg_of X G a33
  have mlen := PySem.W.mg_none_of X G zlen
  have mint := PySem.W.mg_none_of X G zint
  have mmin := PySem.W.mg_none_of X G zmin
  have mmax := PySem.W.mg_none_of X G zmax
  have mlist := PySem.W.mg_none_of X G zlist
  have mtuple := PySem.W.mg_none_of X G ztuple
  have mdict := PySem.W.mg_none_of X G zdict
  have mrange := PySem.W.mg_none_of X G zrange
  have menumerate := PySem.W.mg_none_of X G zenumerate
  have misinstance := PySem.W.mg_none_of X G zisinstance
  have mbool := PySem.W.mg_none_of X G zbool
  have mLIMIT := PySem.W.mg_of X G qLIMIT
  refine ⟨PySem.W.fnOf "law" "law" (defArgs s_law) (defBody s_law) (defScope s_law) .none kV33 dc33 pm33 an33 cd33 ct33, fun s v => .of_eq rfl, fun base _ _ => ?_⟩
  have T : Ok l.prog w K mg base 1 "_law_take" P_law_take spTake := ⟨_, _, ok_take (k := 0) F_law_take mint, b_law_take, k11, m_law_take⟩
  have FE : Ok l.prog w K mg base 1 "_law_feed" P_law_feed spFeed := ⟨_, _, ok_feed (k := 0) F_law_feed mint, b_law_feed, k10, m_law_feed⟩
  have CB : Ok l.prog w K mg base 1 "_law_cell" P_law_cell (spCellv K) := ⟨_, _, ok_cell (k := 0) F_law_cell mint mlen, b_law_cell, k9, m_law_cell⟩
  have NU : Ok l.prog w K mg base 2 "_law_number" P_law_number spNumber := ⟨_, _, ok_number F_law_number mmin T, b_law_number, k12, m_law_number⟩
  have DE : Ok l.prog w K mg base 2 "_law_deep" P_law_deep spDeep := ⟨_, _, ok_deep F_law_deep T, b_law_deep, k19, m_law_deep⟩
  have WO : Ok l.prog w K mg base 2 "_law_word" P_law_word spWord := ⟨_, _, ok_word F_law_word mrange T, b_law_word, k14, m_law_word⟩
  have NE : Ok l.prog w K mg base 2 "_law_near" P_law_near spNear := ⟨_, _, ok_near F_law_near mlen T, b_law_near, k15, m_law_near⟩
  have WR : Ok l.prog w K mg base 3 "_law_word_row" P_law_word_row spWordRow := ⟨_, _, ok_word_row F_law_word_row mrange (T.mono (by decide)) WO NE, b_law_word_row, k16, m_law_word_row⟩
  have LF : Ok l.prog w K mg base 3 "_law_leaf" P_law_leaf (spLeaf K) := ⟨_, _, ok_leaf F_law_leaf mlen (T.mono (by decide)) NU, b_law_leaf, k17, m_law_leaf⟩
  have TR : ∀ n : Nat, Ok l.prog w K mg base (3 + n) "_law_tree" P_law_tree (spTree K n) := fun n => by
    induction n with
    | zero => exact ⟨_, _, none_ok fun vs H Q E h => (by obtain ⟨a, b, c, d, g, n, tight, ns, as, ms, _, _, _, _, _, _, h1, h2, _⟩ := h; omega), b_law_tree, k18, m_law_tree⟩
    | succ n ih => exact ⟨_, _, ok_tree F_law_tree mlen mint mrange mtuple (T.mono (show 1 ≤ 3 + n by omega)) (LF.mono (show 3 ≤ 3 + n by omega)) ih, b_law_tree, k18, m_law_tree⟩
  have PA : Ok l.prog w K mg base 1 "_law_parts" P_law_parts (spParts K) := ⟨_, _, ok_parts (k := 0) F_law_parts mlist, b_law_parts, k20, m_law_parts⟩
  have SU : ∀ n : Nat, Ok l.prog w K mg base (1 + n) "_law_subs" P_law_subs (spSubs K n) := fun n => by
    induction n with
    | zero => exact ⟨_, _, none_ok fun vs H Q E h => (by obtain ⟨v, e, _, x, hd, _⟩ := h; have := Ex.dep1 e; omega), b_law_subs, k21, m_law_subs⟩
    | succ n ih => exact ⟨_, _, ok_subs F_law_subs (PA.mono (show 1 ≤ 1 + n by omega)) ih, b_law_subs, k21, m_law_subs⟩
  have CL : Ok l.prog w K mg base 1 "clip" P_clip spClip := ⟨_, _, ok_clip (k := 0) F_clip mmax mmin mLIMIT, b_clip, k0, m_clip⟩
  have LC : Ok l.prog w K mg base 1 "_law_clip" P_law_clip spClip := ⟨_, _, ok_law_clip (k := 0) F_law_clip mmax mmin, b_law_clip, k22, m_law_clip⟩
  have HO : Ok l.prog w K mg base 1 "_holds" P_holds spHolds := ⟨_, _, ok_holds (k := 0) F_holds, b_holds, k5, m_holds⟩
  have JV : Ok l.prog w K mg base 2 "_joined_value" P_joined_value spSgn := ⟨_, _, ok_joined_value F_joined_value CL HO, b_joined_value, k4, m_joined_value⟩
  have SV : Ok l.prog w K mg base 2 "_law_sign_value" P_law_sign_value spSgn := ⟨_, _, ok_sign_value F_law_sign_value mint LC, b_law_sign_value, k23, m_law_sign_value⟩
  have CE : Ok l.prog w K mg base 1 "_cell_of" P_cell_of (spCellOf K) := ⟨_, _, ok_cell_of (k := 0) F_cell_of mlen, b_cell_of, k3, m_cell_of⟩
  have ZE : Ok l.prog w K mg base 1 "_index_of_zero" P_index_of_zero (spZero K) := ⟨_, _, ok_zero (k := 0) F_index_of_zero mlen menumerate, b_index_of_zero, k7, m_index_of_zero⟩
  have OP : Ok l.prog w K mg base 1 "operands_of" P_operands_of (spOps K) := ⟨_, _, ok_ops (k := 0) F_operands_of, b_operands_of, k2, m_operands_of⟩
  have CA : Ok l.prog w K mg base 2 "_called_value" P_called_value (spCalled K) := ⟨_, _, ok_called F_called_value mmin mmax ZE, b_called_value, k6, m_called_value⟩
  have VO : ∀ n : Nat, Ok l.prog w K mg base (2 + n) "value_of" P_value_of (spVal K n) := fun n => by
    induction n with
    | zero => exact ⟨_, _, none_ok fun vs H Q E h => (by obtain ⟨v, e, dn, da, nm, ar, ns, as, _, x, hd, _⟩ := h; have := Ex.dep1 e; omega), b_value_of, k1, m_value_of⟩
    | succ n ih => exact ⟨_, _, ok_value_of F_value_of (OP.mono (show 1 ≤ 2 + n by omega)) (JV.mono (show 2 ≤ 2 + n by omega)) (CE.mono (show 1 ≤ 2 + n by omega)) (CA.mono (show 2 ≤ 2 + n by omega)) ih, b_value_of, k1, m_value_of⟩
  have LV : ∀ n : Nat, Ok l.prog w K mg base (2 + n) "_law_value" P_law_value (spVal K n) := fun n => by
    induction n with
    | zero => exact ⟨_, _, none_ok fun vs H Q E h => (by obtain ⟨v, e, dn, da, nm, ar, ns, as, _, x, hd, _⟩ := h; have := Ex.dep1 e; omega), b_law_value, k24, m_law_value⟩
    | succ n ih => exact ⟨_, _, ok_law_value F_law_value mlen mmin mmax mint mrange (SV.mono (show 2 ≤ 2 + n by omega)) ih, b_law_value, k24, m_law_value⟩
  have WH : Ok l.prog w K mg base 1 "_law_whole" P_law_whole spWhole := ⟨_, _, ok_whole (k := 0) F_law_whole misinstance mint mbool, b_law_whole, k8, m_law_whole⟩
  have DA : Ok l.prog w K mg base 3 "_law_datum" P_law_datum spDatum := ⟨_, _, ok_datum F_law_datum (T.mono (by decide)) NU, b_law_datum, k13, m_law_datum⟩
  have VD : Ok l.prog w K mg base 15 "_law_valued" P_law_valued (spValued K) := ⟨_, _, ok_valued F_law_valued (VO 12) (WH.mono (by decide)) (LV 12), b_law_valued, k27, m_law_valued⟩
  have HA : Ok l.prog w K mg base 2 "_law_handed" P_law_handed (spHanded K) := ⟨_, _, ok_handed F_law_handed mlist mtuple mdict T, b_law_handed, k25, m_law_handed⟩
  have ST : Ok l.prog w K mg base 1 "_law_stayed" P_law_stayed (spStayed K) := ⟨_, _, ok_stayed (k := 0) F_law_stayed mlist mlen, b_law_stayed, k26, m_law_stayed⟩
  have RO : Ok l.prog w K mg base 4 "_law_row" P_law_row spRow := ⟨_, _, ok_row F_law_row mrange (T.mono (by decide)) DA, b_law_row, k28, m_law_row⟩
  have ME : Ok l.prog w K mg base 5 "_law_memory" P_law_memory (spMemory K) := ⟨_, _, ok_memory F_law_memory (FE.mono (by decide)) RO (DA.mono (by decide)), b_law_memory, k29, m_law_memory⟩
  have SP : Ok l.prog w K mg base 4 "_law_spots" P_law_spots spSpots := ⟨_, _, ok_spots F_law_spots (T.mono (by decide)) DA, b_law_spots, k30, m_law_spots⟩
  have SD : Ok l.prog w K mg base 16 "_law_spotted" P_law_spotted (spSpotted K) := ⟨_, _, ok_spotted F_law_spotted mdict (SP.mono (by decide)) VD, b_law_spotted, k31, m_law_spotted⟩
  have PI : Ok l.prog w K mg base 16 "_law_picked" P_law_picked spPicked := ⟨_, _, ok_picked F_law_picked mdict mrange (T.mono (by decide)) (DA.mono (by decide)) (LC.mono (by decide)) VD, b_law_picked, k32, m_law_picked⟩
  exact ok_law F_law mlen (CB.mono (by decide)) (FE.mono (by decide)) (T.mono (by decide)) (WR.mono (by decide)) (ME.mono (by decide)) (DE.mono (by decide)) ((TR 12).mono (by decide)) (HA.mono (by decide)) ((SU 12).mono (by decide)) (VD.mono (by decide)) (ST.mono (by decide)) (SD.mono (by decide)) (PI.mono (by decide))
end K01
open PySem PySem.W PyProof.Rows
set_option maxRecDepth 100000 in
set_option maxHeartbeats 0 in
theorem PySem.Challenge.cw_stillinstep_k01_reads_picks_and_nth_holds : PySem.Challenge.rw_stillinstep_k01_reads_picks_and_nth.Holds := by
  w_on; o_law; k_head; (case hw => w_witness2)
  k_fill
  refine L2.walk_of (l := PySem.Challenge.rw_stillinstep_k01_reads_picks_and_nth) (n := 63) (k := 20) (x := "script") (CX := fun _ => L2.CX0) (sp := fun w => K01.spLaw _) rfl (by decide) rfl ⟨rfl, by decide, by decide⟩ (fun w h Y => PySem.W.kIn_of Y) ?F (fun _ _ a ns hl _ hS => ⟨a, ns, rfl, hS, hl, fun _ => rfl⟩) (fun _ _ _ _ _ h => h)
  case F =>
    intro w mg fa h KX G hmg
    refine' K01.all_mk KX G hmg ?a0 ?l0 ?c0 ?k0 ?a1 ?l1 ?c1 ?k1 ?a2 ?l2 ?c2 ?k2 ?a3 ?l3 ?c3 ?k3 ?a4 ?l4 ?c4 ?k4 ?a5 ?l5 ?c5 ?k5 ?a6 ?l6 ?c6 ?k6 ?a7 ?l7 ?c7 ?k7 ?a8 ?l8 ?c8 ?k8 ?a9 ?l9 ?c9 ?k9 ?a10 ?l10 ?c10 ?k10 ?a11 ?l11 ?c11 ?k11 ?a12 ?l12 ?c12 ?k12 ?a13 ?l13 ?c13 ?k13 ?a14 ?l14 ?c14 ?k14 ?a15 ?l15 ?c15 ?k15 ?a16 ?l16 ?c16 ?k16 ?a17 ?l17 ?c17 ?k17 ?a18 ?l18 ?c18 ?k18 ?a19 ?l19 ?c19 ?k19 ?a20 ?l20 ?c20 ?k20 ?a21 ?l21 ?c21 ?k21 ?a22 ?l22 ?c22 ?k22 ?a23 ?l23 ?c23 ?k23 ?a24 ?l24 ?c24 ?k24 ?a25 ?l25 ?c25 ?k25 ?a26 ?l26 ?c26 ?k26 ?a27 ?l27 ?c27 ?k27 ?a28 ?l28 ?c28 ?k28 ?a29 ?l29 ?c29 ?k29 ?a30 ?l30 ?c30 ?k30 ?a31 ?l31 ?c31 ?k31 ?a32 ?l32 ?c32 ?k32 ?a33 ?l33 ?c33 ?k33 ?qLIMIT ?zlen ?zint ?zmin ?zmax ?zlist ?ztuple ?zdict ?zrange ?zenumerate ?zisinstance ?zbool
    (case a0 => k_is)
    (case l0 => k_is)
    (case c0 => k_is)
    (case k0 => k_is)
    (case a1 => k_is)
    (case l1 => k_is)
    (case c1 => k_is)
    (case k1 => k_is)
    (case a2 => k_is)
    (case l2 => k_is)
    (case c2 => k_is)
    (case k2 => k_is)
    (case a3 => k_is)
    (case l3 => k_is)
    (case c3 => k_is)
    (case k3 => k_is)
    (case a4 => k_is)
    (case l4 => k_is)
    (case c4 => k_is)
    (case k4 => k_is)
    (case a5 => k_is)
    (case l5 => k_is)
    (case c5 => k_is)
    (case k5 => k_is)
    (case a6 => k_is)
    (case l6 => k_is)
    (case c6 => k_is)
    (case k6 => k_is)
    (case a7 => k_is)
    (case l7 => k_is)
    (case c7 => k_is)
    (case k7 => k_is)
    (case a8 => k_is)
    (case l8 => k_is)
    (case c8 => k_is)
    (case k8 => k_is)
    (case a9 => k_is)
    (case l9 => k_is)
    (case c9 => k_is)
    (case k9 => k_is)
    (case a10 => k_is)
    (case l10 => k_is)
    (case c10 => k_is)
    (case k10 => k_is)
    (case a11 => k_is)
    (case l11 => k_is)
    (case c11 => k_is)
    (case k11 => k_is)
    (case a12 => k_is)
    (case l12 => k_is)
    (case c12 => k_is)
    (case k12 => k_is)
    (case a13 => k_is)
    (case l13 => k_is)
    (case c13 => k_is)
    (case k13 => k_is)
    (case a14 => k_is)
    (case l14 => k_is)
    (case c14 => k_is)
    (case k14 => k_is)
    (case a15 => k_is)
    (case l15 => k_is)
    (case c15 => k_is)
    (case k15 => k_is)
    (case a16 => k_is)
    (case l16 => k_is)
    (case c16 => k_is)
    (case k16 => k_is)
    (case a17 => k_is)
    (case l17 => k_is)
    (case c17 => k_is)
    (case k17 => k_is)
    (case a18 => k_is)
    (case l18 => k_is)
    (case c18 => k_is)
    (case k18 => k_is)
    (case a19 => k_is)
    (case l19 => k_is)
    (case c19 => k_is)
    (case k19 => k_is)
    (case a20 => k_is)
    (case l20 => k_is)
    (case c20 => k_is)
    (case k20 => k_is)
    (case a21 => k_is)
    (case l21 => k_is)
    (case c21 => k_is)
    (case k21 => k_is)
    (case a22 => k_is)
    (case l22 => k_is)
    (case c22 => k_is)
    (case k22 => k_is)
    (case a23 => k_is)
    (case l23 => k_is)
    (case c23 => k_is)
    (case k23 => k_is)
    (case a24 => k_is)
    (case l24 => k_is)
    (case c24 => k_is)
    (case k24 => k_is)
    (case a25 => k_is)
    (case l25 => k_is)
    (case c25 => k_is)
    (case k25 => k_is)
    (case a26 => k_is)
    (case l26 => k_is)
    (case c26 => k_is)
    (case k26 => k_is)
    (case a27 => k_is)
    (case l27 => k_is)
    (case c27 => k_is)
    (case k27 => k_is)
    (case a28 => k_is)
    (case l28 => k_is)
    (case c28 => k_is)
    (case k28 => k_is)
    (case a29 => k_is)
    (case l29 => k_is)
    (case c29 => k_is)
    (case k29 => k_is)
    (case a30 => k_is)
    (case l30 => k_is)
    (case c30 => k_is)
    (case k30 => k_is)
    (case a31 => k_is)
    (case l31 => k_is)
    (case c31 => k_is)
    (case k31 => k_is)
    (case a32 => k_is)
    (case l32 => k_is)
    (case c32 => k_is)
    (case k32 => k_is)
    (case a33 => k_is)
    (case l33 => k_is)
    (case c33 => k_is)
    (case k33 => k_is)
    (case qLIMIT => k_is)
    (case zlen => k_is)
    (case zint => k_is)
    (case zmin => k_is)
    (case zmax => k_is)
    (case zlist => k_is)
    (case ztuple => k_is)
    (case zdict => k_is)
    (case zrange => k_is)
    (case zenumerate => k_is)
    (case zisinstance => k_is)
    (case zbool => k_is)
