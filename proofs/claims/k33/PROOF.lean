import PyProof.Rows.All
import Wide.All
import OpenK.AllK
import Wide.FinOn
import HandS.ForMost
import HandS.IsInst
import HandS.Codes
import HandS.Property
import HandS.WideBits
import HandS.Walk
import HandS.TupMul
import HandS.TryOnly
import HandS.Style
import HandS.More
import PySem.Challenge.RW_stillinstep_k33_marks_stay_turns_move
set_option Elab.async false
set_option linter.all false
set_option maxRecDepth 100000
namespace Vk
open PySem L2
/-! ### a def that stands and keeps its promise, by its name -/
structure Ok (P : Program) (w : World) (K : PySem.W.Frag) (mg : Str → Option Value) (base : Heap) (k : Nat) (x : Str) (ps : List Str) (sp : Sp) : Prop where
  ex : ∃ (f : Addr) (fd : FuncData), FnOk P w K mg base CX0 k f fd ps sp ∧ Binds K fd ps [] ∧ PySem.W.keepIn K (.ref f) = true ∧ mg x = some (.ref f)
theorem Ok.mono {P w K mg base j k x ps sp} (O : Ok P w K mg base j x ps sp) (h : j ≤ k) : Ok P w K mg base k x ps sp := by
  obtain ⟨f, fd, F, r⟩ := O.ex
  exact ⟨f, fd, F.mono h, r⟩
theorem pe_c {X : Cx} {k : Nat} {ps : List Str} {sp : Sp} {x : Str} {p pos : Pos} {e : Expr} {es : List Expr} {t : TA} (O : Ok X.prog X.w X.K X.mg X.base k x ps sp) (hr : Room k X.A) (hg : Gl X x)
    (ha : PA X (e :: es) t) (hdb : (x == ("__debug__" : Str)) = false := by decide) (he : starEach (e :: es) X.env = (false, eval e X.env) :: starEach es X.env := by rfl) (hpl : (backTo pos (starEach es X.env)).any (·.1) = false := by rfl) :
    PE X (.Call (.Name x p) (e :: es) [] pos) (tCall sp [] E0 t) := by
  obtain ⟨f, fd, F, b, kp, m⟩ := O.ex
  exact pe_call F hr hg m kp b .nil pass0 ha hdb he hpl
/-- f(k = v, ..): keywords alone -/
theorem pe_kw0 {X : Cx} {k : Nat} {f : Addr} {fd : FuncData} {ps ks : List Str} {sp : Sp} {x : Str} {p pos : Pos} {kws : List Keyword} {tk : TA} {g : List Value → List Value → List Value} {gV : List V → List V → List V}
    (F : FnOk X.prog X.w X.K X.mg X.base CX0 k f fd ps sp) (hr : Room k X.A) (hg : Gl X x) (hm : X.mg x = some (.ref f)) (hk : PySem.W.keepIn X.K (.ref f) = true) (hb : KBinds X.K fd ps ks g gV) (hkw : PK X kws tk)
    (hall : (backToKw pos (keywordEach kws X.env)).all (·.1.isSome) = true := by rfl) (hks : (backToKw pos (keywordEach kws X.env)).filterMap (·.1) = ks := by rfl) (hdb : (x == ("__debug__" : Str)) = false := by decide)
    (hpl : ((backTo pos (starEach [] X.env)).any (·.1) || (backToKw pos (keywordEach kws X.env)).any (·.1.isNone)) = false := by rfl) :
    PE X (.Call (.Name x p) [] kws pos) (tCallK sp gV E0 tNil tk) := by
  refine ⟨fun pins s σ H Q I h => ?_⟩
  refine wpAny_Call_Name_kw (ld_glob I hg hm ?_ hdb)
  refine PySem.W.callWith_KW0 (h₀ := X.base) I.ok.mod.kin hk hall ?_ hpl
  refine thn (hkw.run pos pins s σ H _ I h) fun ws s2 ⟨zs, H2, I2, rz, q2⟩ => ⟨I2.kIn, ?_⟩
  rw [hks]
  exact run_fnk (us := []) (vs := []) F hr hb pass0 I2 .nil rz q2
/-- two keywords in the other order -/
def swapG {α : Type} : List α → List α → List α
  | [], [a, b] => [b, a]
  | _, _ => []
theorem kbinds_swap {K : PySem.W.Frag} {x qual a b : Str} {st : Stmt} {f : Addr} {fd : FuncData} (F : Fun K x qual st f fd)
    (h : ∀ (kV doc pm : Value) (an : Option Addr) (cdv ct : Value) (u v : Value), bindArgs (PySem.W.fnOf x qual (defArgs st) (defBody st) (defScope st) .none kV doc pm an cdv ct) ⟨[], [(b, u), (a, v)]⟩ = pure [(a, v), (b, u)]) : KBinds K fd [a, b] [b, a] swapG swapG := by
  obtain ⟨oc, od, kV, doc, pm, an, cdv, ct, osl, rfl, lk, hcd⟩ := F.ex
  refine ⟨fun s us ws _ hl => ?_, fun {vs us zs ws} r1 r2 => ?_⟩
  · match us, ws, hl with
    | [], [u, v], _ => exact .of_eq (h kV doc pm an cdv ct u v)
  · cases r1 with
    | nil =>
      cases r2 with
      | nil => exact .nil
      | cons x r3 =>
        cases r3 with
        | nil => exact .nil
        | cons y r4 =>
          cases r4 with
          | nil => exact .cons y (.cons x .nil)
          | cons z r5 => exact .nil
    | cons x r3 => exact .nil
/-! ### heaps -/
theorem same_new {H : Hp} {p : Addr} (h : H p = none) (o : HO) : Same H (upd H p o) := fun b u q => by rw [upd_ne (ne_of_none q h)]; exact q
theorem Same.tup {K : PySem.W.Frag} {H H' : Hp} {a : Addr} {xs : List V} (e : Same H H') (h : SqT K H a xs) : SqT K H' a xs := by
  rcases h with (h | ⟨o, h⟩) | h
  · exact .inl (.inl (e _ _ h))
  · exact .inl (.inr ⟨o, e _ _ h⟩)
  · exact .inr h
/-- a feed: a list of three ints -/
def Fd (H : Hp) (a : Addr) : Prop := ∃ x y z : Int, H a = some (.lst [.int x, .int y, .int z])
/-- all but the list at a is as it was -/
def Stp (a : Addr) (H H' : Hp) : Prop := (∀ b o, b ≠ a → H b = some o → H' b = some o) ∧ Fd H' a
theorem Stp.refl {a : Addr} {H : Hp} (h : Fd H a) : Stp a H H := ⟨fun _ _ _ q => q, h⟩
theorem Stp.trans {a : Addr} {H H1 H2 : Hp} (h : Stp a H H1) (g : Stp a H1 H2) : Stp a H H2 := ⟨fun b o n q => g.1 b o n (h.1 b o n q), g.2⟩
theorem Fd.same {a : Addr} {H H' : Hp} (h : Fd H a) (s : Same H H') : Fd H' a := by
  obtain ⟨x, y, z, e⟩ := h
  exact ⟨x, y, z, s _ _ e⟩
theorem Stp.same {a : Addr} {H H1 H2 : Hp} (h : Stp a H H1) (s : Same H1 H2) : Stp a H H2 := ⟨fun b o n q => s _ _ (h.1 b o n q), h.2.same s⟩
theorem Stp.of {a : Addr} {H H' : Hp} (h : Fd H a) (s : Same H H') : Stp a H H' := (Stp.refl h).same s
theorem Stp.tup {K : PySem.W.Frag} {a b : Addr} {H H' : Hp} {xs : List V} (h : Fd H a) (s : Stp a H H') (q : SqT K H b xs) : SqT K H' b xs := by
  obtain ⟨x, y, z, e⟩ := h
  rcases q with (q | ⟨o, q⟩) | q
  · exact .inl (.inl (s.1 _ _ (ne_of q e (by intro z; cases z)) q))
  · exact .inl (.inr ⟨o, s.1 _ _ (ne_of q e (by intro z; cases z)) q⟩)
  · exact .inr q
/-- tuples stay -/
def Tu (K : PySem.W.Frag) (H H' : Hp) : Prop := ∀ b xs, SqT K H b xs → SqT K H' b xs
theorem Same.tu {K : PySem.W.Frag} {H H' : Hp} (e : Same H H') : Tu K H H' := fun _ _ h => Vk.Same.tup e h
theorem Stp.tu {K : PySem.W.Frag} {a : Addr} {H H' : Hp} (s : Stp a H H') (h : Fd H a) : Tu K H H' := fun _ _ q => s.tup h q
theorem Tu.trans {K : PySem.W.Frag} {H H1 H2 : Hp} (a : Tu K H H1) (b : Tu K H1 H2) : Tu K H H2 := fun _ _ q => b _ _ (a _ _ q)
theorem Tu.refl {K : PySem.W.Frag} {H : Hp} : Tu K H H := fun _ _ q => q
/-! ### places -/
theorem atI_in {α : Type} {xs : List α} {i : Int} (h0 : 0 ≤ i) (h : i < xs.length) : ∃ v, v ∈ xs ∧ atI xs i = some v := by
  have hk : i.toNat < xs.length := by omega
  have ek : ((i.toNat : Nat) : Int) = i := by omega
  have q : atI xs ((i.toNat : Nat) : Int) = some (xs[i.toNat]) := atI_nat (List.getElem?_eq_getElem hk)
  rw [ek] at q
  exact ⟨xs[i.toNat], List.getElem_mem hk, q⟩
/-! ### the draws -/
def spTake : Sp := fun vs H Q _ => ∃ (a : Addr) (n : Int), vs = [.ref a, .int n] ∧ Fd H a ∧ 0 < n ∧ n < 1073741824 ∧ ∀ r H', 0 ≤ r → r < n → Stp a H H' → Q (.int r) H'
def spFeed : Sp := fun vs H Q _ => ∃ (n : Int), vs = [.int n] ∧ ∀ p H', Same H H' → H p = none → Fd H' p → Q (.ref p) H'
def spCellv (K : PySem.W.Frag) : Sp := fun vs H Q _ => ∃ (a : Addr) (ns : List Int) (k : Int), vs = [.ref a, .int k] ∧ SqL K H a (ns.map V.int) ∧ 0 ≤ k ∧ k < 1000 ∧ ∀ n : Int, Q (.int n) H
theorem fmod_lo {a b : Int} (h : 0 < b) : 0 ≤ a.fmod b := Int.fmod_nonneg_of_pos a h
theorem fmod_hi {a b : Int} (h : 0 < b) : a.fmod b < b := Int.fmod_lt_of_pos a h
theorem ite2' {c A B : Prop} [Decidable c] (h1 : c → A) (h2 : ¬ c → B) : if decide c = true then A else B := ite2 (fun h => h1 (of_decide_eq_true h)) (fun h => h2 (fun z => h (decide_eq_true z)))
theorem execs_app (xs ys : List Stmt) (env : Env) : execs (xs ++ ys) env = (execs xs env >>= fun f => match f with | .next => execs ys env | f => pure f) := by
  induction xs with
  | nil =>
    show execs ys env = (pure Flow.next >>= _)
    rw [pure_bind]
  | cons st rest ih =>
    show (exec st env >>= fun f => match f with | .next => execs (rest ++ ys) env | f => pure f) = ((exec st env >>= fun f => match f with | .next => execs rest env | f => pure f) >>= _)
    rw [bind_assoc]
    refine congrArg _ (funext fun f => ?_)
    cases f with
    | next => exact ih
    | ret v => exact (pure_bind _ _).symm
    | brk => exact (pure_bind _ _).symm
    | cont => exact (pure_bind _ _).symm
/-- a block cut behind its first n statements: what follows is shown once, from Mid -/
theorem pss_cutAt {X : Cx} {l : List Stmt} {t u : TS} (n : Nat) (h1 : PSs X (l.take n) t) (h2 : PSs X (l.drop n) u) : PSs X l (C8.tCut t u) := by
  refine ⟨fun pins s σ H D I h => ?_⟩
  obtain ⟨Mid, hm, hu⟩ := h
  rw [← List.take_append_drop n l, execs_app]
  refine wpAny_bind (thn (h1.run pins s σ H { D with nx := Mid } I hm) fun f s1 q => ?_)
  cases f with
  | next =>
    obtain ⟨σ', H', I', q⟩ := q
    exact h2.run pins s1 σ' H' D I' (hu σ' H' q)
  | ret v => exact wpAny_pure q
  | brk => exact wpAny_pure q
  | cont => exact wpAny_pure q
/-! ### tests whose answer is known -/
theorem itY {A B : Prop} {x : V} (h : A) : if decide (x = x) = true then A else B := by rw [decide_eq_true rfl]; exact iteT h
theorem itN {A B : Prop} {x y : V} (n : x ≠ y) (h : B) : if decide (x = y) = true then A else B := by rw [decide_eq_false n]; exact iteF h
theorem itYn {A B : Prop} {x : V} (h : B) : if (!decide (x = x)) = true then A else B := by rw [decide_eq_true rfl]; exact iteF h
theorem itNn {A B : Prop} {x y : V} (n : x ≠ y) (h : A) : if (!decide (x = y)) = true then A else B := by rw [decide_eq_false n]; exact iteT h
theorem strNe {x y : Str} (h : x ≠ y) : V.str x ≠ V.str y := fun z => h (V.str.inj z)
end Vk
namespace Vk
open PySem L2
/-! ### either of two readings -/
theorem pi_or {X : Cx} {tg it : Expr} {w1 w2 : TI} (p : PI X tg it w1) (q : PI X tg it w2) : PI X tg it (fun σ H R => w1 σ H R ∨ w2 σ H R) :=
  ⟨fun pins s σ H R I h => h.elim (p.run pins s σ H R I) (q.run pins s σ H R I)⟩
/-- a walk over a list or a tuple -/
theorem pi_seq {X : Cx} {tg e : Expr} {te : TE} (he : PE X e te) : PI X tg e (fun σ H R => iList X.K te σ H R ∨ iTup X.K te σ H R) := pi_or (pi_list he) (pi_tup he)
theorem pe_or {X : Cx} {e : Expr} {t1 t2 : TE} (p : PE X e t1) (q : PE X e t2) : PE X e (fun σ H Q => t1 σ H Q ∨ t2 σ H Q) :=
  ⟨fun pins s σ H Q I h => h.elim (p.run pins s σ H Q I) (q.run pins s σ H Q I)⟩
/-! ### properties, own classes, keyword calls, by their names -/
structure OkProp (P : Program) (w : World) (K : PySem.W.Frag) (mg : Str → Option Value) (base : Heap) (k : Nat) (C : Addr) (x : Str) (sp : Sp) : Prop where
  ex : ∃ (j : Nat) (p g : Addr) (fd : FuncData), j + 1 ≤ k ∧ PropOf K C x p g ∧ FnOk P w K mg base CX0 j g fd ["self"] sp ∧ Binds K fd ["self"] []
theorem OkProp.mono {P w K mg base j k C x sp} (O : OkProp P w K mg base j C x sp) (h : j ≤ k) : OkProp P w K mg base k C x sp := by
  obtain ⟨i, p, g, fd, hj, r⟩ := O.ex
  exact ⟨i, p, g, fd, Nat.le_trans hj h, r⟩
theorem pe_p {X : Cx} {k : Nat} {C : Addr} {x : Str} {sp : Sp} {e : Expr} {pos : Pos} {ta : TE} (O : OkProp X.prog X.w X.K X.mg X.base k C x sp) (c : Cls X.K C) (hr : Room k X.A) (he : PE X e ta) (hab : attributeBase e x X.env (eval e X.env) = eval e X.env) :
    PE X (.Attribute e x pos) (tProp C sp [] E0 ta) := by
  obtain ⟨i, p, g, fd, hj, hp, F, b⟩ := O.ex
  exact pe_prop he c hp F (hr.mono hj) b .nil pass0 hab
structure OkNew (P : Program) (w : World) (K : PySem.W.Frag) (mg : Str → Option Value) (base : Heap) (k : Nat) (C : Addr) (x : Str) (ps : List Str) (sp : Sp) : Prop where
  ex : ∃ (j : Nat) (f : Addr) (fd : FuncData), j + 1 ≤ k ∧ Mk K C f ∧ FnOk P w K mg base CX0 j f fd ps sp ∧ Binds K fd ps [] ∧ mg x = some (.ref C)
theorem OkNew.mono {P w K mg base j k C x ps sp} (O : OkNew P w K mg base j C x ps sp) (h : j ≤ k) : OkNew P w K mg base k C x ps sp := by
  obtain ⟨i, f, fd, hj, r⟩ := O.ex
  exact ⟨i, f, fd, Nat.le_trans hj h, r⟩
theorem pe_new {X : Cx} {k : Nat} {C : Addr} {x : Str} {ps : List Str} {sp : Sp} {p pos : Pos} {e : Expr} {es : List Expr} {t : TA} (O : OkNew X.prog X.w X.K X.mg X.base k C x ps sp) (hr : Room k X.A) (hg : Gl X x)
    (ha : PA X (e :: es) t) (hdb : (x == ("__debug__" : Str)) = false := by decide) (he : starEach (e :: es) X.env = (false, eval e X.env) :: starEach es X.env := by rfl) (hpl : (backTo pos (starEach es X.env)).any (·.1) = false := by rfl) :
    PE X (.Call (.Name x p) (e :: es) [] pos) (tMake C sp [] E0 t) := by
  obtain ⟨j, f, fd, hj, M, F, b, m⟩ := O.ex
  exact pe_make M F (hr.mono hj) hg m b .nil pass0 ha hdb he hpl
structure OkK (P : Program) (w : World) (K : PySem.W.Frag) (mg : Str → Option Value) (base : Heap) (k : Nat) (x : Str) (ps ks : List Str) (g : List Value → List Value → List Value) (gV : List V → List V → List V) (sp : Sp) : Prop where
  ex : ∃ (f : Addr) (fd : FuncData), FnOk P w K mg base CX0 k f fd ps sp ∧ KBinds K fd ps ks g gV ∧ PySem.W.keepIn K (.ref f) = true ∧ mg x = some (.ref f)
theorem OkK.mono {P w K mg base j k x ps ks g gV sp} (O : OkK P w K mg base j x ps ks g gV sp) (h : j ≤ k) : OkK P w K mg base k x ps ks g gV sp := by
  obtain ⟨f, fd, F, r⟩ := O.ex
  exact ⟨f, fd, F.mono h, r⟩
theorem pe_ck {X : Cx} {k : Nat} {ps ks : List Str} {sp : Sp} {x : Str} {p pos : Pos} {kws : List Keyword} {tk : TA} {g : List Value → List Value → List Value} {gV : List V → List V → List V} (O : OkK X.prog X.w X.K X.mg X.base k x ps ks g gV sp) (hr : Room k X.A) (hg : Gl X x) (hkw : PK X kws tk)
    (hall : (backToKw pos (keywordEach kws X.env)).all (·.1.isSome) = true := by rfl) (hks : (backToKw pos (keywordEach kws X.env)).filterMap (·.1) = ks := by rfl) (hdb : (x == ("__debug__" : Str)) = false := by decide)
    (hpl : ((backTo pos (starEach [] X.env)).any (·.1) || (backToKw pos (keywordEach kws X.env)).any (·.1.isNone)) = false := by rfl) :
    PE X (.Call (.Name x p) [] kws pos) (tCallK sp gV E0 tNil tk) := by
  obtain ⟨f, fd, F, b, kp, m⟩ := O.ex
  exact pe_kw0 F hr hg m kp b hkw hall hks hdb hpl
theorem pe_c0 {X : Cx} {k : Nat} {ps : List Str} {sp : Sp} {x : Str} {p pos : Pos} (O : Ok X.prog X.w X.K X.mg X.base k x ps sp) (hr : Room k X.A) (hg : Gl X x) (hdb : (x == ("__debug__" : Str)) = false := by decide) :
    PE X (.Call (.Name x p) [] [] pos) (tCall sp [] E0 tNil) := by
  obtain ⟨f, fd, F, b, kp, m⟩ := O.ex
  exact pe_call0 F hr hg m kp b .nil pass0 hdb
/-! ### feeds -/
/-- what is kept while a feed is drawn from -/
theorem Stp.keep {a b : Addr} {H H' : Hp} {o : HO} (s : Stp a H H') (h : H b = some o) (n : b ≠ a) : H' b = some o := s.1 b o n h
theorem Fd.ne {H : Hp} {a p : Addr} (h : Fd H a) (e : H p = none) : p ≠ a := by
  obtain ⟨x, y, z, q⟩ := h
  exact (ne_of_none q e).symm
end Vk
namespace Vk
open PySem L2
/-! ### readings by name -/
def rLenS (K : PySem.W.Frag) : List V → Hp → VK → Prop := fun xs H Q => ∃ p ys, xs = [.ref p] ∧ (SqL K H p ys ∨ SqT K H p ys) ∧ Q (.int ys.length) H
theorem call_lenK {X : Cx} : CallR X (.builtin "len") (rLenS X.K) := call_len_seq
def rListOf (K : PySem.W.Frag) : List V → Hp → VK → Prop := fun xs H Q => ∃ p ys, xs = [.ref p] ∧ (SqL K H p ys ∨ SqT K H p ys) ∧ ∀ l, H l = none → Q (.ref l) (upd H l (.lst ys))
theorem call_listK {X : Cx} : CallR X (.type "list") (rListOf X.K) := call_list_of
def rTupOf (K : PySem.W.Frag) : List V → Hp → VK → Prop := fun xs H Q => ∃ p ys, xs = [.ref p] ∧ ((SqL K H p ys ∧ ∀ l, H l = none → Q (.ref l) (upd H l (.tup ys))) ∨ (SqT K H p ys ∧ Q (.ref p) H))
theorem call_tupleK {X : Cx} : CallR X (.type "tuple") (rTupOf X.K) := call_tuple_of
theorem bT {c : Prop} [Decidable c] {Q : VK} {H : Hp} (h : c) (q : Q (.bl true) H) : Q (.bl (decide c)) H := by rw [decide_eq_true h]; exact q
theorem bF {c : Prop} [Decidable c] {Q : VK} {H : Hp} (h : ¬ c) (q : Q (.bl false) H) : Q (.bl (decide c)) H := by rw [decide_eq_false h]; exact q
theorem bE {b b' : Bool} {Q : VK} {H : Hp} (e : b' = b) (q : Q (.bl b) H) : Q (.bl b') H := e ▸ q
theorem vE {b b' : V} {Q : VK} {H : Hp} (e : b' = b) (q : Q b H) : Q b' H := e ▸ q
theorem iE {b b' : Int} {Q : VK} {H : Hp} (e : b' = b) (q : Q (.int b) H) : Q (.int b') H := e ▸ q
/-! ### rows of whole numbers that are not negative -/
def ni (ns : List Nat) : List V := ns.map fun n : Nat => V.int (n : Int)
theorem ni_len (ns : List Nat) : (ni ns).length = ns.length := List.length_map ..
theorem ni_get {ns : List Nat} {i : Nat} {n : Nat} (h : ns[i]? = some n) : (ni ns)[i]? = some (V.int (n : Int)) := by
  unfold ni
  rw [List.getElem?_map, h]
  rfl
theorem ni_app (a b : List Nat) : ni (a ++ b) = ni a ++ ni b := List.map_append ..
theorem ni_mem {ns : List Nat} {v : V} (h : v ∈ ni ns) : ∃ n ∈ ns, v = V.int (n : Int) := by
  obtain ⟨n, m, rfl⟩ := List.mem_map.mp h
  exact ⟨n, m, rfl⟩
theorem ni_at {ns : List Nat} {i : Nat} {v : V} (h : (ni ns)[i]? = some v) : ∃ n, ns[i]? = some n ∧ v = V.int (n : Int) := by
  unfold ni at h
  rw [List.getElem?_map] at h
  cases e : ns[i]? with
  | none => rw [e] at h; cases h
  | some n => rw [e] at h; exact ⟨n, rfl, (Option.some.inj h).symm⟩
theorem ni_atI {ns : List Nat} {i : Nat} {n : Nat} (h : ns[i]? = some n) : atI (ni ns) ((i : Nat) : Int) = some (V.int (n : Int)) := atI_nat (ni_get h)
theorem ni_set (ns : List Nat) (i n : Nat) : (ni ns).set i (V.int (n : Int)) = ni (ns.set i n) := by
  unfold ni
  exact List.map_set.symm
theorem get_of_lt {α : Type} {xs : List α} {i : Nat} (h : i < xs.length) : ∃ x, xs[i]? = some x := ⟨xs[i], List.getElem?_eq_getElem h⟩
theorem lt_of_get {α : Type} {xs : List α} {i : Nat} {x : α} (h : xs[i]? = some x) : i < xs.length := (List.getElem?_eq_some_iff.mp h).1
theorem mem_of_get {α : Type} {xs : List α} {i : Nat} {x : α} (h : xs[i]? = some x) : x ∈ xs := List.mem_of_getElem? h
/-- two rows side by side -/
structure LL {α β : Type} (P : α → β → Prop) (as : List α) (rs : List β) : Prop where
  len : as.length = rs.length
  at_ : ∀ (i : Nat) (a : α) (r : β), as[i]? = some a → rs[i]? = some r → P a r
theorem LL.nil {α β : Type} {P : α → β → Prop} : LL P ([] : List α) ([] : List β) := ⟨rfl, fun i a r h => by simp at h⟩
theorem LL.mono {α β : Type} {P Q : α → β → Prop} {as : List α} {rs : List β} (h : LL P as rs) (q : ∀ a r, P a r → Q a r) : LL Q as rs := ⟨h.len, fun i a r ha hr => q a r (h.at_ i a r ha hr)⟩
theorem LL.snoc {α β : Type} {P : α → β → Prop} {as : List α} {rs : List β} {a : α} {r : β} (h : LL P as rs) (p : P a r) : LL P (as ++ [a]) (rs ++ [r]) := by
  refine ⟨by simp [h.len], fun i a' r' ha hr => ?_⟩
  by_cases c : i < as.length
  · rw [List.getElem?_append_left c] at ha
    rw [List.getElem?_append_left (h.len ▸ c)] at hr
    exact h.at_ i a' r' ha hr
  · rw [List.getElem?_append_right (by omega)] at ha
    rw [List.getElem?_append_right (by have := h.len; omega)] at hr
    rw [h.len] at ha
    cases e : i - rs.length with
    | zero =>
      rw [e] at ha hr
      simp at ha hr
      subst ha; subst hr
      exact p
    | succ n =>
      rw [e] at ha
      simp at ha
theorem LL.get {α β : Type} {P : α → β → Prop} {as : List α} {rs : List β} (h : LL P as rs) {i : Nat} {r : β} (e : rs[i]? = some r) : ∃ a, as[i]? = some a ∧ P a r := by
  obtain ⟨a, ea⟩ := get_of_lt (xs := as) (i := i) (h.len ▸ lt_of_get e)
  exact ⟨a, ea, h.at_ i a r ea e⟩
theorem LL.getL {α β : Type} {P : α → β → Prop} {as : List α} {rs : List β} (h : LL P as rs) {i : Nat} {a : α} (e : as[i]? = some a) : ∃ r, rs[i]? = some r ∧ P a r := by
  obtain ⟨r, er⟩ := get_of_lt (xs := rs) (i := i) (h.len ▸ lt_of_get e)
  exact ⟨r, er, h.at_ i a r e er⟩
/-- references of a row -/
def rf (as : List Addr) : List V := as.map V.ref
theorem rf_len (as : List Addr) : (rf as).length = as.length := List.length_map ..
theorem rf_get {as : List Addr} {i : Nat} {a : Addr} (h : as[i]? = some a) : (rf as)[i]? = some (V.ref a) := by
  unfold rf
  rw [List.getElem?_map, h]
  rfl
theorem rf_at {as : List Addr} {i : Nat} {v : V} (h : (rf as)[i]? = some v) : ∃ a, as[i]? = some a ∧ v = V.ref a := by
  unfold rf at h
  rw [List.getElem?_map] at h
  cases e : as[i]? with
  | none => rw [e] at h; cases h
  | some n => rw [e] at h; exact ⟨n, rfl, (Option.some.inj h).symm⟩
theorem rf_app (a b : List Addr) : rf (a ++ b) = rf a ++ rf b := List.map_append ..
/-! ### what a store to a list leaves -/
theorem SqT.updL {K : PySem.W.Frag} {H : Hp} {a b : Addr} {xs ys : List V} {o : HO} (h : SqT K H a xs) (e : H b = some (.lst ys)) : SqT K (upd H b o) a xs := by
  rcases h with (h | ⟨u, h⟩) | h
  · exact .inl (.inl ((upd_ne (ne_of h e (by intro z; cases z))).trans h))
  · exact .inl (.inr ⟨u, (upd_ne (ne_of h e (by intro z; cases z))).trans h⟩)
  · exact .inr h
/-- the instance at p, its fields: kept by a store to a list -/
theorem ins_updL {H : Hp} {p b C dx : Addr} {fs : List (Str × V)} {ys : List V} {o : HO} (h : H p = some (.ins C dx fs)) (e : H b = some (.lst ys)) : upd H b o p = some (.ins C dx fs) := (upd_ne (ne_of h e (by intro z; cases z))).trans h
theorem upd_keep {H : Hp} {b c : Addr} {o u : HO} (h : H c = some u) (n : c ≠ b) : upd H b o c = some u := (upd_ne n).trans h
theorem same_upd {H0 H : Hp} {b : Addr} {o : HO} (s : Same H0 H) (n : H0 b = none) : Same H0 (upd H b o) := fun c u e => by
  rw [upd_ne (ne_of_none e n)]
  exact s c u e
theorem Same.new {H0 H : Hp} {b : Addr} {o : HO} (s : Same H0 H) (n : H b = none) : Same H0 (upd H b o) := s.trans (same_new n o)
theorem Same.fr {H0 H : Hp} {b : Addr} (s : Same H0 H) (n : H b = none) : H0 b = none := s.free n
theorem sNe {H : Hp} {a b : Addr} {o : HO} (h : H a = some o) (n : H b = none) : a ≠ b := ne_of_none h n
theorem stp_new {a b : Addr} {H H1 : Hp} {o : HO} (s : Stp a H H1) (n : H1 b = none) : Stp a H (upd H1 b o) := s.same (same_new n o)
/-- a store to an object that was not there at the start -/
theorem stp_upd {a b : Addr} {H H1 : Hp} {o : HO} (s : Stp a H H1) (n : H b = none) (na : b ≠ a) : Stp a H (upd H1 b o) := by
  refine ⟨fun c u nc e => ?_, ?_⟩
  · rw [upd_ne (ne_of_none e n)]
    exact s.1 c u nc e
  · obtain ⟨x, y, z, e⟩ := s.2
    exact ⟨x, y, z, (upd_ne na.symm).trans e⟩
/-! ### draws as whole numbers that are not negative -/
theorem rd_takeN {σ : St} {H : Hp} {Q : VK} {a : Addr} {n : Int} {i : Nat} (hσ : σ[i]? = some (some (.ref a))) (hF : Fd H a) (n0 : 0 < n) (n1 : n < 1073741824) (q : ∀ (m : Nat) H', (m : Int) < n → Stp a H H' → Q (.int (m : Int)) H') :
    tCall spTake [] E0 (tCons (tVar i) (tCons (tC (.int n)) tNil)) σ H Q := ⟨_, hσ, a, n, rfl, hF, n0, n1, fun r H' r0 r1 s => by
      obtain ⟨m, rfl⟩ := Int.eq_ofNat_of_zero_le r0
      exact q m H' r1 s⟩
/-- the promise of a draw, as whole number -/
theorem spTake_n {a : Addr} {n : Int} {H : Hp} {Q : VK} {E : XK} (hF : Fd H a) (n0 : 0 < n) (n1 : n < 1073741824) (q : ∀ (m : Nat) H', (m : Int) < n → Stp a H H' → Q (.int (m : Int)) H') : spTake [.ref a, .int n] H Q E :=
  ⟨a, n, rfl, hF, n0, n1, fun r H' r0 r1 s => by
      obtain ⟨m, rfl⟩ := Int.eq_ofNat_of_zero_le r0
      exact q m H' r1 s⟩
end Vk
namespace Vk
open PySem L2
theorem line1000 {n m : Nat} (h : n < m) (hm : m ≤ 1000) : n < sizeLine := by
  have := small1000 (n := n + 1) (by omega)
  omega
theorem itT {c A B : Prop} [Decidable c] (h : c) (a : A) : if decide c = true then A else B := by rw [decide_eq_true h]; exact iteT a
theorem itF {c A B : Prop} [Decidable c] (h : ¬ c) (b : B) : if decide c = true then A else B := by rw [decide_eq_false h]; exact iteF b
theorem itTn {c A B : Prop} [Decidable c] (h : c) (b : B) : if (!decide c) = true then A else B := by rw [decide_eq_true h]; exact iteF b
theorem itFn {c A B : Prop} [Decidable c] (h : ¬ c) (a : A) : if (!decide c) = true then A else B := by rw [decide_eq_false h]; exact iteT a
theorem iteI {a b : Int} {A B : Prop} (h1 : a = b → A) (h2 : a ≠ b → B) : if decide (V.int a = V.int b) = true then A else B := by
  by_cases c : a = b
  · subst c; rw [decide_eq_true rfl]; exact iteT (h1 rfl)
  · rw [decide_eq_false (fun z => c (V.int.inj z))]; exact iteF (h2 c)
theorem iteIn {a b : Int} {A B : Prop} (h1 : a ≠ b → A) (h2 : a = b → B) : if (!decide (V.int a = V.int b)) = true then A else B := by
  by_cases c : a = b
  · subst c; rw [decide_eq_true rfl]; exact iteF (h2 rfl)
  · rw [decide_eq_false (fun z => c (V.int.inj z))]; exact iteT (h1 c)
theorem itD {c A B : Prop} [Decidable c] (h1 : c → A) (h2 : ¬ c → B) : if decide c = true then A else B := by
  by_cases h : c
  · exact itT h (h1 h)
  · exact itF h (h2 h)
theorem itDn {c A B : Prop} [Decidable c] (h1 : ¬ c → A) (h2 : c → B) : if (!decide c) = true then A else B := by
  by_cases h : c
  · exact itTn h (h2 h)
  · exact itFn h (h1 h)
theorem ni_rep (n x : Nat) {f : Nat → V} (h : ∀ i, f i = V.int (x : Int)) : (List.range n).map f = ni (List.replicate n x) := by
  refine List.ext_getElem? fun i => ?_
  unfold ni
  by_cases c : i < n
  · rw [List.getElem?_map, List.getElem?_range c, List.getElem?_map, List.getElem?_replicate, if_pos c]
    exact congrArg some (h i)
  · rw [List.getElem?_eq_none (by simp; omega), List.getElem?_eq_none (by simp; omega)]
/-- values that are whole numbers, as a row -/
theorem ni_of {P : Nat → Nat → Prop} : ∀ (ys : List V), (∀ i y, ys[i]? = some y → ∃ n : Nat, y = .int (n : Int) ∧ P i n) → ∃ ns : List Nat, ys = ni ns ∧ ∀ i n, ns[i]? = some n → P i n := by
  intro ys
  induction ys generalizing P with
  | nil => exact fun _ => ⟨[], rfl, fun i n h => by simp at h⟩
  | cons y ys ih =>
    intro h
    obtain ⟨n, rfl, hn⟩ := h 0 y rfl
    obtain ⟨ns, e, hP⟩ := ih (P := fun i n => P (i + 1) n) fun i z hz => h (i + 1) z hz
    refine ⟨n :: ns, by rw [e]; rfl, fun i m hm => ?_⟩
    cases i with
    | zero =>
      have z : n = m := Option.some.inj hm
      exact z ▸ hn
    | succ i => exact hP i m hm
theorem rd_takeV {σ : St} {H : Hp} {Q : VK} {a : Addr} {n : Int} {i j : Nat} (hσ : σ[i]? = some (some (.ref a))) (hj : σ[j]? = some (some (.int n))) (hF : Fd H a) (n0 : 0 < n) (n1 : n < 1073741824) (q : ∀ (m : Nat) H', (m : Int) < n → Stp a H H' → Q (.int (m : Int)) H') :
    tCall spTake [] E0 (tCons (tVar i) (tCons (tVar j) tNil)) σ H Q := ⟨_, hσ, _, hj, spTake_n (E := E0) hF n0 n1 q⟩
theorem rd_takeE {σ : St} {H : Hp} {Q : VK} {a : Addr} {i : Nat} {te : TE} (hσ : σ[i]? = some (some (.ref a))) (h : te σ H fun v H1 => ∃ n : Int, v = .int n ∧ Fd H1 a ∧ 0 < n ∧ n < 1073741824 ∧ ∀ (m : Nat) H', (m : Int) < n → Stp a H1 H' → Q (.int (m : Int)) H')
    (mono : ∀ (Q1 Q2 : VK), (∀ v H1, Q1 v H1 → Q2 v H1) → te σ H Q1 → te σ H Q2) : tCall spTake [] E0 (tCons (tVar i) (tCons te tNil)) σ H Q :=
  ⟨_, hσ, mono _ _ (fun v H1 ⟨n, e, hF, n0, n1, q⟩ => by subst e; exact spTake_n (E := E0) hF n0 n1 q) h⟩
/-- what a comprehension needs of the relation between heaps -/
structure TR (T : Hp → Hp → Prop) (H : Hp) : Prop where
  t0 : ∀ D o, H D = none → T H (upd H D o)
  tk : ∀ D H1 H2 o, H D = none → T H H1 → H1 D = some o → T H1 H2 → H2 D = some o ∧ T H H2
  tu : ∀ D H1 o, H D = none → T H H1 → T H (upd H1 D o)
theorem trSame (H : Hp) : TR Same H := ⟨fun D o h => same_new h o, fun D H1 H2 o _ s e t => ⟨t _ _ e, s.trans t⟩, fun D H1 o h s => same_upd s h⟩
theorem trStp {H : Hp} {a : Addr} (hF : Fd H a) : TR (Stp a) H :=
  ⟨fun D o h => Stp.of hF (same_new h o), fun D H1 H2 o h s e t => ⟨t.1 _ _ (hF.ne h) e, s.trans t⟩, fun D H1 o h s => stp_upd s h (hF.ne h)⟩
theorem set_none (σ : St) (j : Nat) (v : V) : (σ.set j none).set j (some v) = σ.set j (some v) := List.set_set ..
theorem wipe1 (σ : St) (j : Nat) (v : V) : wipe ((wipe σ [j]).set j (some v)) [j] = wipe σ [j] := by
  show ((σ.set j none).set j (some v)).set j none = σ.set j none
  rw [List.set_set, List.set_set]
section
variable {J : It} {n j : Nat} {G : Hp → Prop} {te : TE} {tt : TT} {σ : St} {H : Hp} {Q : Addr → Hp → Prop} {X : Nat → V}
/-- [e for x in ..]: each item's value keeps P, whatever is done between is of T -/
theorem lc_map (w : Walk J n G (fun i H x H' => H' = H ∧ x = X i)) (T : Hp → Hp → Prop) (tr : TR T H) (hT : ∀ H1, T H H1 → G H1) (hn : n ≤ 1000)
    (P : Addr → Nat → V → Hp → Prop) (pm : ∀ D i y H1 H2, H D = none → T H H1 → T H1 H2 → P D i y H1 → P D i y H2) (pu : ∀ D i y H1 acc o, H D = none → H1 D = some (.lst acc) → P D i y H1 → P D i y (upd H1 D o))
    (hs : ∀ D i H1 (Qe : VK), i < n → H D = none → T H H1 → (∃ acc, H1 D = some (.lst acc) ∧ acc.length = i) → (∀ y H2, T H1 H2 → P D i y H2 → Qe y H2) → te (σ.set j (some (X i))) H1 Qe)
    (q : ∀ D H1 ys, H D = none → T H H1 → H1 D = some (.lst ys) → ys.length = n → (∀ i y, ys[i]? = some y → P D i y H1) → Q D H1) :
    ∀ D, H D = none → ∃ W : Nat → Nat → Hp → Prop, (∃ m, W 0 m (upd H D (.lst []))) ∧ ∀ i m H, W i m H →
      (J.stop i H ∧ Q D H) ∨ (J.go i H ∧ ∃ Nx : Hp → Prop, (∀ H', Nx H' → ∃ m', m' < m ∧ W (i + 1) m' H') ∧ ∀ x H', J.yld i H x H' → gName j x (wipe σ [j]) H' fun σ2 H2 => wipe σ2 [j] = wipe σ [j] ∧ tYes σ2 H2 fun b H3 =>
        if b = true then te σ2 H3 fun y H4 => ∃ acc, H4 D = some (.lst acc) ∧ acc.length < sizeLine ∧ Nx (upd H4 D (.lst (acc ++ [y]))) else Nx H3) := by
  intro D hD
  refine lc_it w (fun i H1 => T H H1 ∧ ∃ ys, H1 D = some (.lst ys) ∧ ys.length = i ∧ ∀ k y, ys[k]? = some y → P D k y H1) ⟨tr.t0 D _ hD, [], upd_same, rfl, fun k y h => by simp at h⟩ (fun i H1 _ h => hT _ h.1) (fun i x H1 H' hi hp hy => ?_) (fun H1 hp => ?_)
  · obtain ⟨rfl, rfl⟩ := hy
    obtain ⟨s, ys, e, hl, hP⟩ := hp
    refine ⟨wipe1 σ j _, ?_⟩
    show tYes ((wipe σ [j]).set j (some (X i))) H' _
    simp only [tYes, if_true]
    rw [show (wipe σ [j]).set j (some (X i)) = σ.set j (some (X i)) from set_none σ j _]
    refine hs D i H' _ hi hD s ⟨ys, e, hl⟩ fun y H2 t p => ?_
    obtain ⟨e2, s2⟩ := tr.tk D _ _ _ hD s e t
    refine ⟨ys, e2, line1000 (by omega) hn, tr.tu D _ _ hD s2, _, upd_same, by simp [hl], fun k z hz => ?_⟩
    by_cases c : k < ys.length
    · rw [List.getElem?_append_left c] at hz
      exact pu D k z _ _ _ hD e2 (pm D k z _ _ hD s t (hP k z hz))
    · rw [List.getElem?_append_right (by omega)] at hz
      have hk : k - ys.length = 0 := by
        cases q : k - ys.length with
        | zero => rfl
        | succ m => rw [q] at hz; simp at hz
      rw [hk] at hz
      have z1 : y = z := by simpa using hz
      have z2 : k = i := by omega
      subst z1
      subst z2
      exact pu D k y _ _ _ hD e2 p
  · obtain ⟨s, ys, e, hl, hP⟩ := hp
    exact q D H1 ys hD s e hl hP
/-- the values themselves, nothing drawn -/
theorem lc_mapS (w : Walk J n G (fun i H x H' => H' = H ∧ x = X i)) (hT : ∀ H1, Same H H1 → G H1) (hn : n ≤ 1000) (f : Nat → V)
    (hs : ∀ i H1 (Qe : VK), i < n → Same H H1 → (∀ H2, Same H1 H2 → Qe (f i) H2) → te (σ.set j (some (X i))) H1 Qe)
    (q : ∀ D H1, H D = none → Same H H1 → H1 D = some (.lst ((List.range n).map f)) → Q D H1) :
    ∀ D, H D = none → ∃ W : Nat → Nat → Hp → Prop, (∃ m, W 0 m (upd H D (.lst []))) ∧ ∀ i m H, W i m H →
      (J.stop i H ∧ Q D H) ∨ (J.go i H ∧ ∃ Nx : Hp → Prop, (∀ H', Nx H' → ∃ m', m' < m ∧ W (i + 1) m' H') ∧ ∀ x H', J.yld i H x H' → gName j x (wipe σ [j]) H' fun σ2 H2 => wipe σ2 [j] = wipe σ [j] ∧ tYes σ2 H2 fun b H3 =>
        if b = true then te σ2 H3 fun y H4 => ∃ acc, H4 D = some (.lst acc) ∧ acc.length < sizeLine ∧ Nx (upd H4 D (.lst (acc ++ [y]))) else Nx H3) :=
  lc_map w Same (trSame H) hT hn (fun _ i y _ => y = f i) (fun _ _ _ _ _ _ _ _ p => p) (fun _ _ _ _ _ _ _ _ p => p) (fun D i H1 Qe hi _ s _ k => hs i H1 Qe hi s fun H2 t => k _ H2 t rfl) fun D H1 ys hD s e hl hP => by
    have ey : ys = (List.range n).map f := by
      refine List.ext_getElem? fun i => ?_
      by_cases c : i < n
      · obtain ⟨y, ey⟩ := get_of_lt (xs := ys) (i := i) (by omega)
        rw [ey, hP i y ey, List.getElem?_map, List.getElem?_range c]
        rfl
      · rw [List.getElem?_eq_none (by omega), List.getElem?_eq_none (by simp; omega)]
    rw [ey] at e
    exact q D H1 hD s e
/-- [e for x in .. if t], the test known, nothing drawn -/
theorem lc_filt (w : Walk J n G (fun i H x H' => H' = H ∧ x = X i)) (hT : ∀ H1, Same H H1 → G H1) (hn : n ≤ 1000) (p : Nat → Bool) (f : Nat → V)
    (ht : ∀ i H1 (Qb : Bool → Hp → Prop), i < n → Same H H1 → (∀ H2, Same H1 H2 → Qb (p i) H2) → tt (σ.set j (some (X i))) H1 Qb)
    (hs : ∀ i H1 (Qe : VK), i < n → Same H H1 → (∀ H2, Same H1 H2 → Qe (f i) H2) → te (σ.set j (some (X i))) H1 Qe)
    (q : ∀ D H1, H D = none → Same H H1 → H1 D = some (.lst (((List.range n).filter p).map f)) → Q D H1) :
    ∀ D, H D = none → ∃ W : Nat → Nat → Hp → Prop, (∃ m, W 0 m (upd H D (.lst []))) ∧ ∀ i m H, W i m H →
      (J.stop i H ∧ Q D H) ∨ (J.go i H ∧ ∃ Nx : Hp → Prop, (∀ H', Nx H' → ∃ m', m' < m ∧ W (i + 1) m' H') ∧ ∀ x H', J.yld i H x H' → gName j x (wipe σ [j]) H' fun σ2 H2 => wipe σ2 [j] = wipe σ [j] ∧ tt σ2 H2 fun b H3 =>
        if b = true then te σ2 H3 fun y H4 => ∃ acc, H4 D = some (.lst acc) ∧ acc.length < sizeLine ∧ Nx (upd H4 D (.lst (acc ++ [y]))) else Nx H3) := by
  intro D hD
  refine lc_it w (fun i H1 => Same H H1 ∧ H1 D = some (.lst (((List.range i).filter p).map f))) ⟨same_new hD _, upd_same⟩ (fun i H1 _ h => hT _ h.1) (fun i x H1 H' hi hp hy => ?_) (fun H1 hp => ?_)
  · obtain ⟨rfl, rfl⟩ := hy
    obtain ⟨s, e⟩ := hp
    refine ⟨wipe1 σ j _, ?_⟩
    show tt ((wipe σ [j]).set j (some (X i))) _ _
    rw [show (wipe σ [j]).set j (some (X i)) = σ.set j (some (X i)) from set_none σ j _]
    refine ht i H' _ hi s fun H2 t => ?_
    cases c : p i with
    | true =>
      refine iteT ?_
      refine hs i H2 _ hi (s.trans t) fun H3 t2 => ?_
      refine ⟨_, t2 _ _ (t _ _ e), ?_, same_upd (s.trans (t.trans t2)) hD, ?_⟩
      · have h1 := List.length_filter_le p (List.range i)
        rw [List.length_map]
        rw [List.length_range] at h1
        exact line1000 (show _ < n by omega) hn
      · rw [upd_same, List.range_succ, List.filter_append, List.map_append]
        simp [c]
    | false =>
      refine iteF ⟨s.trans t, ?_⟩
      rw [t _ _ e, List.range_succ, List.filter_append, List.map_append]
      simp [c]
  · exact q D H1 hD hp.1 hp.2
end
/-! ### the walks, in this form -/
theorem wk_range {n : Nat} : Walk (Itr 0 n) n (fun _ => True) (fun i H x H' => H' = H ∧ x = V.int (i : Int)) :=
  walk_range.mono (fun _ h => h) fun i H x H' _ _ h => ⟨h.1, h.2.trans (congrArg V.int (Int.zero_add _))⟩
theorem wk_rangeF {lo n : Nat} : Walk (Itr (lo : Int) n) n (fun _ => True) (fun i H x H' => H' = H ∧ x = V.int ((lo + i : Nat) : Int)) :=
  walk_range.mono (fun _ h => h) fun i H x H' _ _ h => ⟨h.1, h.2.trans (congrArg V.int (Int.natCast_add _ _).symm)⟩
theorem wk_list {K : PySem.W.Frag} {a : Addr} {xs : List V} : Walk (Itl K a) xs.length (fun H => SqL K H a xs) (fun i H x H' => H' = H ∧ x = xs.getD i .non) :=
  walk_list.mono (fun _ h => h) fun i H x H' _ _ h => ⟨h.1, by rw [List.getD_eq_getElem?_getD, h.2]; rfl⟩
theorem wk_tup {K : PySem.W.Frag} {a : Addr} {xs : List V} : Walk (Itt K a) xs.length (fun H => SqT K H a xs) (fun i H x H' => H' = H ∧ x = xs.getD i .non) :=
  walk_tup.mono (fun _ h => h) fun i H x H' _ _ h => ⟨h.1, by rw [List.getD_eq_getElem?_getD, h.2]; rfl⟩
theorem getD_of {xs : List V} {i : Nat} {x : V} (h : xs[i]? = some x) : xs.getD i .non = x := by rw [List.getD_eq_getElem?_getD, h]; rfl
theorem ni_getD {ns : List Nat} {i : Nat} (h : i < ns.length) : (ni ns).getD i .non = V.int ((ns[i] : Nat) : Int) := getD_of (ni_get (List.getElem?_eq_getElem h))
/-- a list or a tuple -/
def Sq (K : PySem.W.Frag) (H : Hp) (a : Addr) (xs : List V) : Prop := SqL K H a xs ∨ SqT K H a xs
theorem Sq.same {K : PySem.W.Frag} {H H' : Hp} {a : Addr} {xs : List V} (h : Sq K H a xs) (s : Same H H') : Sq K H' a xs := h.elim (fun q => .inl (s.seq q)) (fun q => .inr (Vk.Same.tup s q))
/-- all([t for x in xs]) over a list or a tuple at slot i, each t true -/
theorem all_sq {K : PySem.W.Frag} {i j : Nat} {a : Addr} {xs : List V} {te : TE} {σ : St} {H : Hp} {Q : VK} (hσ : σ[i]? = some (some (.ref a))) (hS : Sq K H a xs) (hn : xs.length ≤ 1000)
    (hs : ∀ (k : Nat) (x : V) (H1 : Hp) (Qe : VK), xs[k]? = some x → Same H H1 → (∀ H2, Same H1 H2 → Qe (.bl true) H2) → te (σ.set j (some x)) H1 Qe) (q : ∀ H1, Same H H1 → Q (.bl true) H1) :
    tCB (rAll K) (tCons (tLc (fun σ H R => iList K (tVar i) σ H R ∨ iTup K (tVar i) σ H R) (gName j) tYes te [j]) tNil) σ H Q := by
  have fin : ∀ D H1, H D = none → Same H H1 → H1 D = some (.lst ((List.range xs.length).map fun _ => V.bl true)) → rAll K [V.ref D] H1 Q := fun D H1 hD s e => by
    have e2 : (List.range xs.length).map (fun _ => V.bl true) = (List.replicate xs.length true).map V.bl := by
      refine List.ext_getElem? fun k => ?_
      by_cases c : k < xs.length
      · rw [List.getElem?_map, List.getElem?_range c, List.getElem?_map, List.getElem?_replicate, if_pos c]
        rfl
      · rw [List.getElem?_eq_none (by simp; omega), List.getElem?_eq_none (by simp; omega)]
    rw [e2] at e
    refine ⟨D, _, rfl, SqL.of e, ?_⟩
    have e3 : (List.replicate xs.length true).all id = true := by simp
    rw [e3]
    exact q H1 s
  rcases hS with h | h
  · refine .inl ⟨_, hσ, a, rfl, ⟨_, h⟩, ?_⟩
    refine lc_mapS (Q := fun D H1 => rAll K [V.ref D] H1 Q) wk_list (fun H1 s => s.seq h) hn (fun _ => V.bl true) (fun k H1 Qe hk s qe => ?_) (fun D H1 hD s e => fin D H1 hD s e)
    obtain ⟨x, ex⟩ := get_of_lt hk
    rw [getD_of ex]
    exact hs k x H1 Qe ex s qe
  · refine .inr ⟨_, hσ, a, rfl, ⟨_, h⟩, ?_⟩
    refine lc_mapS (Q := fun D H1 => rAll K [V.ref D] H1 Q) wk_tup (fun H1 s => Vk.Same.tup s h) hn (fun _ => V.bl true) (fun k H1 Qe hk s qe => ?_) (fun D H1 hD s e => fin D H1 hD s e)
    obtain ⟨x, ex⟩ := get_of_lt hk
    rw [getD_of ex]
    exact hs k x H1 Qe ex s qe
theorem tupOf {K : PySem.W.Frag} {a : Addr} {xs : List V} {H : Hp} {Q : VK} (h : Sq K H a xs) (q : ∀ t H', Same H H' → SqT K H' t xs → Q (.ref t) H') : rTupOf K [.ref a] H Q :=
  ⟨a, xs, rfl, h.elim (fun h => .inl ⟨h, fun l hl => q l _ (same_new hl _) (SqT.of upd_same)⟩) (fun h => .inr ⟨h, q a H (fun _ _ z => z) h⟩)⟩
theorem tupOfV {K : PySem.W.Frag} {i : Nat} {a : Addr} {xs : List V} {σ : St} {H : Hp} {Q : VK} (hσ : σ[i]? = some (some (.ref a))) (h : Sq K H a xs) (q : ∀ t H', Same H H' → SqT K H' t xs → Q (.ref t) H') : tCB (rTupOf K) (tCons (tVar i) tNil) σ H Q := ⟨_, hσ, tupOf h q⟩
theorem tcb1 {r : List V → Hp → VK → Prop} {te : TE} {σ : St} {H : Hp} {Q : VK} (h : te σ H fun x H1 => r [x] H1 Q) : tCB r (tCons te tNil) σ H Q := h
theorem ni_atE {ns : List Nat} {i : Nat} {n : Nat} {z : Int} (e : z = (i : Int)) (h : ns[i]? = some n) : atI (ni ns) z = some (V.int (n : Int)) := e ▸ ni_atI h
/-- a comprehension over a list or a tuple -/
theorem lc_mapSq {K : PySem.W.Frag} {n i j : Nat} {a : Addr} {xs : List V} {te : TE} {σ : St} {H : Hp} {Q : VK} (hσ : σ[i]? = some (some (.ref a))) (hS : Sq K H a xs) (hx : xs.length = n) (hn : n ≤ 1000)
    (P : Addr → Nat → V → Hp → Prop) (pm : ∀ D i y H1 H2, H D = none → Same H H1 → Same H1 H2 → P D i y H1 → P D i y H2) (pu : ∀ D i y H1 acc o, H D = none → H1 D = some (.lst acc) → P D i y H1 → P D i y (upd H1 D o))
    (hs : ∀ (D : Addr) (k : Nat) (x : V) (H1 : Hp) (Qe : VK), xs[k]? = some x → H D = none → Same H H1 → (∃ acc, H1 D = some (.lst acc) ∧ acc.length = k) → (∀ y H2, Same H1 H2 → P D k y H2 → Qe y H2) → te (σ.set j (some x)) H1 Qe)
    (q : ∀ D H1 ys, H D = none → Same H H1 → H1 D = some (.lst ys) → ys.length = n → (∀ i y, ys[i]? = some y → P D i y H1) → Q (.ref D) H1) :
    tLc (fun σ H R => iList K (tVar i) σ H R ∨ iTup K (tVar i) σ H R) (gName j) tYes te [j] σ H Q := by
  subst hx
  rcases hS with h | h
  · refine .inl ⟨_, hσ, a, rfl, ⟨_, h⟩, ?_⟩
    refine lc_map (Q := fun D H1 => Q (.ref D) H1) wk_list Same (trSame H) (fun H1 s => s.seq h) hn P pm pu (fun D k H1 Qe hk hD s ha qe => ?_) q
    obtain ⟨x, ex⟩ := get_of_lt hk
    rw [getD_of ex]
    exact hs D k x H1 Qe ex hD s ha qe
  · refine .inr ⟨_, hσ, a, rfl, ⟨_, h⟩, ?_⟩
    refine lc_map (Q := fun D H1 => Q (.ref D) H1) wk_tup Same (trSame H) (fun H1 s => Vk.Same.tup s h) hn P pm pu (fun D k H1 Qe hk hD s ha qe => ?_) q
    obtain ⟨x, ex⟩ := get_of_lt hk
    rw [getD_of ex]
    exact hs D k x H1 Qe ex hD s ha qe
/-- the items of a list of references, each with a property -/
theorem refs_of : ∀ {P : Nat → Addr → Prop} (ys : List V), (∀ i y, ys[i]? = some y → ∃ b, y = .ref b ∧ P i b) → ∃ as : List Addr, ys = rf as ∧ ∀ i a, as[i]? = some a → P i a
  | _, [], _ => ⟨[], rfl, fun i a h => by simp at h⟩
  | P, y :: ys, h => by
    obtain ⟨b, rfl, hb⟩ := h 0 y rfl
    obtain ⟨as, e, hP⟩ := refs_of (P := fun i a => P (i + 1) a) ys fun i z hz => h (i + 1) z hz
    refine ⟨b :: as, by rw [e]; rfl, fun i a ha => ?_⟩
    cases i with
    | zero =>
      have z : b = a := Option.some.inj ha
      exact z ▸ hb
    | succ i => exact hP i a ha
end Vk
namespace Vk
open PySem L2
def dn (ns : List Nat) : List PyData := ns.map fun n : Nat => PyData.int (n : Int)
theorem dn_ints (ns : List Nat) : dn ns = (ns.map fun n : Nat => (n : Int)).map PyData.int := by
  unfold dn
  rw [List.map_map]
  rfl
theorem dpAll_ni {K : PySem.W.Frag} {H : Hp} : ∀ ns : List Nat, DpAll K H (ni ns) (dn ns)
  | [] => .nil
  | n :: ns => .cons (.int _) (dpAll_ni ns)
theorem shaped_dl (ns : List Nat) : SeqAt.shaped (.list (dn ns)) = true := by
  rw [dn_ints]
  exact PySem.W.shaped_ints _
theorem canAll_dn (ns : List Nat) : PyData.canLayAll0 (dn ns) = true := by
  rw [dn_ints]
  exact PySem.W.canLayAll0_ints _
theorem shaped_dt (ns : List Nat) : SeqAt.shaped (.tuple (dn ns)) = true := by
  have h1 := PySem.W.depthAll_ints (ns.map fun n : Nat => (n : Int))
  rw [← dn_ints] at h1
  have h2 : PyData.depth (.tuple (dn ns)) ≤ 64 := by simp only [PyData.depth]; omega
  show (PyData.canLay0 (.tuple (dn ns)) && decide (PyData.depth (.tuple (dn ns)) ≤ 64)) = true
  rw [Bool.and_eq_true]
  exact ⟨by simp only [PyData.canLay0]; exact canAll_dn ns, decide_eq_true h2⟩
theorem eqv_dl (ns : List Nat) : PyData.eqv (.list (dn ns)) (.list (dn ns)) = true := SeqAt.eqv_refl _ (by simp only [PyData.canLay0]; exact canAll_dn ns)
theorem eqv_dt (ns : List Nat) : PyData.eqv (.tuple (dn ns)) (.tuple (dn ns)) = true := SeqAt.eqv_refl _ (by simp only [PyData.canLay0]; exact canAll_dn ns)
theorem eqvAll_dn : ∀ a b : List Nat, PyData.eqvAll (dn a) (dn b) = decide (a = b)
  | [], [] => rfl
  | [], _ :: _ => rfl
  | _ :: _, [] => rfl
  | x :: xs, y :: ys => by
    show PyData.eqvAll (.int (x : Int) :: dn xs) (.int (y : Int) :: dn ys) = _
    rw [PyData.eqvAll, eqvAll_dn xs ys]
    by_cases c : x = y
    · subst c
      by_cases c2 : xs = ys
      · subst c2
        simp [PyData.eqv]
      · simp [PyData.eqv, c2]
    · have : ¬ ((x : Int) = (y : Int)) := fun z => c (by omega)
      simp [PyData.eqv, c, this]
theorem eqv_dtt (a b : List Nat) : PyData.eqv (.tuple (dn a)) (.tuple (dn b)) = decide (a = b) := by
  rw [PyData.eqv]
  exact eqvAll_dn a b
theorem eqv_dll (a b : List Nat) : PyData.eqv (.list (dn a)) (.list (dn b)) = decide (a = b) := by
  rw [PyData.eqv]
  exact eqvAll_dn a b
/-! ### members -/
theorem flat_ni (ns : List Nat) : (ni ns).all flatV = true := List.all_eq_true.mpr fun v h => by
  obtain ⟨n, _, rfl⟩ := ni_mem h
  rfl
theorem inV_ni (n : Nat) (ns : List Nat) : inV (.int (n : Int)) (ni ns) = decide (n ∈ ns) := by
  unfold inV ni
  rw [List.any_map]
  rw [Bool.eq_iff_iff]
  simp only [List.any_eq_true, Function.comp, eqV, beq_iff_eq, decide_eq_true_eq]
  exact ⟨fun ⟨m, hm, e⟩ => by
    have : m = n := by omega
    exact this ▸ hm, fun h => ⟨n, h, rfl⟩⟩
end Vk
set_option maxHeartbeats 4000000
namespace Vk
open PySem PySem.Spec PyProof.Rows L2
theorem tuple_mul1 (l : Addr) (items : Array Value) (n : Nat) (dd : Option Addr) (sl : Array (Option Value)) (u : Tok) :
    Meets (Builtin.«tuple.__mul__» ⟨[.ref l, .int 1 u], []⟩) (fun _ R s => s.heap.get? l = some { cls := .type "tuple", dict := dd, data := .seq items n, slots := sl } ∧ R (.ok (.ret (Value.ref l))) s) :=
  .of_wp fun prog w A R s h => by
    obtain ⟨hp, g, d, tk, os⟩ := s
    obtain ⟨hl, h⟩ := h
    have f1 := AutoSeq1.idx_int
    wp_walk using wpAny_loadPart' hl
    repeat (first
      | (refine wpAny_ite_false (decide_eq_false (by decide)) ?_; wp_walk using wpAny_loadPart' hl)
      | (refine wpAny_ite_true (decide_eq_true (by simp)) ?_; wp_walk using wpAny_loadPart' hl))
    exact ⟨_, rfl, h⟩
def rRep1 (K : PySem.W.Frag) : R2 := fun x y H Q => ∃ l xs, x = .ref l ∧ y = .int 1 ∧ SqT K H l xs ∧ Q (.ref l) H
theorem op_repT1 {X : Cx} : OpR X (binaryOp .Mult) (rRep1 X.K) := by
  intro pins s σ H x y v u Q I rx ry h
  obtain ⟨l, xs, rfl, rfl, hT, q⟩ := h
  cases rx
  obtain ⟨t, rfl⟩ := ry
  obtain ⟨its, r, ⟨⟨cls, dd, data, sl⟩, ho, hc, n, hd⟩, hs⟩ := I.tuple hT
  simp only at hc hd
  subst hc hd
  refine wpAny_binaryOp_repeat_ref (T := "tuple") (U := "int") (by decide) ⟨_, ho, rfl⟩ (fun s' => typeIs_int s' 1 t) noFill_tuple_mul F.fills_int_mul F.slot_int_rmul repeat_tuple F.slot_int_index.lookup
    (call_meets F.slot_int_rmul (typeIs_int s 1 t) F.entry_int_rmul (F.args_int_rmul_2 _ _) (int_rmul_tuple 1 t l its.toArray n dd sl)
      ⟨ho, rfl, ⟨_, ho, rfl⟩, call_meets F.slot_tuple_mul ⟨_, ho, rfl⟩ F.entry_tuple_mul (F.args_tuple_mul_2 _ _) (tuple_mul1 l its.toArray n dd sl t) ⟨ho, ?_⟩⟩)
  exact ⟨.ref l, H, I, rfl, q⟩
theorem op_or {X : Cx} {f : Value → Value → Sem Value} {r1 r2 : R2} (p : OpR X f r1) (q : OpR X f r2) : OpR X f (fun x y H Q => r1 x y H Q ∨ r2 x y H Q) :=
  fun pins s σ H x y v u Q I rx ry h => h.elim (p pins s σ H x y v u Q I rx ry) (q pins s σ H x y v u Q I rx ry)
/-- (0,) * k, k at least 1 -/
def rRepZ (K : PySem.W.Frag) : R2 := fun x y H Q => rRep1 K x y H Q ∨ rRepT K x y H Q
theorem op_repZ {X : Cx} : OpR X (binaryOp .Mult) (rRepZ X.K) := op_or op_repT1 op_repT
theorem flat_rep (n : Nat) (v : V) : (List.replicate n [v]).flatten = List.replicate n v := by
  induction n with
  | zero => rfl
  | succ n ih => rw [List.replicate_succ, List.flatten_cons, ih, List.replicate_succ]; rfl
theorem ni_zeros (n : Nat) : List.replicate n (V.int 0) = ni (List.replicate n 0) := by
  unfold ni
  rw [List.map_replicate]
  rfl
/-- what it gives: a tuple of zeros -/
theorem repZ {K : PySem.W.Frag} {H : Hp} {Q : VK} {l : Addr} {k : Nat} (h1 : 1 ≤ k) (h2 : k ≤ 1000) (hl : H l = some (.tup [.int 0])) (q : ∀ p H', Same H H' → H' p = some (.tup (ni (List.replicate k 0))) → Q (.ref p) H') : rRepZ K (.ref l) (.int (k : Int)) H Q := by
  by_cases c : k = 1
  · subst c
    exact .inl ⟨l, _, rfl, rfl, SqT.of hl, q l H (fun _ _ z => z) hl⟩
  · refine .inr ⟨l, k, _, rfl, rfl, SqT.of hl, by simp, by omega, by omega, by simp, fun p hp => q p _ (same_new hp _) (upd_same.trans ?_)⟩
    rw [flat_rep, ni_zeros, Int.toNat_natCast]
end Vk
namespace Vk
open PySem L2
theorem ixN_of {n i : Nat} (h : i < n) {z : Int} (e : z = (i : Int)) : ixN n z = some i := by
  subst e
  unfold ixN
  rw [if_pos (by omega), if_pos (by omega), Int.toNat_natCast]
theorem listOf {K : PySem.W.Frag} {a : Addr} {xs : List V} {H : Hp} {Q : VK} (h : Sq K H a xs) (q : ∀ l, H l = none → Q (.ref l) (upd H l (.lst xs))) : rListOf K [.ref a] H Q := ⟨a, xs, rfl, h, q⟩
/-- [list(x) for x in xs]: new lists, no two alike -/
theorem lc_copy {J : It} {G : Hp → Prop} {K : PySem.W.Frag} {j : Nat} {σ : St} {H : Hp} {Q : Addr → Hp → Prop} {as : List Addr} {cs : List (List V)} (w : Walk J (rf as).length G (fun i H x H' => H' = H ∧ x = (rf as).getD i .non)) (hT : ∀ H1, Same H H1 → G H1) (hn : as.length ≤ 1000)
    (h : LL (fun a c => Sq K H a c) as cs) (hj : j < σ.length)
    (q : ∀ D H1 bs, H D = none → Same H H1 → H1 D = some (.lst (rf bs)) → bs.Nodup → (∀ b ∈ bs, H b = none ∧ b ≠ D) → LL (fun b c => H1 b = some (.lst c)) bs cs → Q D H1) :
    ∀ D, H D = none → ∃ W : Nat → Nat → Hp → Prop, (∃ m, W 0 m (upd H D (.lst []))) ∧ ∀ i m H, W i m H →
      (J.stop i H ∧ Q D H) ∨ (J.go i H ∧ ∃ Nx : Hp → Prop, (∀ H', Nx H' → ∃ m', m' < m ∧ W (i + 1) m' H') ∧ ∀ x H', J.yld i H x H' → gName j x (wipe σ [j]) H' fun σ2 H2 => wipe σ2 [j] = wipe σ [j] ∧ tYes σ2 H2 fun b H3 =>
        if b = true then (tCB (rListOf K) (tCons (tVar j) tNil)) σ2 H3 fun y H4 => ∃ acc, H4 D = some (.lst acc) ∧ acc.length < sizeLine ∧ Nx (upd H4 D (.lst (acc ++ [y]))) else Nx H3) := by
  intro D hD
  have lr := rf_len as
  refine lc_it w (fun i H1 => Same H H1 ∧ ∃ bs, H1 D = some (.lst (rf bs)) ∧ bs.length = i ∧ bs.Nodup ∧ (∀ b ∈ bs, H b = none ∧ b ≠ D) ∧ LL (fun b c => H1 b = some (.lst c)) bs (cs.take i))
    ⟨same_new hD _, [], upd_same, rfl, List.nodup_nil, (fun b hb => by cases hb), by rw [List.take_zero]; exact LL.nil⟩ (fun i H1 _ h => hT _ h.1) (fun i x H1 H' hi hp hy => ?_) (fun H1 hp => ?_)
  · obtain ⟨rfl, rfl⟩ := hy
    obtain ⟨s, bs, e, hl, nd, hb, L⟩ := hp
    obtain ⟨a, ea⟩ := get_of_lt (xs := as) (i := i) (by omega)
    obtain ⟨c, ec, hc⟩ := h.getL ea
    refine ⟨wipe1 σ j _, ?_⟩
    show tYes ((wipe σ [j]).set j (some ((rf as).getD i .non))) H' _
    simp only [tYes, if_true]
    rw [show (wipe σ [j]).set j (some ((rf as).getD i .non)) = σ.set j (some ((rf as).getD i .non)) from set_none σ j _, getD_of (rf_get ea)]
    refine ⟨_, List.getElem?_set_self hj, a, _, rfl, hc.same s, fun l hl2 => ?_⟩
    have s2 := same_new hl2 (.lst c)
    have nlD : l ≠ D := (ne_of_none e hl2).symm
    have nb : ∀ b ∈ bs, b ≠ l := fun b hb => by
      obtain ⟨k, hk⟩ := List.getElem?_of_mem hb
      obtain ⟨c', _, hc'⟩ := L.getL hk
      exact ne_of_none hc' hl2
    refine ⟨_, s2 _ _ e, by rw [rf_len]; exact line1000 (m := 1000) (by omega) (by decide), same_upd (s.trans s2) hD, bs ++ [l], by rw [upd_same, rf_app]; rfl, by rw [List.length_append, hl]; rfl, ?_, fun b hbm => ?_, ?_⟩
    · exact List.nodup_append.mpr ⟨nd, by simp, fun x hx y hy e => nb x hx (by rw [List.mem_singleton.mp hy] at e; exact e)⟩
    · rcases List.mem_append.mp hbm with h | h
      · exact hb b h
      · rw [List.mem_singleton.mp h]
        exact ⟨s.free hl2, nlD⟩
    · have et : cs.take (i + 1) = cs.take i ++ [c] := by rw [List.take_add_one, ec]; rfl
      rw [et]
      refine LL.snoc ⟨L.len, fun k b c' hk hc' => ?_⟩ (upd_keep upd_same nlD)
      exact upd_keep (s2 _ _ (L.at_ k b c' hk hc')) (hb b (mem_of_get hk)).2
  · obtain ⟨s, bs, e, hl, nd, hb, L⟩ := hp
    rw [lr, h.len, List.take_length] at L
    exact q D H1 bs hD s e nd hb L
/-- a for over a list or a tuple at slot i -/
theorem for_sq {K : PySem.W.Frag} {i : Nat} {a : Addr} {xs : List V} {g : TG} {tb : TS} {D : Ends} {σ : St} {H0 H : Hp} (hσ : σ[i]? = some (some (.ref a))) (hS : Sq K H0 a xs) (Pv : Nat → St → Hp → Prop) (h0 : Pv 0 σ H) (hl : ∀ i σ H', i ≤ xs.length → Pv i σ H' → Same H0 H')
    (hs : ∀ (i : Nat) (x : V) σ H, xs[i]? = some x → Pv i σ H → g x σ H fun σ2 H2 => tb { D with nx := Pv (i + 1), ct := Pv (i + 1), bk := D.nx } σ2 H2) (hd : ∀ σ H, Pv xs.length σ H → D.nx σ H) :
    tFor (fun σ H R => iList K (tVar i) σ H R ∨ iTup K (tVar i) σ H R) g tb D σ H := by
  rcases hS with h | h
  · exact .inl ⟨_, hσ, a, rfl, ⟨_, (hl 0 σ H (Nat.zero_le _) h0).seq h⟩, for_list (xs := xs) Pv h0 (fun i σ H' hi hp => (hl i σ H' hi hp).seq h) hs hd⟩
  · exact .inr ⟨_, hσ, a, rfl, ⟨_, Vk.Same.tup (hl 0 σ H (Nat.zero_le _) h0) h⟩, for_tup (xs := xs) Pv h0 (fun i σ H' hi hp => Vk.Same.tup (hl i σ H' hi hp) h) hs hd⟩
theorem repZ' {K : PySem.W.Frag} {H : Hp} {Q : VK} {l : Addr} {k : Nat} {z : Int} (e : z = (k : Int)) (h1 : 1 ≤ k) (h2 : k ≤ 1000) (hl : H l = some (.tup [.int 0])) (q : ∀ p H', Same H H' → H' p = some (.tup (ni (List.replicate k 0))) → Q (.ref p) H') : rRepZ K (.ref l) (.int z) H Q := by
  subst e
  exact repZ h1 h2 hl q
/-- a comprehension that makes a new list at each turn: no two alike -/
theorem lc_news {J : It} {n j : Nat} {G : Hp → Prop} {te : TE} {σ : St} {H : Hp} {Q : Addr → Hp → Prop} {X : Nat → V} (w : Walk J n G (fun i H x H' => H' = H ∧ x = X i)) (hT : ∀ H1, Same H H1 → G H1) (hn : n ≤ 1000) (cont : Nat → List V)
    (hs : ∀ (i : Nat) (H1 : Hp) (Qe : VK), i < n → Same H H1 → (∀ l H2, Same H1 H2 → H1 l = none → H2 l = some (.lst (cont i)) → Qe (.ref l) H2) → te (σ.set j (some (X i))) H1 Qe)
    (q : ∀ D H1 bs, H D = none → Same H H1 → H1 D = some (.lst (rf bs)) → bs.Nodup → (∀ b ∈ bs, H b = none ∧ b ≠ D) → bs.length = n → (∀ (i : Nat) b, bs[i]? = some b → H1 b = some (.lst (cont i))) → Q D H1) :
    ∀ D, H D = none → ∃ W : Nat → Nat → Hp → Prop, (∃ m, W 0 m (upd H D (.lst []))) ∧ ∀ i m H, W i m H →
      (J.stop i H ∧ Q D H) ∨ (J.go i H ∧ ∃ Nx : Hp → Prop, (∀ H', Nx H' → ∃ m', m' < m ∧ W (i + 1) m' H') ∧ ∀ x H', J.yld i H x H' → gName j x (wipe σ [j]) H' fun σ2 H2 => wipe σ2 [j] = wipe σ [j] ∧ tYes σ2 H2 fun b H3 =>
        if b = true then te σ2 H3 fun y H4 => ∃ acc, H4 D = some (.lst acc) ∧ acc.length < sizeLine ∧ Nx (upd H4 D (.lst (acc ++ [y]))) else Nx H3) := by
  intro D hD
  refine lc_it w (fun i H1 => Same H H1 ∧ ∃ bs, H1 D = some (.lst (rf bs)) ∧ bs.length = i ∧ bs.Nodup ∧ (∀ b ∈ bs, H b = none ∧ b ≠ D) ∧ ∀ (k : Nat) b, bs[k]? = some b → H1 b = some (.lst (cont k)))
    ⟨same_new hD _, [], upd_same, rfl, List.nodup_nil, (fun b hb => by cases hb), (fun k b h => by simp at h)⟩ (fun i H1 _ h => hT _ h.1) (fun i x H1 H' hi hp hy => ?_) (fun H1 hp => ?_)
  · obtain ⟨rfl, rfl⟩ := hy
    obtain ⟨s, bs, e, hl, nd, hb, L⟩ := hp
    refine ⟨wipe1 σ j _, ?_⟩
    show tYes ((wipe σ [j]).set j (some (X i))) H' _
    simp only [tYes, if_true]
    rw [show (wipe σ [j]).set j (some (X i)) = σ.set j (some (X i)) from set_none σ j _]
    refine hs i H' _ hi s fun l H2 s2 fl el => ?_
    have nlD : l ≠ D := (ne_of_none e fl).symm
    have nb : ∀ b ∈ bs, b ≠ l := fun b hb => by
      obtain ⟨k, hk⟩ := List.getElem?_of_mem hb
      exact ne_of_none (L k b hk) fl
    refine ⟨_, s2 _ _ e, by rw [rf_len]; exact line1000 (m := n) (by omega) hn, same_upd (s.trans s2) hD, bs ++ [l], by rw [upd_same, rf_app]; rfl, by rw [List.length_append, hl]; rfl, ?_, fun b hbm => ?_, fun k b hk => ?_⟩
    · exact List.nodup_append.mpr ⟨nd, by simp, fun x hx y hy e => nb x hx (by rw [List.mem_singleton.mp hy] at e; exact e)⟩
    · rcases List.mem_append.mp hbm with h | h
      · exact hb b h
      · rw [List.mem_singleton.mp h]
        exact ⟨s.free fl, nlD⟩
    · by_cases c : k < bs.length
      · rw [List.getElem?_append_left c] at hk
        exact upd_keep (s2 _ _ (L k b hk)) (hb b (mem_of_get hk)).2
      · rw [List.getElem?_append_right (by omega)] at hk
        have hk0 : k - bs.length = 0 := by
          cases q : k - bs.length with
          | zero => rfl
          | succ m => rw [q] at hk; simp at hk
        rw [hk0] at hk
        have z1 : l = b := by simpa using hk
        have z2 : k = i := by omega
        subst z1
        subst z2
        exact upd_keep el nlD
  · obtain ⟨s, bs, e, hl, nd, hb, L⟩ := hp
    exact q D H1 bs hD s e nd hb hl L
theorem LL.app {α β : Type} {P : α → β → Prop} {as as' : List α} {rs rs' : List β} (h : LL P as rs) (h' : LL P as' rs') : LL P (as ++ as') (rs ++ rs') := by
  refine ⟨by rw [List.length_append, List.length_append, h.len, h'.len], fun i a r ha hr => ?_⟩
  by_cases c : i < as.length
  · rw [List.getElem?_append_left c] at ha
    rw [List.getElem?_append_left (h.len ▸ c)] at hr
    exact h.at_ i a r ha hr
  · rw [List.getElem?_append_right (by omega)] at ha
    rw [List.getElem?_append_right (by have := h.len; omega)] at hr
    rw [h.len] at ha
    exact h'.at_ _ a r ha hr
theorem ni_ints (ns : List Nat) : ni ns = (ns.map fun n : Nat => (n : Int)).map V.int := by
  unfold ni
  rw [List.map_map]
  rfl
theorem sum_cast : ∀ ns : List Nat, (ns.map fun n : Nat => (n : Int)).sum = ((ns.sum : Nat) : Int)
  | [] => rfl
  | n :: ns => by
    rw [List.map_cons, List.sum_cons, List.sum_cons, sum_cast ns]
    omega
theorem cut_int {ns : List Int} {lo hi : Option Int} {i : Nat} {v : V} (h : (cutV (ns.map V.int) lo hi)[i]? = some v) : ∃ n, v = V.int n := by
  have := mem_of_get h
  unfold cutV at this
  obtain ⟨n, _, e⟩ := List.mem_map.mp (List.mem_of_mem_drop (List.mem_of_mem_take this))
  exact ⟨n, e.symm⟩
end Vk
namespace Vk
/-! ### nodes above one another -/
def cstep (s : List Nat × Nat) : List Nat × Nat := if 1 < s.2 then (s.1 ++ [s.2 / 2], s.2 / 2) else s
def citer : Nat → List Nat × Nat → List Nat × Nat
  | 0, s => s
  | n + 1, s => cstep (citer n s)
def chain (v : Nat) : List Nat := (citer 4 ([v], v)).1
def un (v t : Nat) : Bool := decide (t ∈ chain v)
def red (t : Nat) : Nat → Nat → Nat
  | 0, n => n
  | f + 1, n => if t < n then red t f (n / 2) else n
theorem red_un : ∀ v < 32, ∀ t < 32, 1 ≤ v → 1 ≤ t → decide (red t 6 v = t) = un v t := by decide +kernel
theorem red_step : ∀ n < 32, ∀ t < 32, 1 ≤ t → t < n → red t 6 (n / 2) = red t 6 n := by decide +kernel
theorem red_end : ∀ n < 32, ∀ t < 32, ¬ t < n → red t 6 n = n := by decide +kernel
theorem citer_len : ∀ v < 32, ∀ k < 5, (citer k ([v], v)).1.length ≤ 5 := by decide +kernel
theorem citer_pos : ∀ v < 32, 1 ≤ v → ∀ k < 5, 1 ≤ (citer k ([v], v)).2 ∧ (citer k ([v], v)).2 < 32 := by decide +kernel
theorem chain_len : ∀ v < 32, (chain v).length ≤ 5 := by decide +kernel
end Vk
namespace Vk
/-! ### the crew: data -/
structure Rows where
  h : Nat
  seats : List Nat
  lean : List (List Nat)
def Rows.N (r : Rows) : Nat := 2 ^ r.h
def Rows.P (r : Rows) : Nat := r.seats.length
structure Rows.ok (r : Rows) : Prop where
  h1 : 1 ≤ r.h
  h4 : r.h ≤ 4
  s1 : 1 ≤ r.seats.length
  s16 : r.seats.length ≤ 16
  sN : ∀ s ∈ r.seats, s < r.N
  ll : r.lean.length = r.seats.length
  rl : ∀ row ∈ r.lean, row.length = r.N - 1
  r1 : ∀ row ∈ r.lean, ∀ x ∈ row, x ≤ 1
theorem Rows.ok.pow {r : Rows} (k : r.ok) : r.N = 2 ∨ r.N = 4 ∨ r.N = 8 ∨ r.N = 16 := by
  have h1 := k.h1
  have h4 := k.h4
  unfold Rows.N
  have : r.h = 1 ∨ r.h = 2 ∨ r.h = 3 ∨ r.h = 4 := by omega
  rcases this with e | e | e | e <;> rw [e] <;> simp
theorem Rows.ok.pos {r : Rows} (k : r.ok) : 2 ≤ r.N ∧ r.N ≤ 16 := by
  have := k.pow
  omega
/-! ### numbers of a row, 0 beyond it -/
def gt (l : List Nat) (i : Nat) : Nat := l.getD i 0
theorem gt_of {l : List Nat} {i x : Nat} (h : l[i]? = some x) : gt l i = x := by unfold gt; rw [List.getD_eq_getElem?_getD, h]; rfl
theorem gt_get {l : List Nat} {i : Nat} (h : i < l.length) : l[i]? = some (gt l i) := by
  unfold gt
  rw [List.getD_eq_getElem?_getD, List.getElem?_eq_getElem h]
  rfl
theorem gt_mem {l : List Nat} {i : Nat} (h : i < l.length) : gt l i ∈ l := List.mem_of_getElem? (gt_get h)
theorem gt_set {l : List Nat} {i j x : Nat} (h : i < l.length) : gt (l.set i x) j = if j = i then x else gt l j := by
  unfold gt
  rw [List.getD_eq_getElem?_getD, List.getD_eq_getElem?_getD, List.getElem?_set]
  by_cases c : i = j
  · subst c
    rw [if_pos rfl, if_pos h, if_pos rfl]
    rfl
  · rw [if_neg c, if_neg (Ne.symm c)]
theorem gt_rep (n x j : Nat) : gt (List.replicate n x) j = if j < n then x else 0 := by
  unfold gt
  rw [List.getD_eq_getElem?_getD, List.getElem?_replicate]
  by_cases c : j < n
  · rw [if_pos c, if_pos c]; rfl
  · rw [if_neg c, if_neg c]; rfl
theorem gt_ext {a b : List Nat} (hl : a.length = b.length) (h : ∀ i, i < a.length → gt a i = gt b i) : a = b := by
  refine List.ext_getElem? fun i => ?_
  by_cases c : i < a.length
  · rw [gt_get c, gt_get (hl ▸ c), h i c]
  · rw [List.getElem?_eq_none (by omega), List.getElem?_eq_none (by omega)]
/-! ### the walk -/
structure Spot where
  d : List Nat
  c : List Nat
  p : List Nat
structure Spot.ok (r : Rows) (s : Spot) : Prop where
  ld : s.d.length = 2 * r.N
  lc : s.c.length = r.N
  lp : s.p.length = r.P
  d1 : ∀ v, gt s.d v ≤ 1
  pN : ∀ w, gt s.p w < 2 * r.N
inductive WAct
  | idle | take | up | work | mark | down
  deriving DecidableEq
def leanF (r : Rows) (w v : Nat) : Nat := gt (r.lean.getD w []) (v - 1)
def seatF (r : Rows) (w : Nat) : Nat := r.N + gt r.seats w
/-- act, place before, place behind -/
def turnF (r : Rows) (s : Spot) (w : Nat) : WAct × Nat × Nat :=
  if gt s.d 1 = 1 then (.idle, gt s.p w, gt s.p w)
  else if gt s.p w = 0 then (.take, gt s.p w, seatF r w)
  else if gt s.d (gt s.p w) = 1 then (.up, gt s.p w, gt s.p w / 2)
  else if r.N ≤ gt s.p w then (.work, gt s.p w, gt s.p w)
  else if gt s.d (2 * gt s.p w) = 1 ∧ gt s.d (2 * gt s.p w + 1) = 1 then (.mark, gt s.p w, gt s.p w)
  else (.down, gt s.p w, if gt s.d (2 * gt s.p w) = 1 then 2 * gt s.p w + 1 else if gt s.d (2 * gt s.p w + 1) = 1 then 2 * gt s.p w else 2 * gt s.p w + leanF r w (gt s.p w))
theorem turn_at (r : Rows) (s : Spot) (w : Nat) : (turnF r s w).2.1 = gt s.p w := by
  unfold turnF
  (repeat' split) <;> rfl
/-- what a mark at v or the work at v sets there -/
def valF (r : Rows) (ns : List Nat) (s : Spot) (v : Nat) : Nat := if v < r.N then 1 else if gt s.c (v - r.N) + 1 = gt ns (v - r.N) then 1 else 0
/-- the worker marks v, or works there -/
def hit (r : Rows) (s : Spot) (v w : Nat) : Bool := ((turnF r s w).1 = .mark ∨ (turnF r s w).1 = .work) ∧ gt s.p w = v
def stepF (r : Rows) (ns : List Nat) (s t : Spot) (w : Nat) : Spot :=
  { d := if (turnF r s w).1 = .mark ∨ (turnF r s w).1 = .work then t.d.set (gt s.p w) (valF r ns s (gt s.p w)) else t.d
    c := if (turnF r s w).1 = .work then t.c.set (gt s.p w - r.N) (gt s.c (gt s.p w - r.N) + 1) else t.c
    p := t.p.set w (turnF r s w).2.2 }
def foldF (r : Rows) (ns : List Nat) (s : Spot) (g : List Nat) (t : Spot) : Spot := g.foldl (stepF r ns s) t
def tickF (r : Rows) (ns : List Nat) (s : Spot) (g : List Nat) : Spot := if gt s.d 1 = 1 then s else foldF r ns s g s
def startF (r : Rows) : Spot := ⟨List.replicate (2 * r.N) 0, List.replicate r.N 0, List.replicate r.P 0⟩
theorem start_ok (r : Rows) (k : r.ok) : (startF r).ok r := by
  have := k.pos
  refine ⟨List.length_replicate, List.length_replicate, List.length_replicate, fun v => ?_, fun w => ?_⟩
  · show gt (List.replicate _ 0) v ≤ 1
    rw [gt_rep]
    split <;> omega
  · show gt (List.replicate _ 0) w < _
    rw [gt_rep]
    split <;> omega
section
variable {r : Rows} {ns : List Nat} {s : Spot}
theorem lean_le (k : r.ok) (w v : Nat) : leanF r w v ≤ 1 := by
  unfold leanF
  by_cases c : w < r.lean.length
  · have e : r.lean.getD w [] = r.lean[w] := by rw [List.getD_eq_getElem?_getD, List.getElem?_eq_getElem c]; rfl
    rw [e]
    by_cases c2 : v - 1 < r.lean[w].length
    · exact k.r1 _ (List.getElem_mem c) _ (gt_mem c2)
    · unfold gt
      rw [List.getD_eq_getElem?_getD, List.getElem?_eq_none (by omega)]
      exact Nat.zero_le _
  · have e : r.lean.getD w [] = [] := by rw [List.getD_eq_getElem?_getD, List.getElem?_eq_none (by omega)]; rfl
    rw [e]
    exact Nat.zero_le _
theorem seat_lt' (k : r.ok) {w : Nat} (h : w < r.P) : r.N ≤ seatF r w ∧ seatF r w < 2 * r.N := by
  unfold seatF
  have := k.sN _ (gt_mem h)
  omega
/-- where a turn leads stays in the tree -/
theorem turn_to (k : r.ok) (o : s.ok r) {w : Nat} (hw : w < r.P) : (turnF r s w).2.2 < 2 * r.N := by
  have hp := o.pN w
  have hs := seat_lt' k hw
  have hl := lean_le k w (gt s.p w)
  have hN := k.pos
  unfold turnF
  by_cases c1 : gt s.d 1 = 1
  · rw [if_pos c1]; exact hp
  rw [if_neg c1]
  by_cases c2 : gt s.p w = 0
  · rw [if_pos c2]; exact hs.2
  rw [if_neg c2]
  by_cases c3 : gt s.d (gt s.p w) = 1
  · rw [if_pos c3]
    show gt s.p w / 2 < _
    omega
  rw [if_neg c3]
  by_cases c4 : r.N ≤ gt s.p w
  · rw [if_pos c4]; exact hp
  rw [if_neg c4]
  by_cases c5 : gt s.d (2 * gt s.p w) = 1 ∧ gt s.d (2 * gt s.p w + 1) = 1
  · rw [if_pos c5]; exact hp
  rw [if_neg c5]
  show (if gt s.d (2 * gt s.p w) = 1 then 2 * gt s.p w + 1 else if gt s.d (2 * gt s.p w + 1) = 1 then 2 * gt s.p w else 2 * gt s.p w + leanF r w (gt s.p w)) < _
  by_cases c6 : gt s.d (2 * gt s.p w) = 1
  · rw [if_pos c6]; omega
  rw [if_neg c6]
  by_cases c7 : gt s.d (2 * gt s.p w + 1) = 1
  · rw [if_pos c7]; omega
  rw [if_neg c7]
  omega
/-- one of the two ways in which a turn hits -/
theorem hit_lt (o : s.ok r) {v w : Nat} (h : hit r s v w = true) : v < 2 * r.N ∧ gt s.p w = v := by
  unfold hit at h
  simp only [decide_eq_true_eq] at h
  exact ⟨h.2 ▸ o.pN w, h.2⟩
theorem step_len (t : Spot) (w : Nat) : (stepF r ns s t w).d.length = t.d.length ∧ (stepF r ns s t w).c.length = t.c.length ∧ (stepF r ns s t w).p.length = t.p.length := by
  refine ⟨?_, ?_, ?_⟩
  · show (if _ then _ else _ : List Nat).length = _
    split
    · exact List.length_set
    · rfl
  · show (if _ then _ else _ : List Nat).length = _
    split
    · exact List.length_set
    · rfl
  · exact List.length_set
theorem fold_len : ∀ (g : List Nat) (t : Spot), (foldF r ns s g t).d.length = t.d.length ∧ (foldF r ns s g t).c.length = t.c.length ∧ (foldF r ns s g t).p.length = t.p.length
  | [], t => ⟨rfl, rfl, rfl⟩
  | w :: g, t => by
    have h1 := fold_len g (stepF r ns s t w)
    have h2 := step_len (r := r) (ns := ns) (s := s) t w
    exact ⟨h1.1.trans h2.1, h1.2.1.trans h2.2.1, h1.2.2.trans h2.2.2⟩
theorem fold_p : ∀ (g : List Nat) (t : Spot) (_ : t.p.length = r.P) (_ : ∀ w ∈ g, w < r.P) (w : Nat), gt (foldF r ns s g t).p w = if w ∈ g then (turnF r s w).2.2 else gt t.p w
  | [], t, _, _, w => by rw [if_neg (by simp)]; rfl
  | x :: g, t, hl, hg, w => by
    have h1 := fold_p g (stepF r ns s t x) ((step_len t x).2.2.trans hl) (fun w h => hg w (List.mem_cons_of_mem _ h)) w
    have h2 : gt (stepF r ns s t x).p w = if w = x then (turnF r s x).2.2 else gt t.p w := gt_set (hl ▸ hg x (List.mem_cons_self ..))
    show gt (foldF r ns s g (stepF r ns s t x)).p w = _
    rw [h1, h2]
    by_cases c : w ∈ g
    · rw [if_pos c, if_pos (List.mem_cons_of_mem _ c)]
    · rw [if_neg c]
      by_cases c2 : w = x
      · subst c2
        rw [if_pos rfl, if_pos (List.mem_cons_self ..)]
      · rw [if_neg c2, if_neg (by simp [c, c2])]
theorem fold_d (o : s.ok r) : ∀ (g : List Nat) (t : Spot) (_ : t.d.length = 2 * r.N) (v : Nat), gt (foldF r ns s g t).d v = if g.any (hit r s v) then valF r ns s v else gt t.d v
  | [], t, _, v => rfl
  | x :: g, t, hl, v => by
    have h1 := fold_d o g (stepF r ns s t x) ((step_len t x).1.trans hl) v
    have h2 : gt (stepF r ns s t x).d v = if hit r s v x = true then valF r ns s v else gt t.d v := by
      show gt (if _ then _ else _) v = _
      by_cases c : (turnF r s x).1 = .mark ∨ (turnF r s x).1 = .work
      · rw [if_pos c, gt_set (hl ▸ o.pN x)]
        by_cases c2 : v = gt s.p x
        · rw [if_pos c2, if_pos (by unfold hit; simp [c, c2]), c2]
        · rw [if_neg c2, if_neg (by unfold hit; simp [Ne.symm c2])]
      · rw [if_neg c, if_neg (by unfold hit; simp [c])]
    show gt (foldF r ns s g (stepF r ns s t x)).d v = _
    rw [h1, h2, List.any_cons]
    cases e1 : g.any (hit r s v) <;> cases e2 : hit r s v x <;> simp
theorem work_at {w : Nat} (h : (turnF r s w).1 = .work) : r.N ≤ gt s.p w := by
  unfold turnF at h
  (repeat' (split at h)) <;> first | assumption | cases h
theorem mark_at {w : Nat} (h : (turnF r s w).1 = .mark) : gt s.p w < r.N := by
  unfold turnF at h
  (repeat' (split at h)) <;> first | omega | cases h
theorem fold_c (o : s.ok r) : ∀ (g : List Nat) (t : Spot) (_ : t.c.length = r.N) (x : Nat), gt (foldF r ns s g t).c x = if g.any (hit r s (r.N + x)) then gt s.c x + 1 else gt t.c x
  | [], t, _, x => rfl
  | y :: g, t, hl, x => by
    have h1 := fold_c o g (stepF r ns s t y) ((step_len t y).2.1.trans hl) x
    have h2 : gt (stepF r ns s t y).c x = if hit r s (r.N + x) y = true then gt s.c x + 1 else gt t.c x := by
      show gt (if _ then _ else _) x = _
      by_cases c : (turnF r s y).1 = .work
      · have hw := work_at c
        have hp := o.pN y
        rw [if_pos c, gt_set (by omega)]
        by_cases c2 : x = gt s.p y - r.N
        · rw [if_pos c2, if_pos (by unfold hit; simp [c]; omega), c2]
        · rw [if_neg c2, if_neg (by unfold hit; simp [c]; omega)]
      · rw [if_neg c, if_neg (by
          intro z
          unfold hit at z
          simp only [decide_eq_true_eq] at z
          rcases z.1 with z1 | z1
          · have := mark_at z1
            omega
          · exact c z1)]
    show gt (foldF r ns s g (stepF r ns s t y)).c x = _
    rw [h1, h2, List.any_cons]
    cases e1 : g.any (hit r s (r.N + x)) <;> cases e2 : hit r s (r.N + x) y <;> simp
end
end Vk
namespace Vk
inductive TurnC (r : Rows) (s : Spot) (w : Nat) : WAct → Nat → Prop
  | idle (h : gt s.d 1 = 1) : TurnC r s w .idle (gt s.p w)
  | take (h : gt s.d 1 ≠ 1) (hp : gt s.p w = 0) : TurnC r s w .take (seatF r w)
  | up (h : gt s.d 1 ≠ 1) (hp : gt s.p w ≠ 0) (hd : gt s.d (gt s.p w) = 1) : TurnC r s w .up (gt s.p w / 2)
  | work (h : gt s.d 1 ≠ 1) (hp : gt s.p w ≠ 0) (hd : gt s.d (gt s.p w) ≠ 1) (hn : r.N ≤ gt s.p w) : TurnC r s w .work (gt s.p w)
  | mark (h : gt s.d 1 ≠ 1) (hp : gt s.p w ≠ 0) (hd : gt s.d (gt s.p w) ≠ 1) (hn : gt s.p w < r.N) (h1 : gt s.d (2 * gt s.p w) = 1) (h2 : gt s.d (2 * gt s.p w + 1) = 1) : TurnC r s w .mark (gt s.p w)
  | down (c : Nat) (h : gt s.d 1 ≠ 1) (hp : gt s.p w ≠ 0) (hd : gt s.d (gt s.p w) ≠ 1) (hn : gt s.p w < r.N) (hc : c = 2 * gt s.p w ∨ c = 2 * gt s.p w + 1) (hm : gt s.d c ≠ 1)
      (hl : gt s.d (2 * gt s.p w) ≠ 1 → gt s.d (2 * gt s.p w + 1) ≠ 1 → c = 2 * gt s.p w + leanF r w (gt s.p w)) : TurnC r s w .down c
theorem turnC {r : Rows} {s : Spot} (k : r.ok) (w : Nat) : TurnC r s w (turnF r s w).1 (turnF r s w).2.2 := by
  have hl := lean_le k w (gt s.p w)
  unfold turnF
  by_cases c1 : gt s.d 1 = 1
  · rw [if_pos c1]; exact .idle c1
  rw [if_neg c1]
  by_cases c2 : gt s.p w = 0
  · rw [if_pos c2]; exact .take c1 c2
  rw [if_neg c2]
  by_cases c3 : gt s.d (gt s.p w) = 1
  · rw [if_pos c3]; exact .up c1 c2 c3
  rw [if_neg c3]
  by_cases c4 : r.N ≤ gt s.p w
  · rw [if_pos c4]; exact .work c1 c2 c3 c4
  rw [if_neg c4]
  by_cases c5 : gt s.d (2 * gt s.p w) = 1 ∧ gt s.d (2 * gt s.p w + 1) = 1
  · rw [if_pos c5]; exact .mark c1 c2 c3 (by omega) c5.1 c5.2
  rw [if_neg c5]
  show TurnC r s w .down (if gt s.d (2 * gt s.p w) = 1 then 2 * gt s.p w + 1 else if gt s.d (2 * gt s.p w + 1) = 1 then 2 * gt s.p w else 2 * gt s.p w + leanF r w (gt s.p w))
  by_cases c6 : gt s.d (2 * gt s.p w) = 1
  · rw [if_pos c6]; exact .down _ c1 c2 c3 (by omega) (.inr rfl) (fun z => c5 ⟨c6, z⟩) (fun z => absurd c6 z)
  rw [if_neg c6]
  by_cases c7 : gt s.d (2 * gt s.p w + 1) = 1
  · rw [if_pos c7]; exact .down _ c1 c2 c3 (by omega) (.inl rfl) c6 (fun _ z => absurd c7 z)
  rw [if_neg c7]
  refine .down _ c1 c2 c3 (by omega) ?_ ?_ (fun _ _ => rfl)
  · omega
  · have : leanF r w (gt s.p w) = 0 ∨ leanF r w (gt s.p w) = 1 := by omega
    rcases this with e | e <;> rw [e]
    · exact c6
    · exact c7
/-- what holds between ticks -/
structure Inv0 (r : Rows) (ns : List Nat) (s : Spot) : Prop where
  ok : s.ok r
  d0 : gt s.d 0 = 0
  leaf : ∀ x, x < r.N → gt s.d (r.N + x) ≠ 1 → gt s.c x < gt ns x
  full : ∀ x, x < r.N → gt s.d (r.N + x) = 1 → gt s.c x = gt ns x
  inner : ∀ v, 1 ≤ v → v < r.N → gt s.d v = 1 → gt s.d (2 * v) = 1 ∧ gt s.d (2 * v + 1) = 1
/-- the tick's own numbers -/
structure Tk (r : Rows) (ns : List Nat) (s : Spot) (g : List Nat) (t : Spot) : Prop where
  ok : t.ok r
  d : ∀ v, gt t.d v = if g.any (hit r s v) then valF r ns s v else gt s.d v
  c : ∀ x, gt t.c x = if g.any (hit r s (r.N + x)) then gt s.c x + 1 else gt s.c x
  p : ∀ w, gt t.p w = if w ∈ g then (turnF r s w).2.2 else gt s.p w
theorem val_le (r : Rows) (ns : List Nat) (s : Spot) (v : Nat) : valF r ns s v ≤ 1 := by
  unfold valF
  (repeat' split) <;> omega
theorem tk_of {r : Rows} {ns : List Nat} {s : Spot} {g : List Nat} (k : r.ok) (o : s.ok r) (hg : ∀ w ∈ g, w < r.P) (h1 : gt s.d 1 ≠ 1) : Tk r ns s g (tickF r ns s g) := by
  unfold tickF
  rw [if_neg h1]
  have hl := fold_len (r := r) (ns := ns) (s := s) g s
  have hd := fold_d (ns := ns) o g s o.ld
  have hc := fold_c (ns := ns) o g s o.lc
  have hp := fold_p (r := r) (ns := ns) (s := s) g s o.lp hg
  refine ⟨⟨hl.1.trans o.ld, hl.2.1.trans o.lc, hl.2.2.trans o.lp, fun v => ?_, fun w => ?_⟩, hd, hc, hp⟩
  · rw [hd]
    split
    · exact val_le ..
    · exact o.d1 v
  · rw [hp]
    split
    · rename_i c; exact turn_to k o (hg w c)
    · exact o.pN w
theorem hit_work {r : Rows} {s : Spot} (k : r.ok) {x w : Nat} (h : hit r s (r.N + x) w = true) : (turnF r s w).1 = .work ∧ gt s.p w = r.N + x ∧ gt s.d (r.N + x) ≠ 1 := by
  unfold hit at h
  simp only [decide_eq_true_eq] at h
  obtain ⟨h1, h2⟩ := h
  have T := turnC (s := s) k w
  rcases h1 with h1 | h1
  · have := mark_at h1
    omega
  · rw [h1] at T
    generalize (turnF r s w).2.2 = z at T
    cases T with
    | work _ _ hd _ => exact ⟨h1, h2, h2 ▸ hd⟩
theorem hit_mark {r : Rows} {s : Spot} (k : r.ok) {v w : Nat} (hv : v < r.N) (h : hit r s v w = true) : (turnF r s w).1 = .mark ∧ gt s.p w = v ∧ gt s.d v ≠ 1 ∧ gt s.d (2 * v) = 1 ∧ gt s.d (2 * v + 1) = 1 ∧ v ≠ 0 := by
  unfold hit at h
  simp only [decide_eq_true_eq] at h
  obtain ⟨h1, h2⟩ := h
  have T := turnC (s := s) k w
  rcases h1 with h1 | h1
  · rw [h1] at T
    generalize (turnF r s w).2.2 = z at T
    cases T with
    | mark _ hp hd _ a b => exact ⟨h1, h2, h2 ▸ hd, h2 ▸ a, h2 ▸ b, h2 ▸ hp⟩
  · have := work_at h1
    omega
theorem any_hit {r : Rows} {s : Spot} {g : List Nat} {v : Nat} (h : g.any (hit r s v) = true) : ∃ w ∈ g, hit r s v w = true := List.any_eq_true.mp h
theorem not_any {r : Rows} {s : Spot} {g : List Nat} {v : Nat} (h : ¬ g.any (hit r s v) = true) {w : Nat} (hw : w ∈ g) : hit r s v w ≠ true := fun z => h (List.any_eq_true.mpr ⟨w, hw, z⟩)
theorem d_stays {r : Rows} {ns : List Nat} {s t : Spot} {g : List Nat} (k : r.ok) (T : Tk r ns s g t) {v : Nat} (h : gt s.d v = 1) : gt t.d v = 1 := by
  rw [T.d]
  split
  · rename_i c
    obtain ⟨w, _, hw⟩ := any_hit c
    by_cases hv : v < r.N
    · exact absurd h (hit_mark k hv hw).2.2.1
    · have e : v = r.N + (v - r.N) := by omega
      rw [e] at hw h
      exact absurd h (hit_work k hw).2.2
  · exact h
theorem tk_inv {r : Rows} {ns : List Nat} {s t : Spot} {g : List Nat} (k : r.ok) (I : Inv0 r ns s) (T : Tk r ns s g t) : Inv0 r ns t := by
  have hN := k.pos
  refine ⟨T.ok, ?_, fun x hx hd => ?_, fun x hx hd => ?_, fun v v1 vN hd => ?_⟩
  · rw [T.d, if_neg]
    · exact I.d0
    intro c
    obtain ⟨w, _, hw⟩ := any_hit c
    exact (hit_mark k (by omega) hw).2.2.2.2.2 rfl
  · rw [T.d] at hd
    rw [T.c]
    split
    · rename_i c
      rw [if_pos c] at hd
      unfold valF at hd
      rw [if_neg (by omega)] at hd
      have e : r.N + x - r.N = x := by omega
      rw [e] at hd
      obtain ⟨w, _, hw⟩ := any_hit c
      have h2 := I.leaf x hx (hit_work k hw).2.2
      by_cases c2 : gt s.c x + 1 = gt ns x
      · rw [if_pos c2] at hd
        exact absurd rfl hd
      · omega
    · rename_i c
      rw [if_neg c] at hd
      exact I.leaf x hx hd
  · rw [T.d] at hd
    rw [T.c]
    split
    · rename_i c
      rw [if_pos c] at hd
      unfold valF at hd
      rw [if_neg (by omega)] at hd
      have e : r.N + x - r.N = x := by omega
      rw [e] at hd
      by_cases c2 : gt s.c x + 1 = gt ns x
      · exact c2
      · rw [if_neg c2] at hd
        cases hd
    · rename_i c
      rw [if_neg c] at hd
      exact I.full x hx hd
  · rw [T.d] at hd
    by_cases c : g.any (hit r s v) = true
    · obtain ⟨w, _, hw⟩ := any_hit c
      have h := hit_mark k vN hw
      exact ⟨d_stays k T h.2.2.2.1, d_stays k T h.2.2.2.2.1⟩
    · rw [if_neg c] at hd
      have h := I.inner v v1 vN hd
      exact ⟨d_stays k T h.1, d_stays k T h.2⟩
theorem start_inv {r : Rows} {ns : List Nat} (k : r.ok) (hn : ∀ x, x < r.N → 1 ≤ gt ns x) : Inv0 r ns (startF r) := by
  have hz : ∀ v, gt (startF r).d v = 0 := fun v => by
    show gt (List.replicate _ 0) v = 0
    rw [gt_rep]
    split <;> rfl
  refine ⟨start_ok r k, hz 0, fun x hx _ => ?_, fun x hx h => ?_, fun v _ _ h => ?_⟩
  · have h1 := hn x hx
    show gt (List.replicate _ 0) x < _
    rw [gt_rep]
    split <;> omega
  · rw [hz] at h
    cases h
  · rw [hz] at h
    cases h
/-! ### the end comes -/
theorem un_child : ∀ p < 16, 1 ≤ p → ∀ b < 2, ∀ v < 32, un (2 * p + b) v = (decide (v = 2 * p + b) || un p v) := by decide +kernel
theorem un_self_down : ∀ p < 16, 1 ≤ p → ∀ b < 2, un p (2 * p + b) = false := by decide +kernel
theorem un_half : ∀ p < 32, 2 ≤ p → ∀ v < 32, un (p / 2) v = (un p v && decide (v ≠ p)) := by decide +kernel
theorem un_self : ∀ p < 32, 1 ≤ p → un p p = true := by decide +kernel
def sumF (f : Nat → Nat) : Nat → Nat
  | 0 => 0
  | n + 1 => sumF f n + f n
theorem sum_le {f h : Nat → Nat} : ∀ n, (∀ i, i < n → f i ≤ h i) → sumF f n ≤ sumF h n
  | 0, _ => Nat.le_refl _
  | n + 1, q => by
    have := sum_le n fun i hi => q i (by omega)
    have := q n (by omega)
    show sumF f n + f n ≤ sumF h n + h n
    omega
theorem sum_lt {f h : Nat → Nat} : ∀ n, (∀ i, i < n → f i ≤ h i) → (∃ i, i < n ∧ f i < h i) → sumF f n + 1 ≤ sumF h n
  | 0, _, ⟨i, hi, _⟩ => absurd hi (by omega)
  | n + 1, q, ⟨i, hi, hl⟩ => by
    show sumF f n + f n + 1 ≤ sumF h n + h n
    by_cases c : i = n
    · subst c
      have := sum_le i fun j hj => q j (by omega)
      omega
    · have := sum_lt n (fun j hj => q j (by omega)) ⟨i, by omega, hl⟩
      have := q n (by omega)
      omega
/-- where a worker stands or will stand -/
def epl (r : Rows) (s : Spot) (w : Nat) : Nat := if gt s.p w = 0 then seatF r w else gt s.p w
def cost (r : Rows) (ns : List Nat) (s : Spot) (e v : Nat) : Nat :=
  if gt s.d v = 1 then (if v ≠ 1 ∧ un e v = true then 1 else 0)
  else (if v = 1 then 0 else 1) + (if v ≠ 1 ∧ ¬ un e v = true then 1 else 0) + (if v < r.N then 1 else gt ns (v - r.N) - gt s.c (v - r.N))
def pot (r : Rows) (ns : List Nat) (s : Spot) (w : Nat) : Nat := sumF (fun i => cost r ns s (epl r s w) (i + 1)) (2 * r.N - 1) + (if gt s.p w = 0 then 1 else 0)
theorem cost_le {r : Rows} {ns : List Nat} {s : Spot} {e v : Nat} : cost r ns s e v ≤ (if v = 1 then (if v < r.N then 1 else gt ns (v - r.N)) else 2 + (if v < r.N then 1 else gt ns (v - r.N))) := by
  unfold cost
  by_cases c : v = 1
  · subst c
    simp
    (repeat' split) <;> omega
  · (repeat' split) <;> simp_all <;> omega
theorem cost_same {r : Rows} {ns : List Nat} {s t : Spot} {g : List Nat} {e e' v : Nat} (k : r.ok) (T : Tk r ns s g t) (h : un e' v = un e v) : cost r ns t e' v ≤ cost r ns s e v := by
  unfold cost
  rw [h]
  by_cases c1 : gt s.d v = 1
  · rw [if_pos c1, if_pos (d_stays k T c1)]
    exact Nat.le_refl _
  · rw [if_neg c1]
    have hc : gt s.c (v - r.N) ≤ gt t.c (v - r.N) := by
      rw [T.c]
      split <;> omega
    by_cases c2 : gt t.d v = 1
    · rw [if_pos c2]
      by_cases c3 : v = 1
      · simp [c3]
      · simp only [c3, if_false]
        split <;> omega
    · rw [if_neg c2]
      split <;> split <;> split <;> omega
theorem pot_dec {r : Rows} {ns : List Nat} {s t : Spot} {g : List Nat} {w : Nat} (k : r.ok) (I : Inv0 r ns s) (T : Tk r ns s g t) (h1 : gt s.d 1 ≠ 1) (hw : w < r.P) (hm : w ∈ g) : pot r ns t w + 1 ≤ pot r ns s w := by
  have hN := k.pos
  have hp := I.ok.pN w
  have ht : gt t.p w = (turnF r s w).2.2 := by rw [T.p, if_pos hm]
  have C := turnC (s := s) k w
  have hh : ∀ v, (turnF r s w).1 = .mark ∨ (turnF r s w).1 = .work → gt s.p w = v → gt t.d v = valF r ns s v := fun v q e => by
    rw [T.d, if_pos]
    refine List.any_eq_true.mpr ⟨w, hm, ?_⟩
    unfold hit
    simp only [decide_eq_true_eq]
    exact ⟨q, e⟩
  have main : ∀ e e' : Nat, epl r s w = e → epl r t w = e' → (if gt t.p w = 0 then 1 else 0) ≤ (if gt s.p w = 0 then 1 else 0) → ∀ v, 1 ≤ v → v < 2 * r.N → cost r ns t e' v < cost r ns s e v → (∀ u, 1 ≤ u → u < 2 * r.N → u ≠ v → un e' u = un e u) → pot r ns t w + 1 ≤ pot r ns s w := fun e e' q1 q2 q3 v v1 v2 q4 q5 => by
    unfold pot
    rw [q1, q2]
    have := sum_lt (f := fun i => cost r ns t e' (i + 1)) (h := fun i => cost r ns s e (i + 1)) (2 * r.N - 1) (fun i hi => by
      by_cases c : i + 1 = v
      · rw [c]; omega
      · exact cost_same k T (q5 (i + 1) (by omega) (by omega) c)) ⟨v - 1, by omega, by
        have : v - 1 + 1 = v := by omega
        rw [this]
        exact q4⟩
    omega
  generalize ea : (turnF r s w).1 = a at C hh
  generalize eb : (turnF r s w).2.2 = b at C ht
  cases C with
  | idle h => exact absurd h h1
  | take h hz =>
    have hs := seat_lt' k hw
    have e1 : epl r s w = seatF r w := by unfold epl; rw [if_pos hz]
    have e2 : epl r t w = seatF r w := by unfold epl; rw [ht, if_neg (by omega)]
    unfold pot
    rw [e1, e2, ht, if_pos hz, if_neg (by omega)]
    have := sum_le (f := fun i => cost r ns t (seatF r w) (i + 1)) (h := fun i => cost r ns s (seatF r w) (i + 1)) (2 * r.N - 1) (fun i _ => cost_same k T rfl)
    omega
  | up h hz hd =>
    have p2 : 2 ≤ gt s.p w := by
      have : gt s.p w ≠ 1 := fun z => h1 (z ▸ hd)
      omega
    refine main (gt s.p w) (gt s.p w / 2) (by unfold epl; rw [if_neg hz]) (by unfold epl; rw [ht, if_neg (by omega)]) (by rw [ht, if_neg (by omega)]; omega) (gt s.p w) (by omega) (by omega) ?_ (fun u u1 u2 hu => ?_)
    · unfold cost
      rw [if_pos (d_stays k T hd), if_pos hd, if_neg (by
        rintro ⟨_, z⟩
        rw [un_half _ (by omega) p2 _ (by omega)] at z
        simp at z), if_pos ⟨by omega, un_self _ (by omega) (by omega)⟩]
      omega
    · rw [un_half _ (by omega) p2 u (by omega)]
      simp [hu]
  | work h hz hd hn =>
    have e1 : epl r s w = gt s.p w := by unfold epl; rw [if_neg hz]
    have e2 : epl r t w = gt s.p w := by unfold epl; rw [ht, if_neg hz]
    refine main _ _ e1 e2 (by rw [ht]; omega) (gt s.p w) (by omega) (by omega) ?_ (fun _ _ _ _ => rfl)
    have hv := hh _ (.inr rfl) rfl
    have hx : r.N + (gt s.p w - r.N) = gt s.p w := by omega
    have hl := I.leaf (gt s.p w - r.N) (by omega) (by rw [hx]; exact hd)
    have hc : gt t.c (gt s.p w - r.N) = gt s.c (gt s.p w - r.N) + 1 := by
      rw [T.c, if_pos]
      refine List.any_eq_true.mpr ⟨w, hm, ?_⟩
      unfold hit
      simp only [decide_eq_true_eq]
      exact ⟨.inr ea, hx.symm⟩
    unfold cost
    have n1 : ¬ gt s.p w = 1 := by omega
    have n2 : ¬ gt s.p w < r.N := by omega
    rw [if_neg hd, un_self _ (by omega) (by omega), hc]
    by_cases c : gt t.d (gt s.p w) = 1
    · rw [if_pos c]
      simp only [n1, n2, ne_eq, if_false, not_true_eq_false, and_false, not_false_eq_true, and_self, if_true]
      omega
    · rw [if_neg c]
      simp only [n1, n2, if_false, not_true_eq_false, and_false]
      omega
  | mark h hz hd hn a b =>
    have e1 : epl r s w = gt s.p w := by unfold epl; rw [if_neg hz]
    have e2 : epl r t w = gt s.p w := by unfold epl; rw [ht, if_neg hz]
    refine main _ _ e1 e2 (by rw [ht]; omega) (gt s.p w) (by omega) (by omega) ?_ (fun _ _ _ _ => rfl)
    have hv := hh _ (.inl rfl) rfl
    unfold valF at hv
    rw [if_pos hn] at hv
    unfold cost
    rw [if_neg hd, if_pos hv, un_self _ (by omega) (by omega), if_pos hn]
    by_cases c : gt s.p w = 1
    · simp [c]
    · simp [c]
  | down c h hz hd hn hc hcm hl =>
    have hb : ∃ bt, bt < 2 ∧ b = 2 * gt s.p w + bt := by
      rcases hc with e | e
      · exact ⟨0, by omega, by omega⟩
      · exact ⟨1, by omega, by omega⟩
    obtain ⟨bt, hbt, rfl⟩ := hb
    refine main (gt s.p w) (2 * gt s.p w + bt) (by unfold epl; rw [if_neg hz]) (by unfold epl; rw [ht, if_neg (by omega)]) (by rw [ht, if_neg (by omega)]; omega) (2 * gt s.p w + bt) (by omega) (by omega) ?_ (fun u u1 u2 hu => ?_)
    · have ha := un_self_down (gt s.p w) (by omega) (by omega) bt hbt
      have hs := un_self (2 * gt s.p w + bt) (by omega) (by omega)
      have hcc : gt s.c (2 * gt s.p w + bt - r.N) ≤ gt t.c (2 * gt s.p w + bt - r.N) := by
        rw [T.c]
        split <;> omega
      unfold cost
      rw [if_neg hcm, ha, hs]
      have n1 : ¬ (2 * gt s.p w + bt = 1) := by omega
      by_cases q : gt t.d (2 * gt s.p w + bt) = 1
      · rw [if_pos q]
        simp [n1]
        omega
      · rw [if_neg q]
        simp [n1]
        split <;> omega
    · rw [un_child _ (by omega) (by omega) bt hbt u (by omega)]
      simp [hu]
theorem sumF_add (f : Nat → Nat) (n : Nat) : ∀ m, sumF f (n + m) = sumF f n + sumF (fun i => f (n + i)) m
  | 0 => rfl
  | m + 1 => by
    show sumF f (n + m) + f (n + m) = sumF f n + (sumF (fun i => f (n + i)) m + f (n + m))
    rw [sumF_add f n m]
    omega
theorem sumF_const (c : Nat) : ∀ n, sumF (fun _ => c) n = c * n
  | 0 => rfl
  | n + 1 => by
    show sumF (fun _ => c) n + c = _
    rw [sumF_const c n, Nat.mul_succ]
theorem sumF_plus (f : Nat → Nat) (c : Nat) : ∀ n, sumF (fun i => c + f i) n = c * n + sumF f n
  | 0 => rfl
  | n + 1 => by
    show sumF (fun i => c + f i) n + (c + f n) = _
    rw [sumF_plus f c n, Nat.mul_succ]
    show _ = _ + (sumF f n + f n)
    omega
theorem sumF_cons (x : Nat) (l : List Nat) : ∀ n, sumF (gt (x :: l)) (n + 1) = x + sumF (gt l) n
  | 0 => by
    show 0 + x = x + 0
    omega
  | n + 1 => by
    show sumF (gt (x :: l)) (n + 1) + gt l n = x + (sumF (gt l) n + gt l n)
    rw [sumF_cons x l n]
    omega
theorem sumF_list : ∀ l : List Nat, sumF (gt l) l.length = l.sum
  | [] => rfl
  | x :: l => by
    rw [List.length_cons, sumF_cons, sumF_list l, List.sum_cons]
def potB (r : Rows) (ns : List Nat) (i : Nat) : Nat := if i + 1 < r.N then 3 else 2 + gt ns (i + 1 - r.N)
theorem pot_le {r : Rows} {ns : List Nat} {s : Spot} {w : Nat} (k : r.ok) (hn : ns.length = r.N) : pot r ns s w + 1 ≤ ns.sum + 5 * r.N := by
  have hN := k.pos
  have h1 := sum_le (f := fun i => cost r ns s (epl r s w) (i + 1)) (h := potB r ns) (2 * r.N - 1) (fun i hi => by
    refine Nat.le_trans cost_le ?_
    unfold potB
    (repeat' split) <;> omega)
  have e : 2 * r.N - 1 = (r.N - 1) + r.N := by omega
  have h2 := sumF_add (potB r ns) (r.N - 1) r.N
  have h3 := sum_le (f := potB r ns) (h := fun _ => 3) (r.N - 1) (fun i hi => by
    unfold potB
    rw [if_pos (by omega)]
    exact Nat.le_refl _)
  have h4 := sum_le (f := fun i => potB r ns (r.N - 1 + i)) (h := fun i => 2 + gt ns i) r.N (fun i hi => by
    unfold potB
    rw [if_neg (by omega), show r.N - 1 + i + 1 - r.N = i by omega]
    exact Nat.le_refl _)
  rw [sumF_const] at h3
  have h5 := sumF_plus (gt ns) 2 r.N
  have h6 := sumF_list ns
  rw [hn] at h6
  unfold pot
  rw [e] at h1 ⊢
  have : (if gt s.p w = 0 then 1 else 0) ≤ 1 := by split <;> omega
  omega
end Vk
namespace K33
open PySem L2 Vk
def topS (i : Nat) : Stmt := PySem.Challenge.pw_stillinstep_k33_marks_stay_turns_move.main.body.getD i (.Pass ⟨0, 0, 0, 0⟩)
abbrev s_leaning_child : Stmt := topS 7
abbrev N_leaning_child : List Str := ["crew", "worker", "node"]
abbrev P_leaning_child : List Str := ["crew", "worker", "node"]
theorem sc_leaning_child : FnScope N_leaning_child P_leaning_child (defScope s_leaning_child) := ⟨rfl, rfl, rfl, by decide +kernel, rfl, by decide +kernel, by decide +kernel⟩
abbrev s_seat_node : Stmt := topS 8
abbrev N_seat_node : List Str := ["crew", "worker"]
abbrev P_seat_node : List Str := ["crew", "worker"]
theorem sc_seat_node : FnScope N_seat_node P_seat_node (defScope s_seat_node) := ⟨rfl, rfl, rfl, by decide +kernel, rfl, by decide +kernel, by decide +kernel⟩
abbrev s_is_height : Stmt := topS 9
abbrev N_is_height : List Str := ["height"]
abbrev P_is_height : List Str := ["height"]
theorem sc_is_height : FnScope N_is_height P_is_height (defScope s_is_height) := ⟨rfl, rfl, rfl, by decide +kernel, rfl, by decide +kernel, by decide +kernel⟩
abbrev s_are_seats : Stmt := topS 10
abbrev N_are_seats : List Str := ["seats", "leaves", "seat"]
abbrev P_are_seats : List Str := ["seats", "leaves"]
theorem sc_are_seats : FnScope N_are_seats P_are_seats (defScope s_are_seats) := ⟨rfl, rfl, rfl, by decide +kernel, rfl, by decide +kernel, by decide +kernel⟩
abbrev s_are_leanings : Stmt := topS 11
abbrev N_are_leanings : List Str := ["row", "leaves", "leaning"]
abbrev P_are_leanings : List Str := ["row", "leaves"]
theorem sc_are_leanings : FnScope N_are_leanings P_are_leanings (defScope s_are_leanings) := ⟨rfl, rfl, rfl, by decide +kernel, rfl, by decide +kernel, by decide +kernel⟩
abbrev s_start_standing : Stmt := topS 13
abbrev N_start_standing : List Str := ["crew", "leaves"]
abbrev P_start_standing : List Str := ["crew"]
theorem sc_start_standing : FnScope N_start_standing P_start_standing (defScope s_start_standing) := ⟨rfl, rfl, rfl, by decide +kernel, rfl, by decide +kernel, by decide +kernel⟩
abbrev s_is_over : Stmt := topS 14
abbrev N_is_over : List Str := ["standing"]
abbrev P_is_over : List Str := ["standing"]
theorem sc_is_over : FnScope N_is_over P_is_over (defScope s_is_over) := ⟨rfl, rfl, rfl, by decide +kernel, rfl, by decide +kernel, by decide +kernel⟩
abbrev s_walk_turn : Stmt := topS 15
abbrev N_walk_turn : List Str := ["crew", "works", "standing", "worker", "done", "_", "places", "at", "left_marked", "right_marked"]
abbrev P_walk_turn : List Str := ["crew", "works", "standing", "worker"]
theorem sc_walk_turn : FnScope N_walk_turn P_walk_turn (defScope s_walk_turn) := ⟨rfl, rfl, rfl, by decide +kernel, rfl, by decide +kernel, by decide +kernel⟩
abbrev s_child_below : Stmt := topS 16
abbrev N_child_below : List Str := ["crew", "worker", "node", "left_marked", "right_marked"]
abbrev P_child_below : List Str := ["crew", "worker", "node", "left_marked", "right_marked"]
theorem sc_child_below : FnScope N_child_below P_child_below (defScope s_child_below) := ⟨rfl, rfl, rfl, by decide +kernel, rfl, by decide +kernel, by decide +kernel⟩
abbrev s_walk_tick : Stmt := topS 17
abbrev N_walk_tick : List Str := ["crew", "works", "standing", "workers", "old_counts", "done", "counts", "places", "numbers", "worker", "act", "at", "to", "leaf"]
abbrev P_walk_tick : List Str := ["crew", "works", "standing", "workers"]
theorem sc_walk_tick : FnScope N_walk_tick P_walk_tick (defScope s_walk_tick) := ⟨rfl, rfl, rfl, by decide +kernel, rfl, by decide +kernel, by decide +kernel⟩
abbrev s_law_whole : Stmt := topS 19
abbrev N_law_whole : List Str := ["value"]
abbrev P_law_whole : List Str := ["value"]
theorem sc_law_whole : FnScope N_law_whole P_law_whole (defScope s_law_whole) := ⟨rfl, rfl, rfl, by decide +kernel, rfl, by decide +kernel, by decide +kernel⟩
abbrev s_law_cell : Stmt := topS 20
abbrev N_law_cell : List Str := ["script", "k", "seed", "cell"]
abbrev P_law_cell : List Str := ["script", "k"]
theorem sc_law_cell : FnScope N_law_cell P_law_cell (defScope s_law_cell) := ⟨rfl, rfl, rfl, by decide +kernel, rfl, by decide +kernel, by decide +kernel⟩
abbrev s_law_feed : Stmt := topS 21
abbrev N_law_feed : List Str := ["cell", "rest"]
abbrev P_law_feed : List Str := ["cell"]
theorem sc_law_feed : FnScope N_law_feed P_law_feed (defScope s_law_feed) := ⟨rfl, rfl, rfl, by decide +kernel, rfl, by decide +kernel, by decide +kernel⟩
abbrev s_law_take : Stmt := topS 22
abbrev N_law_take : List Str := ["feed", "size", "digit", "twice"]
abbrev P_law_take : List Str := ["feed", "size"]
theorem sc_law_take : FnScope N_law_take P_law_take (defScope s_law_take) := ⟨rfl, rfl, rfl, by decide +kernel, rfl, by decide +kernel, by decide +kernel⟩
abbrev s_law_crew : Stmt := topS 23
abbrev N_law_crew : List Str := ["feed", "tallest", "upto", "height", "count", "leaves", "kind", "seats", "leanings", "k", "sort", "j"]
abbrev P_law_crew : List Str := ["feed", "tallest", "upto"]
theorem sc_law_crew : FnScope N_law_crew P_law_crew (defScope s_law_crew) := ⟨rfl, rfl, rfl, by decide +kernel, rfl, by decide +kernel, by decide +kernel⟩
abbrev s_law_rows : Stmt := topS 24
abbrev N_law_rows : List Str := ["cell", "feed", "size"]
abbrev P_law_rows : List Str := ["cell"]
theorem sc_law_rows : FnScope N_law_rows P_law_rows (defScope s_law_rows) := ⟨rfl, rfl, rfl, by decide +kernel, rfl, by decide +kernel, by decide +kernel⟩
abbrev s_law_need_row : Stmt := topS 25
abbrev N_law_need_row : List Str := ["cell", "leaves", "feed", "top", "leaf"]
abbrev P_law_need_row : List Str := ["cell", "leaves"]
theorem sc_law_need_row : FnScope N_law_need_row P_law_need_row (defScope s_law_need_row) := ⟨rfl, rfl, rfl, by decide +kernel, rfl, by decide +kernel, by decide +kernel⟩
abbrev s_law_some : Stmt := topS 26
abbrev N_law_some : List Str := ["feed", "count", "kind", "lead", "group", "k", "chosen"]
abbrev P_law_some : List Str := ["feed", "count"]
theorem sc_law_some : FnScope N_law_some P_law_some (defScope s_law_some) := ⟨rfl, rfl, rfl, by decide +kernel, rfl, by decide +kernel, by decide +kernel⟩
abbrev s_law_groups : Stmt := topS 27
abbrev N_law_groups : List Str := ["cell", "count", "feed", "long", "groups", "group", "rest", "k"]
abbrev P_law_groups : List Str := ["cell", "count"]
theorem sc_law_groups : FnScope N_law_groups P_law_groups (defScope s_law_groups) := ⟨rfl, rfl, rfl, by decide +kernel, rfl, by decide +kernel, by decide +kernel⟩
abbrev s_law_late : Stmt := topS 28
abbrev N_law_late : List Str := ["feed", "count", "style", "lead", "k", "group"]
abbrev P_law_late : List Str := ["feed", "count", "style", "lead"]
theorem sc_law_late : FnScope N_law_late P_law_late (defScope s_law_late) := ⟨rfl, rfl, rfl, by decide +kernel, rfl, by decide +kernel, by decide +kernel⟩
abbrev s_law_marks_hold : Stmt := topS 29
abbrev N_law_marks_hold : List Str := ["old", "new", "needs", "leaves", "node", "leaf"]
abbrev P_law_marks_hold : List Str := ["old", "new", "needs"]
theorem sc_law_marks_hold : FnScope N_law_marks_hold P_law_marks_hold (defScope s_law_marks_hold) := ⟨rfl, rfl, rfl, by decide +kernel, rfl, by decide +kernel, by decide +kernel⟩
abbrev s_law_is_one_change : Stmt := topS 30
abbrev N_law_is_one_change : List Str := ["needs", "old", "who", "one", "marks", "node", "leafs", "leaf", "moved", "k", "full"]
abbrev P_law_is_one_change : List Str := ["needs", "old", "who", "one"]
theorem sc_law_is_one_change : FnScope N_law_is_one_change P_law_is_one_change (defScope s_law_is_one_change) := ⟨rfl, rfl, rfl, by decide +kernel, rfl, by decide +kernel, by decide +kernel⟩
abbrev s_law_is_joined : Stmt := topS 31
abbrev N_law_is_joined : List Str := ["team", "needs", "old", "group", "new", "singles", "who", "k", "which", "at", "one", "due"]
abbrev P_law_is_joined : List Str := ["team", "needs", "old", "group", "new"]
theorem sc_law_is_joined : FnScope N_law_is_joined P_law_is_joined (defScope s_law_is_joined) := ⟨rfl, rfl, rfl, by decide +kernel, rfl, by decide +kernel, by decide +kernel⟩
abbrev s_law_tick_holds : Stmt := topS 32
abbrev N_law_tick_holds : List Str := ["team", "needs", "old", "group", "new"]
abbrev P_law_tick_holds : List Str := ["team", "needs", "old", "group", "new"]
theorem sc_law_tick_holds : FnScope N_law_tick_holds P_law_tick_holds (defScope s_law_tick_holds) := ⟨rfl, rfl, rfl, by decide +kernel, rfl, by decide +kernel, by decide +kernel⟩
abbrev s_law_end_holds : Stmt := topS 33
abbrev N_law_end_holds : List Str := ["team", "needs", "spot", "lead", "count", "group", "who", "told"]
abbrev P_law_end_holds : List Str := ["team", "needs", "spot", "lead"]
theorem sc_law_end_holds : FnScope N_law_end_holds P_law_end_holds (defScope s_law_end_holds) := ⟨rfl, rfl, rfl, by decide +kernel, rfl, by decide +kernel, by decide +kernel⟩
abbrev s_law : Stmt := topS 34
abbrev N_law : List Str := ["script", "rows", "leaves", "count", "needs", "groups", "cell", "feed", "style", "lead", "team", "row", "spot", "k", "group", "after"]
abbrev P_law : List Str := ["script"]
theorem sc_law : FnScope N_law P_law (defScope s_law) := ⟨rfl, rfl, rfl, by decide +kernel, rfl, by decide +kernel, by decide +kernel⟩
abbrev s_Crew_init : Stmt := inClass (topS 6) 0
abbrev N_Crew_init : List Str := ["self", "height", "seats", "leanings", "leaves", "row"]
abbrev P_Crew_init : List Str := ["self", "height", "seats", "leanings"]
theorem sc_Crew_init : FnScope N_Crew_init P_Crew_init (defScope s_Crew_init) := ⟨rfl, rfl, rfl, by decide +kernel, rfl, by decide +kernel, by decide +kernel⟩
abbrev s_Crew_eq : Stmt := inClass (topS 6) 1
abbrev N_Crew_eq : List Str := ["self", "other"]
abbrev P_Crew_eq : List Str := ["self", "other"]
theorem sc_Crew_eq : FnScope N_Crew_eq P_Crew_eq (defScope s_Crew_eq) := ⟨rfl, rfl, rfl, by decide +kernel, rfl, by decide +kernel, by decide +kernel⟩
abbrev s_Crew_workers : Stmt := inClass (topS 6) 2
abbrev N_Crew_workers : List Str := ["self"]
abbrev P_Crew_workers : List Str := ["self"]
theorem sc_Crew_workers : FnScope N_Crew_workers P_Crew_workers (defScope s_Crew_workers) := ⟨rfl, rfl, rfl, by decide +kernel, rfl, by decide +kernel, by decide +kernel⟩
abbrev s_Crew_leaves : Stmt := inClass (topS 6) 3
abbrev N_Crew_leaves : List Str := ["self"]
abbrev P_Crew_leaves : List Str := ["self"]
theorem sc_Crew_leaves : FnScope N_Crew_leaves P_Crew_leaves (defScope s_Crew_leaves) := ⟨rfl, rfl, rfl, by decide +kernel, rfl, by decide +kernel, by decide +kernel⟩
def kg_walk_tick_kw_crew_works_standing_workers {α : Type} : List α → List α → List α
  | [], [x0, x1, x2, x3] => [x0, x1, x2, x3]
  | _, _ => []
theorem kb_walk_tick_kw_crew_works_standing_workers {K : PySem.W.Frag} {f : Addr} {fd : FuncData} (F : Fun K "walk_tick" "walk_tick" s_walk_tick f fd) : KBinds K fd P_walk_tick ["crew", "works", "standing", "workers"] kg_walk_tick_kw_crew_works_standing_workers kg_walk_tick_kw_crew_works_standing_workers := by
  obtain ⟨oc, od, kV, doc, pm, an, cdv, ct, osl, rfl, lk, hcd⟩ := F.ex
  refine ⟨fun s us ws _ hl => ?_, fun {vs us zs ws} ra r0 => ?_⟩
  · match us, ws, hl with
    | [], [x0, x1, x2, x3], _ => exact .of_eq rfl
  · cases ra with
    | cons _ _ =>
      cases r0 <;> exact .nil
    | nil =>
      cases r0 with
      | nil => exact .nil
      | cons y0 r1 =>
        cases r1 with
        | nil => exact .nil
        | cons y1 r2 =>
          cases r2 with
          | nil => exact .nil
          | cons y2 r3 =>
            cases r3 with
            | nil => exact .nil
            | cons y3 r4 =>
              cases r4 with
              | nil => exact (.cons y0 (.cons y1 (.cons y2 (.cons y3 .nil))))
              | cons _ _ => exact .nil

def kg_walk_turn_kw_crew_works_standing_worker {α : Type} : List α → List α → List α
  | [], [x0, x1, x2, x3] => [x0, x1, x2, x3]
  | _, _ => []
theorem kb_walk_turn_kw_crew_works_standing_worker {K : PySem.W.Frag} {f : Addr} {fd : FuncData} (F : Fun K "walk_turn" "walk_turn" s_walk_turn f fd) : KBinds K fd P_walk_turn ["crew", "works", "standing", "worker"] kg_walk_turn_kw_crew_works_standing_worker kg_walk_turn_kw_crew_works_standing_worker := by
  obtain ⟨oc, od, kV, doc, pm, an, cdv, ct, osl, rfl, lk, hcd⟩ := F.ex
  refine ⟨fun s us ws _ hl => ?_, fun {vs us zs ws} ra r0 => ?_⟩
  · match us, ws, hl with
    | [], [x0, x1, x2, x3], _ => exact .of_eq rfl
  · cases ra with
    | cons _ _ =>
      cases r0 <;> exact .nil
    | nil =>
      cases r0 with
      | nil => exact .nil
      | cons y0 r1 =>
        cases r1 with
        | nil => exact .nil
        | cons y1 r2 =>
          cases r2 with
          | nil => exact .nil
          | cons y2 r3 =>
            cases r3 with
            | nil => exact .nil
            | cons y3 r4 =>
              cases r4 with
              | nil => exact (.cons y0 (.cons y1 (.cons y2 (.cons y3 .nil))))
              | cons _ _ => exact .nil

end K33
namespace K33
open PySem L2 Vk
/-! ### the crew: data, and an object that holds it -/
def cf (h : Nat) (sa la : Addr) : List (Str × V) := putF "leanings" (.ref la) (putF "seats" (.ref sa) (putF "height" (.int (h : Int)) []))
theorem n_hs : ¬ (("height" : Str) = "seats") := by decide +kernel
theorem n_hl : ¬ (("height" : Str) = "leanings") := by decide +kernel
theorem n_sl : ¬ (("seats" : Str) = "leanings") := by decide +kernel
theorem cf_h (h : Nat) (sa la : Addr) : (cf h sa la).lookup ("height" : Str) = some (.int (h : Int)) := by
  unfold cf
  rw [lookup_putF, if_neg n_hl, lookup_putF, if_neg n_hs, lookup_putF, if_pos rfl]
theorem cf_s (h : Nat) (sa la : Addr) : (cf h sa la).lookup ("seats" : Str) = some (.ref sa) := by
  unfold cf
  rw [lookup_putF, if_neg n_sl, lookup_putF, if_pos rfl]
theorem cf_l (h : Nat) (sa la : Addr) : (cf h sa la).lookup ("leanings" : Str) = some (.ref la) := by
  unfold cf
  rw [lookup_putF, if_pos rfl]
structure CrewAt (K : PySem.W.Frag) (C : Addr) (H : Hp) (p : Addr) (r : Rows) (sa la : Addr) (as : List Addr) : Prop where
  ob : ∃ dx, H p = some (.ins C dx (cf r.h sa la))
  se : SqT K H sa (ni r.seats)
  le : SqT K H la (rf as)
  ro : LL (fun a row => SqT K H a (ni row)) as r.lean
def Crw (K : PySem.W.Frag) (C : Addr) (H : Hp) (p : Addr) (r : Rows) : Prop := ∃ sa la as, CrewAt K C H p r sa la as
theorem Crw.same {K : PySem.W.Frag} {C p : Addr} {H H' : Hp} {r : Rows} (h : Crw K C H p r) (s : Same H H') : Crw K C H' p r := by
  obtain ⟨sa, la, as, ⟨dx, o⟩, a, b, c⟩ := h
  exact ⟨sa, la, as, ⟨dx, s _ _ o⟩, Vk.Same.tup s a, Vk.Same.tup s b, c.mono fun _ _ q => Vk.Same.tup s q⟩
theorem Crw.updL {K : PySem.W.Frag} {C p b : Addr} {H : Hp} {r : Rows} {ys : List V} {o : HO} (h : Crw K C H p r) (e : H b = some (.lst ys)) : Crw K C (upd H b o) p r := by
  obtain ⟨sa, la, as, ⟨dx, q⟩, a, c, d⟩ := h
  exact ⟨sa, la, as, ⟨dx, ins_updL q e⟩, Vk.SqT.updL a e, Vk.SqT.updL c e, d.mono fun _ _ q => Vk.SqT.updL q e⟩
theorem Crw.stp {K : PySem.W.Frag} {C p a : Addr} {H H' : Hp} {r : Rows} (h : Crw K C H p r) (hF : Fd H a) (s : Stp a H H') : Crw K C H' p r := by
  obtain ⟨sa, la, as, ⟨dx, q⟩, b, c, d⟩ := h
  obtain ⟨x, y, z, e⟩ := id hF
  exact ⟨sa, la, as, ⟨dx, s.1 _ _ (ne_of q e (by intro z; cases z)) q⟩, Stp.tup hF s b, Stp.tup hF s c, d.mono fun _ _ q => Stp.tup hF s q⟩
/-- what the top has written of the class -/
structure CT (K : PySem.W.Frag) (C : Addr) : Prop where
  cl : Cls K C
  nh : NoAttr K C "height"
  ns : NoAttr K C "seats"
  nl : NoAttr K C "leanings"
/-- rows: a list of the height, the seats, the leanings, lists -/
structure RowsAt (H : Hp) (p : Addr) (r : Rows) (sa la : Addr) (as : List Addr) : Prop where
  ob : H p = some (.lst [.int (r.h : Int), .ref sa, .ref la])
  se : H sa = some (.lst (ni r.seats))
  le : H la = some (.lst (rf as))
  ro : LL (fun a row => H a = some (.lst (ni row))) as r.lean
def Rws (H : Hp) (p : Addr) (r : Rows) : Prop := ∃ sa la as, RowsAt H p r sa la as
theorem Rws.same {p : Addr} {H H' : Hp} {r : Rows} (h : Rws H p r) (s : Same H H') : Rws H' p r := by
  obtain ⟨sa, la, as, a, b, c, d⟩ := h
  exact ⟨sa, la, as, s _ _ a, s _ _ b, s _ _ c, d.mono fun _ _ q => s _ _ q⟩
def spInit (K : PySem.W.Frag) (C : Addr) : Sp := fun vs H Q _ => ∃ (p dx : Addr) (r : Rows) (sa la : Addr) (as : List Addr), vs = [.ref p, .int (r.h : Int), .ref sa, .ref la] ∧ H p = some (.ins C dx []) ∧ r.ok ∧
  Sq K H sa (ni r.seats) ∧ Sq K H la (rf as) ∧ LL (fun a row => Sq K H a (ni row)) as r.lean ∧ ∀ H', (∀ b o, b ≠ p → H b = some o → H' b = some o) → Crw K C H' p r → Q .non H'
def spIsH : Sp := fun vs H Q _ => ∃ (h : Nat), vs = [.int (h : Int)] ∧ 1 ≤ h ∧ h ≤ 4 ∧ Q (.bl true) H
def spAreS (K : PySem.W.Frag) : Sp := fun vs H Q _ => ∃ (sa : Addr) (ns : List Nat) (n : Nat), vs = [.ref sa, .int (n : Int)] ∧ Sq K H sa (ni ns) ∧ 1 ≤ ns.length ∧ ns.length ≤ 16 ∧ (∀ s ∈ ns, s < n) ∧ ∀ H', Same H H' → Q (.bl true) H'
def spAreL (K : PySem.W.Frag) : Sp := fun vs H Q _ => ∃ (a : Addr) (ns : List Nat) (n : Nat), vs = [.ref a, .int (n : Int)] ∧ Sq K H a (ni ns) ∧ ns.length + 1 = n ∧ n ≤ 16 ∧ (∀ s ∈ ns, s ≤ 1) ∧ ∀ H', Same H H' → Q (.bl true) H'
def spLeaves (K : PySem.W.Frag) (C : Addr) : Sp := fun vs H Q _ => ∃ (p : Addr) (r : Rows), vs = [.ref p] ∧ Crw K C H p r ∧ r.ok ∧ Q (.int (r.N : Int)) H
def spWorkers (K : PySem.W.Frag) (C : Addr) : Sp := fun vs H Q _ => ∃ (p : Addr) (r : Rows), vs = [.ref p] ∧ Crw K C H p r ∧ r.ok ∧ Q (.int (r.seats.length : Int)) H
def spChild (K : PySem.W.Frag) (C : Addr) : Sp := fun vs H Q _ => ∃ (p : Addr) (r : Rows) (w v : Nat) (row : List Nat) (x : Nat), vs = [.ref p, .int (w : Int), .int ((v + 1 : Nat) : Int)] ∧ Crw K C H p r ∧ r.ok ∧ r.lean[w]? = some row ∧ row[v]? = some x ∧ Q (.int ((2 * (v + 1) + x : Nat) : Int)) H
def spSeat (K : PySem.W.Frag) (C : Addr) : Sp := fun vs H Q _ => ∃ (p : Addr) (r : Rows) (w s : Nat), vs = [.ref p, .int (w : Int)] ∧ Crw K C H p r ∧ r.ok ∧ r.seats[w]? = some s ∧ Q (.int ((r.N + s : Nat) : Int)) H
section
variable {P : Program} {w : World} {K : PySem.W.Frag} {mg : Str → Option Value} {base : Heap}
theorem ok_is_height {f : Addr} {fd : FuncData} {k : Nat} (F : Fun K "_is_height" "_is_height" s_is_height f fd) {tMOST_HEIGHT : Tok} (mMOST_HEIGHT : mg "MOST_HEIGHT" = some (.int 4 tMOST_HEIGHT)) : FnOk P w K mg base CX0 (k + 1) f fd P_is_height spIsH := by
  refine F.ok sc_is_height (fun vs H Q E h => ?_) (fun cdv A outer s H vs Q E hr h => ?_)
  · obtain ⟨n, rfl, _⟩ := h
    rfl
  obtain ⟨n, rfl, h1, h4, q⟩ := h
  refine ⟨_, (pss_one (ps_ret (pe_chain op_le op_le pe_int (pv 0) (pe_glob (v := .int 4) (by rfl) mMOST_HEIGHT ⟨_, rfl⟩)))), ?_⟩
  refine ⟨_, rfl, _, _, rfl, rfl, _, rfl, itT (by omega) ⟨_, _, rfl, rfl, bT (Q := Q) (by omega) q⟩⟩
theorem ok_are_seats {f : Addr} {fd : FuncData} {k : Nat} (F : Fun K "_are_seats" "_are_seats" s_are_seats f fd) (mall : mg "all" = none) (mlen : mg "len" = none) {tMOST_WORKERS : Tok} (mMOST_WORKERS : mg "MOST_WORKERS" = some (.int 16 tMOST_WORKERS)) : FnOk P w K mg base CX0 (k + 1) f fd P_are_seats (spAreS K) := by
  refine F.ok sc_are_seats (fun vs H Q E h => ?_) (fun cdv A outer s H vs Q E hr h => ?_)
  · obtain ⟨sa, ns, n, rfl, _⟩ := h
    rfl
  obtain ⟨sa, ns, n, rfl, hS, h1, h16, hN, q⟩ := h
  refine ⟨_, (pss_one (ps_ret (pe_and (pe_chain op_le op_le pe_int (pe_callB (r := rLenS K) call_lenK (by rfl) mlen (by decide +kernel) (pa_cons (pv 0) pa_nil)) (pe_glob (v := .int 16) (by rfl) mMOST_WORKERS ⟨_, rfl⟩)) (pe_one (pe_callB (r := rAll K) (cr_all rfl) (by rfl) mall (by decide +kernel) (pa_cons (pe_lc (own := [("seat", 2)]) (g := (gName 2)) (tt := tYes) rfl sc_are_seats.nd (pi_seq (pv 0)) (blkOk_by (N := N_are_seats) (sc := defScope s_are_seats) (by decide +kernel)) (fun _ _ _ _ _ => (pg_name (i := 2) sc_are_seats.nd rfl (Or.inl rfl))) (fun _ _ _ _ _ => pts_nil) (fun _ _ _ _ _ => (pe_chain op_le op_lt pe_int (pv 2) (pv 1)))) pa_nil)))))), ?_⟩
  have hS2 : Sq K H sa (ni ns) := hS
  refine ⟨_, rfl, _, _, rfl, hS, _, _, rfl, rfl, _, rfl, itT (by rw [ni_len]; omega) ⟨_, _, rfl, rfl, _, rfl, itT (by rw [ni_len]; omega) ?_⟩⟩
  refine all_sq rfl hS2 (by rw [ni_len]; omega) (fun k x H1 Qe hx s qe => ?_) q
  obtain ⟨m, hm, rfl⟩ := ni_at hx
  have hb := hN m (mem_of_get hm)
  refine ⟨_, rfl, _, _, rfl, rfl, _, rfl, itT (by omega) ⟨_, rfl, _, _, rfl, rfl, bT (Q := Qe) (by omega) (qe _ fun _ _ z => z)⟩⟩
theorem ok_are_leanings {f : Addr} {fd : FuncData} {k : Nat} (F : Fun K "_are_leanings" "_are_leanings" s_are_leanings f fd) (mall : mg "all" = none) (mlen : mg "len" = none) : FnOk P w K mg base CX0 (k + 1) f fd P_are_leanings (spAreL K) := by
  refine F.ok sc_are_leanings (fun vs H Q E h => ?_) (fun cdv A outer s H vs Q E hr h => ?_)
  · obtain ⟨a, ns, n, rfl, _⟩ := h
    rfl
  obtain ⟨a, ns, n, rfl, hS, hl, h16, hN, q⟩ := h
  refine ⟨_, (pss_one (ps_ret (pe_and (pe_cmpR op_eq (pe_callB (r := rLenS K) call_lenK (by rfl) mlen (by decide +kernel) (pa_cons (pv 0) pa_nil)) (pe_op op_sub (pv 1) pe_int) (nomark _)) (pe_one (pe_callB (r := rAll K) (cr_all rfl) (by rfl) mall (by decide +kernel) (pa_cons (pe_lc (own := [("leaning", 2)]) (g := (gName 2)) (tt := tYes) rfl sc_are_leanings.nd (pi_seq (pv 0)) (blkOk_by (N := N_are_leanings) (sc := defScope s_are_leanings) (by decide +kernel)) (fun _ _ _ _ _ => (pg_name (i := 2) sc_are_leanings.nd rfl (Or.inl rfl))) (fun _ _ _ _ _ => pts_nil) (fun _ _ _ _ _ => (pe_cmpR (r := rIn K false) op_in_seq (pv 2) (pe_tup (pa_cons pe_int (pa_cons pe_int pa_nil))) (by rfl)))) pa_nil)))))), ?_⟩
  have hS2 : Sq K H a (ni ns) := hS
  refine ⟨_, rfl, _, _, rfl, hS, _, rfl, _, _, rfl, rfl, rfl, _, rfl, itT (by rw [ni_len]; exact congrArg V.int (by omega)) ?_⟩
  refine all_sq rfl hS2 (by rw [ni_len]; omega) (fun k x H1 Qe hx s qe => ?_) q
  obtain ⟨m, hm, rfl⟩ := ni_at hx
  have hb := hN m (mem_of_get hm)
  refine ⟨_, rfl, (by show 2 ≤ sizeLine; decide), fun t ht => ⟨t, _, rfl, .inr (SqT.of upd_same), rfl, rfl, ?_⟩⟩
  have e : (if false = true then !inV (.int (m : Int)) [V.int 0, V.int 1] else inV (.int (m : Int)) [V.int 0, V.int 1]) = true := by
    have : m = 0 ∨ m = 1 := by omega
    rcases this with rfl | rfl <;> rfl
  exact bE (Q := Qe) e (qe _ (same_new ht _))
theorem pow_sh (h : Nat) : (1 : Int) * 2 ^ (h : Int).toNat = ((2 ^ h : Nat) : Int) := by
  rw [Int.one_mul, Int.toNat_natCast, Int.natCast_pow]
  rfl
theorem ok_Crew_init {f C : Addr} {fd : FuncData} {k : Nat} (F : Fun K "__init__" "Crew.__init__" s_Crew_init f fd) (O_is_height : Ok P w K mg base k "_is_height" P_is_height spIsH) (O_are_seats : Ok P w K mg base k "_are_seats" P_are_seats (spAreS K)) (mall : mg "all" = none) (O_are_leanings : Ok P w K mg base k "_are_leanings" P_are_leanings (spAreL K)) (mlen : mg "len" = none) (mtuple : mg "tuple" = none) (T : CT K C) : FnOk P w K mg base CX0 (k + 1) f fd P_Crew_init (spInit K C) := by
  refine F.ok sc_Crew_init (fun vs H Q E h => ?_) (fun cdv A outer s H vs Q E hr h => ?_)
  · obtain ⟨p, dx, r, sa, la, as, rfl, _⟩ := h
    rfl
  obtain ⟨p, dx, r, sa, la, as, rfl, hp, k, hS, hL, hR, q⟩ := h
  refine ⟨_, (pss_cons (ps_if (pt_not (pt_val (pe_c O_is_height hr (by rfl) (pa_cons (pv 1) pa_nil))))
      (pss_one ps_never)
      pss_nil)
    (pss_cons (ps_set (i := 4) sc_Crew_init.nd rfl (Or.inr rfl) (pe_op op_shl pe_int (pv 1)))
    (pss_cons (ps_if (pt_not (pt_val (pe_c O_are_seats hr (by rfl) (pa_cons (pv 2) (pa_cons (pv 4) pa_nil)))))
      (pss_one ps_never)
      pss_nil)
    (pss_cons (ps_if (PW.pt (pw_or (pt_cmpR op_ne (pe_callB (r := rLenS K) call_lenK (by rfl) mlen (by decide +kernel) (pa_cons (pv 3) pa_nil)) (pe_callB (r := rLenS K) call_lenK (by rfl) mlen (by decide +kernel) (pa_cons (pv 2) pa_nil)) (nomark _)) (pw_or1 (pt_not (pt_val (pe_callB (r := rAll K) (cr_all rfl) (by rfl) mall (by decide +kernel) (pa_cons (pe_lc (own := [("row", 5)]) (g := (gName 5)) (tt := tYes) rfl sc_Crew_init.nd (pi_seq (pv 3)) (blkOk_by (N := N_Crew_init) (sc := defScope s_Crew_init) (by decide +kernel)) (fun _ _ _ _ _ => (pg_name (i := 5) sc_Crew_init.nd rfl (Or.inl rfl))) (fun _ _ _ _ _ => pts_nil) (fun _ _ _ _ _ => (pe_c O_are_leanings hr (by rfl) (pa_cons (pv 5) (pa_cons (pv 4) pa_nil))))) pa_nil)))))))
      (pss_one ps_never)
      pss_nil)
    (pss_cons (ps_fld (pv 0) (pv 1) rfl)
    (pss_cons (ps_fld (pv 0) (pe_callTy (r := rTupOf K) call_tupleK (by rfl) mtuple (by decide +kernel) (pa_cons (pv 2) pa_nil)) rfl)
    (pss_one (ps_fld (pv 0) (pe_callTy (r := rTupOf K) call_tupleK (by rfl) mtuple (by decide +kernel) (pa_cons (pe_lc (own := [("row", 5)]) (g := (gName 5)) (tt := tYes) rfl sc_Crew_init.nd (pi_seq (pv 3)) (blkOk_by (N := N_Crew_init) (sc := defScope s_Crew_init) (by decide +kernel)) (fun _ _ _ _ _ => (pg_name (i := 5) sc_Crew_init.nd rfl (Or.inl rfl))) (fun _ _ _ _ _ => pts_nil) (fun _ _ _ _ _ => (pe_callTy (r := rTupOf K) call_tupleK (by rfl) mtuple (by decide +kernel) (pa_cons (pv 5) pa_nil)))) pa_nil)) rfl)))))))), ?_⟩
  have hN := k.pow
  have h4 := k.h4
  refine ⟨_, rfl, _, rfl, k.h1, k.h4, _, rfl, iteF ?_⟩
  refine ⟨_, rfl, _, _, rfl, rfl, ⟨by omega, by omega, by decide⟩, ?_⟩
  show tSeq _ _ _ [some (.ref p), some (.int (r.h : Int)), some (.ref sa), some (.ref la), some (.int ((1 : Int) * 2 ^ (r.h : Int).toNat)), _] H
  rw [pow_sh]
  refine ⟨_, rfl, _, rfl, sa, r.seats, r.N, rfl, hS, k.s1, k.s16, k.sN, fun H1 s1 => ⟨_, rfl, iteF ?_⟩⟩
  refine ⟨_, rfl, _, _, rfl, hL.same s1, _, rfl, _, _, rfl, hS.same s1, rfl, _, rfl, itTn (by rw [ni_len, rf_len, hR.len, k.ll]) ?_⟩
  have nL : (rf as).length ≤ 16 := by
    rw [rf_len, hR.len, k.ll]
    exact k.s16
  refine all_sq rfl (hL.same s1) (by omega) (fun j x H2 Qe hx s2 qe => ?_) fun H2 s2 => ⟨_, rfl, iteF ?_⟩
  · obtain ⟨a, ea, rfl⟩ := rf_at hx
    obtain ⟨row, er, hq⟩ := hR.getL ea
    have l1 := k.rl row (mem_of_get er)
    exact ⟨_, rfl, _, rfl, a, row, r.N, rfl, hq.same (s1.trans s2), by omega, by omega, k.r1 row (mem_of_get er), fun H' s' => qe _ s'⟩
  have s12 := s1.trans s2
  have hp2 := s12 _ _ hp
  refine ⟨_, rfl, _, rfl, p, C, dx, _, rfl, hp2, T.cl, T.nh, (by show 0 < 1000; decide), ?_⟩
  have pS : ∀ {H0 H3 : Hp} {f1 : List (Str × V)} {o : HO}, (∀ {a xs}, Sq K H a xs → Sq K H0 a xs) → H0 p = some (.ins C dx f1) → ∀ {a : Addr} {xs : List V}, Sq K H a xs → Sq K (upd H0 p o) a xs := fun {H0 H3 f1 o} u hp {a xs} h => by
    rcases u h with h | h
    · rcases h with (h | ⟨o, h⟩) | h
      · exact .inl (.inl (.inl (upd_keep h (ne_of h hp (by intro z; cases z)))))
      · exact .inl (.inl (.inr ⟨o, upd_keep h (ne_of h hp (by intro z; cases z))⟩))
      · exact .inl (.inr h)
    · rcases h with (h | ⟨o, h⟩) | h
      · exact .inr (.inl (.inl (upd_keep h (ne_of h hp (by intro z; cases z)))))
      · exact .inr (.inl (.inr ⟨o, upd_keep h (ne_of h hp (by intro z; cases z))⟩))
      · exact .inr (.inr h)
  have p3 : ∀ {a : Addr} {xs : List V}, Sq K H a xs → Sq K (upd H2 p (.ins C dx (putF "height" (.int (r.h : Int)) []))) a xs := pS (H3 := H) (fun h => h.same s12) hp2
  refine tupOfV rfl (p3 hS) fun st H4 s4 hst => ?_
  have hp4 := s4 _ _ (upd_same (H := H2) (a := p) (o := .ins C dx (putF "height" (.int (r.h : Int)) [])))
  refine ⟨_, rfl, p, C, dx, _, rfl, hp4, T.cl, T.ns, (by show 1 < 1000; decide), ?_⟩
  have tS : ∀ {H0 : Hp} {f1 : List (Str × V)} {o : HO} {a : Addr} {xs : List V}, SqT K H0 a xs → H0 p = some (.ins C dx f1) → SqT K (upd H0 p o) a xs := fun {H0 f1 o a xs} h hp => by
    rcases h with (h | ⟨o, h⟩) | h
    · exact .inl (.inl (upd_keep h (ne_of h hp (by intro z; cases z))))
    · exact .inl (.inr ⟨o, upd_keep h (ne_of h hp (by intro z; cases z))⟩)
    · exact .inr h
  have p5 : ∀ {a : Addr} {xs : List V}, Sq K H a xs → Sq K (upd H4 p (.ins C dx (putF "seats" (.ref st) (putF "height" (.int (r.h : Int)) [])))) a xs := pS (H3 := H) (fun h => (p3 h).same s4) hp4
  have hst5 := tS (o := .ins C dx (putF "seats" (.ref st) (putF "height" (.int (r.h : Int)) []))) hst hp4
  dsimp only
  unfold sFld
  refine tcb1 ?_
  refine lc_mapSq (n := r.lean.length) rfl (p5 hL) (by rw [rf_len, hR.len]) (by rw [← hR.len, ← rf_len]; omega) (fun D i y H1 => ∃ b row, y = .ref b ∧ r.lean[i]? = some row ∧ SqT K H1 b (ni row))
    (fun D i y H1 H2 _ _ t ⟨b, row, e1, e2, h⟩ => ⟨b, row, e1, e2, Vk.Same.tup t h⟩) (fun D i y H1 acc o _ e ⟨b, row, e1, e2, h⟩ => ⟨b, row, e1, e2, Vk.SqT.updL h e⟩)
    (fun D j x H6 Qe hx hD s6 _ qe => ?_) (fun D H6 ys hD s6 e hys hP => ?_)
  · obtain ⟨a, ea, rfl⟩ := rf_at hx
    obtain ⟨row, er, hq⟩ := hR.getL ea
    exact tupOfV rfl ((p5 hq).same s6) fun t H7 s7 ht => qe _ _ s7 ⟨t, row, rfl, er, ht⟩
  obtain ⟨bs, rfl, hbs⟩ := refs_of (P := fun i b => ∃ row, r.lean[i]? = some row ∧ SqT K H6 b (ni row)) ys fun i y hy => by
    obtain ⟨b, row, e1, e2, h⟩ := hP i y hy
    exact ⟨b, e1, row, e2, h⟩
  refine ⟨D, _, rfl, .inl ⟨SqL.of e, fun l hl => ?_⟩⟩
  have s7 := s6.trans (same_new hl (.tup (rf bs)))
  have hp7 := s7 _ _ (upd_same (H := H4) (a := p) (o := .ins C dx (putF "seats" (.ref st) (putF "height" (.int (r.h : Int)) []))))
  refine ⟨_, rfl, p, C, dx, _, rfl, hp7, T.cl, T.nl, (by show 2 < 1000; decide), ?_⟩
  refine q _ (fun b o nb eb => ?_) ⟨st, l, bs, ⟨dx, upd_same⟩, tS (Vk.Same.tup s7 hst5) hp7, tS (SqT.of upd_same) hp7, ⟨(rf_len bs).symm.trans hys, fun i a row ea er => ?_⟩⟩
  · rw [upd_ne nb]
    refine s7 _ _ ?_
    rw [upd_ne nb]
    refine s4 _ _ ?_
    rw [upd_ne nb]
    exact s12 _ _ eb
  · obtain ⟨row2, e2, h⟩ := hbs i a ea
    have : row2 = row := Option.some.inj (e2.symm.trans er)
    subst this
    exact tS (Vk.Same.tup (same_new hl _) h) hp7
theorem ok_Crew_workers {f C : Addr} {fd : FuncData} {k : Nat} (F : Fun K "workers" "Crew.workers" s_Crew_workers f fd) (mlen : mg "len" = none) (T : CT K C) : FnOk P w K mg base CX0 (k + 1) f fd P_Crew_workers (spWorkers K C) := by
  refine F.ok sc_Crew_workers (fun vs H Q E h => ?_) (fun cdv A outer s H vs Q E hr h => ?_)
  · obtain ⟨p, r, rfl, _⟩ := h
    rfl
  obtain ⟨p, r, rfl, hC, k, q⟩ := h
  refine ⟨_, (pss_one (ps_ret (pe_callB (r := rLenS K) call_lenK (by rfl) mlen (by decide +kernel) (pa_cons (pe_fld (pv 0) rfl) pa_nil)))), ?_⟩
  obtain ⟨sa, la, as, ⟨dx, ho⟩, hs, hl, hr⟩ := hC
  refine ⟨_, rfl, p, C, dx, _, _, rfl, ho, T.cl, T.ns, cf_s _ _ _, sa, _, rfl, .inr hs, ?_⟩
  exact iE (Q := Q) (congrArg Int.ofNat (ni_len r.seats)) q
theorem ok_Crew_leaves {f C : Addr} {fd : FuncData} {k : Nat} (F : Fun K "leaves" "Crew.leaves" s_Crew_leaves f fd) (T : CT K C) : FnOk P w K mg base CX0 (k + 1) f fd P_Crew_leaves (spLeaves K C) := by
  refine F.ok sc_Crew_leaves (fun vs H Q E h => ?_) (fun cdv A outer s H vs Q E hr h => ?_)
  · obtain ⟨p, r, rfl, _⟩ := h
    rfl
  obtain ⟨p, r, rfl, hC, k, q⟩ := h
  refine ⟨_, (pss_one (ps_ret (pe_op op_shl pe_int (pe_fld (pv 0) rfl)))), ?_⟩
  obtain ⟨sa, la, as, ⟨dx, ho⟩, hs, hl, hr⟩ := hC
  have h4 := k.h4
  refine ⟨_, rfl, p, C, dx, _, _, rfl, ho, T.cl, T.nh, cf_h _ _ _, _, _, rfl, rfl, ⟨by omega, by omega, by decide⟩, ?_⟩
  exact iE (Q := Q) (pow_sh r.h) q
theorem ok_leaning_child {f C : Addr} {fd : FuncData} {k : Nat} (F : Fun K "leaning_child" "leaning_child" s_leaning_child f fd) (T : CT K C) : FnOk P w K mg base CX0 (k + 1) f fd P_leaning_child (spChild K C) := by
  refine F.ok sc_leaning_child (fun vs H Q E h => ?_) (fun cdv A outer s H vs Q E hr h => ?_)
  · obtain ⟨p, r, w, v, row, x, rfl, _⟩ := h
    rfl
  obtain ⟨p, r, w, v, row, x, rfl, hC, k, hw, hv, q⟩ := h
  refine ⟨_, (pss_one (ps_ret (pe_op op_add (pe_op op_mul pe_int (pv 2)) (pe_ix (r := rIxT K) ix_tup (pe_ix (r := rIxT K) ix_tup (pe_fld (pv 0) rfl) (pv 1) (fun _ _ => rfl)) (pe_op op_sub (pv 2) pe_int) (fun _ _ => rfl))))), ?_⟩
  obtain ⟨sa, la, as, ⟨dx, ho⟩, hs, hl, hr⟩ := hC
  obtain ⟨a, ea, ha⟩ := hr.get hw
  refine ⟨_, rfl, _, _, rfl, rfl, .inl ⟨by omega, by omega⟩, _, rfl, p, C, dx, _, _, rfl, ho, T.cl, T.nl, cf_l _ _ _, _, rfl, _, _, _, _, rfl, rfl, hl, atI_nat (rf_get ea), _, rfl, _, _, rfl, rfl, _, _, _, _, rfl, rfl, ha, ni_atE (by omega) hv, _, _, rfl, rfl, iE (Q := Q) (by omega) q⟩
theorem ok_seat_node {f C : Addr} {fd : FuncData} {k : Nat} (F : Fun K "seat_node" "seat_node" s_seat_node f fd) (OP_leaves : OkProp P w K mg base k C "leaves" (spLeaves K C)) (T : CT K C) : FnOk P w K mg base CX0 (k + 1) f fd P_seat_node (spSeat K C) := by
  refine F.ok sc_seat_node (fun vs H Q E h => ?_) (fun cdv A outer s H vs Q E hr h => ?_)
  · obtain ⟨p, r, w, s, rfl, _⟩ := h
    rfl
  obtain ⟨p, r, w, s, rfl, hC, k, hw, q⟩ := h
  refine ⟨_, (pss_one (ps_ret (pe_op op_add (pe_p OP_leaves T.cl hr (pv 0) (by rfl)) (pe_ix (r := rIxT K) ix_tup (pe_fld (pv 0) rfl) (pv 1) (fun _ _ => rfl))))), ?_⟩
  have hC2 := hC
  obtain ⟨sa, la, as, ⟨dx, ho⟩, hs, hl, hr⟩ := hC
  refine ⟨_, rfl, p, dx, _, rfl, ho, p, r, rfl, hC2, k, _, rfl, p, C, dx, _, _, rfl, ho, T.cl, T.ns, cf_s _ _ _, _, rfl, _, _, _, _, rfl, rfl, hs, ni_atI hw, _, _, rfl, rfl, ?_⟩
  exact q
end
end K33
namespace K33
open PySem L2 Vk
section
variable {P : Program} {w : World} {K : PySem.W.Frag} {mg : Str → Option Value} {base : Heap}
theorem ok_law_take {f : Addr} {fd : FuncData} {k : Nat} (F : Fun K "_law_take" "_law_take" s_law_take f fd) (mint : mg "int" = none) : FnOk P w K mg base CX0 (k + 1) f fd P_law_take spTake := by
  refine F.ok sc_law_take (fun vs H Q E h => ?_) (fun cdv A outer s H vs Q E hr h => ?_)
  · obtain ⟨a, n, rfl, _⟩ := h
    rfl
  obtain ⟨a, n, rfl, ⟨x, y, z, e⟩, n0, n1, q⟩ := h
  refine ⟨_, (pss_cons (ps_asg (pe_op op_add (pe_ix (r := rIxL K) ix_list (pv 0) pe_int (fun _ _ => rfl)) pe_int) (pg_sub (pv 0) pe_int set_list))
    (C8.pss_cut (ps_if (PW.pt (pw_and (pt_cmpR op_eq (pe_ix (r := rIxL K) ix_list (pv 0) pe_int (fun _ _ => rfl)) pe_int (nomark _)) (pw_and1 (pt_cmpR op_eq (pe_ix (r := rIxL K) ix_list (pv 0) pe_int (fun _ _ => rfl)) pe_int (nomark _)))))
      (pss_cons (ps_asg pe_int (pg_sub (pv 0) pe_int set_list))
      (pss_one (ps_asg (pe_op op_add pe_int (pe_ix (r := rIxL K) ix_list (pv 0) pe_int (fun _ _ => rfl))) (pg_sub (pv 0) pe_int set_list))))
      pss_nil)
    (pss_cons (ps_if (pt_cmpR op_eq (pe_ix (r := rIxL K) ix_list (pv 0) pe_int (fun _ _ => rfl)) pe_int (nomark _))
      (pss_cons (ps_set (i := 2) sc_law_take.nd rfl (Or.inl rfl) (pe_op op_modN (pe_callTy call_int1 (by rfl) mint (by decide +kernel) (pa_cons (pe_ix (r := rIxL K) ix_list (pv 0) pe_int (fun _ _ => rfl)) pa_nil)) (pv 1)))
      (pss_cons (ps_asg (pe_op op_fdivN (pe_callTy call_int1 (by rfl) mint (by decide +kernel) (pa_cons (pe_ix (r := rIxL K) ix_list (pv 0) pe_int (fun _ _ => rfl)) pa_nil)) (pv 1)) (pg_sub (pv 0) pe_int set_list))
      (pss_one (ps_ret (pv 2)))))
      pss_nil)
    (pss_cons (ps_asg (pe_op op_modN (pe_callTy call_int1 (by rfl) mint (by decide +kernel) (pa_cons (pe_op op_add (pe_op op_add (pe_op op_mul (pe_ix (r := rIxL K) ix_list (pv 0) pe_int (fun _ _ => rfl)) pe_int) (pe_op op_mul pe_int (pe_ix (r := rIxL K) ix_list (pv 0) pe_int (fun _ _ => rfl)))) pe_int) pa_nil)) pe_int) (pg_sub (pv 0) pe_int set_list))
    (pss_cons (ps_set (i := 3) sc_law_take.nd rfl (Or.inl rfl) (pe_op op_modN (pe_callTy call_int1 (by rfl) mint (by decide +kernel) (pa_cons (pe_op op_mul (pe_ix (r := rIxL K) ix_list (pv 0) pe_int (fun _ _ => rfl)) (pe_op op_add (pe_op op_fdivN (pe_ix (r := rIxL K) ix_list (pv 0) pe_int (fun _ _ => rfl)) pe_int) pe_int)) pa_nil)) pe_int))
    (pss_one (ps_ret (pe_op op_modN (pe_op op_fdivN (pv 3) pe_int) (pv 1))))))))), ?_⟩
  -- feed[2] = feed[2] + 1
  refine ⟨_, rfl, _, _, _, _, rfl, rfl, SqL.of e, atI_nat (j := 2) rfl, _, _, rfl, rfl, _, rfl, _, _, _, _, rfl, rfl, e, rfl, ?_⟩
  have e1 : (upd H a (.lst [.int x, .int y, .int (z + 1)])) a = some (.lst [.int x, .int y, .int (z + 1)]) := upd_same
  have g1 : ∀ b o, b ≠ a → H b = some o → (upd H a (.lst [.int x, .int y, .int (z + 1)])) b = some o := fun b o nb eb => by rw [upd_ne nb]; exact eb
  refine ⟨fun σ' H' => ∃ x y z : Int, σ' = [some (.ref a), some (.int n), none, none] ∧ H' a = some (.lst [.int x, .int y, .int z]) ∧ (∀ b o, b ≠ a → H b = some o → H' b = some o), ?_, fun σ' H' hm => ?_⟩
  · refine ⟨_, rfl, _, _, _, _, rfl, rfl, SqL.of e1, atI_nat (j := 0) rfl, rfl, _, rfl, ite2 (fun c => ?_) (fun c => ?_)⟩
    · refine ⟨_, rfl, _, _, _, _, rfl, rfl, SqL.of e1, atI_nat (j := 1) rfl, rfl, _, rfl, ite2 (fun c => ?_) (fun c => ?_)⟩
      · refine ⟨_, rfl, _, _, _, _, rfl, rfl, e1, rfl, ?_⟩
        refine ⟨_, rfl, _, _, _, _, rfl, rfl, SqL.of upd_same, atI_nat (j := 2) rfl, _, _, rfl, rfl, _, rfl, _, _, _, _, rfl, rfl, upd_same, rfl, ?_⟩
        exact ⟨_, _, _, rfl, upd_same, fun b o nb eb => by rw [upd_ne nb, upd_ne nb]; exact g1 b o nb eb⟩
      · exact ⟨_, _, _, rfl, e1, g1⟩
    · exact ⟨_, _, _, rfl, e1, g1⟩
  obtain ⟨x, y, z, rfl, e2, g2⟩ := hm
  refine ⟨_, rfl, _, _, _, _, rfl, rfl, SqL.of e2, atI_nat (j := 0) rfl, rfl, _, rfl, ite2 (fun c => ?_) (fun c => ?_)⟩
  · refine ⟨_, rfl, _, _, _, _, rfl, rfl, SqL.of e2, atI_nat (j := 1) rfl, .inl ⟨_, rfl, _, rfl, _, _, rfl, rfl, by omega, ?_⟩⟩
    refine ⟨_, rfl, _, _, _, _, rfl, rfl, SqL.of e2, atI_nat (j := 1) rfl, .inl ⟨_, rfl, _, rfl, _, _, rfl, rfl, ⟨by omega, by omega⟩, ?_⟩⟩
    refine ⟨_, rfl, _, _, _, _, rfl, rfl, e2, rfl, ?_⟩
    refine ⟨_, rfl, ?_⟩
    exact q _ _ (fmod_lo n0) (fmod_hi n0) ⟨fun b o nb eb => by rw [upd_ne nb]; exact g2 b o nb eb, ⟨_, _, _, upd_same⟩⟩
  · refine ⟨_, rfl, _, _, _, _, rfl, rfl, SqL.of e2, atI_nat (j := 1) rfl, _, _, rfl, rfl, .inr ⟨by decide, by decide⟩, ?_⟩
    refine ⟨_, rfl, _, _, _, _, rfl, rfl, SqL.of e2, atI_nat (j := 2) rfl, _, _, rfl, rfl, .inl ⟨by decide, by decide⟩, _, _, rfl, rfl, _, _, rfl, rfl, .inl ⟨_, rfl, _, _, rfl, rfl, by omega, ?_⟩⟩
    refine ⟨_, rfl, _, _, _, _, rfl, rfl, e2, rfl, ?_⟩
    have b0 := fmod_lo (a := y * 48271 + 974711 * z + 12345) (b := 2147483647) (by decide)
    have b1 := fmod_hi (a := y * 48271 + 974711 * z + 12345) (b := 2147483647) (by decide)
    refine ⟨_, rfl, _, _, _, _, rfl, rfl, SqL.of upd_same, atI_nat (j := 1) rfl, _, rfl, _, _, _, _, rfl, rfl, SqL.of upd_same, atI_nat (j := 1) rfl, _, _, rfl, rfl, ⟨by decide, by decide⟩, _, _, rfl, rfl, _, _, rfl, rfl, .inl ⟨by omega, by omega⟩, .inl ⟨_, rfl, _, _, rfl, rfl, by omega, ?_⟩⟩
    refine ⟨_, rfl, _, _, rfl, rfl, ⟨by decide, by decide⟩, _, rfl, _, _, rfl, rfl, by omega, ?_⟩
    exact q _ _ (fmod_lo n0) (fmod_hi n0) ⟨fun b o nb eb => by rw [upd_ne nb]; exact g2 b o nb eb, ⟨_, _, _, upd_same⟩⟩
theorem ok_law_feed {f : Addr} {fd : FuncData} {k : Nat} (F : Fun K "_law_feed" "_law_feed" s_law_feed f fd) (mint : mg "int" = none) : FnOk P w K mg base CX0 (k + 1) f fd P_law_feed spFeed := by
  refine F.ok sc_law_feed (fun vs H Q E h => ?_) (fun cdv A outer s H vs Q E hr h => ?_)
  · obtain ⟨n, rfl, _⟩ := h
    rfl
  obtain ⟨n, rfl, q⟩ := h
  refine ⟨_, (pss_cons (ps_set (i := 1) sc_law_feed.nd rfl (Or.inl rfl) (pe_callTy call_int1 (by rfl) mint (by decide +kernel) (pa_cons (pv 0) pa_nil)))
    (pss_cons (ps_if (pt_cmpR op_ge (pv 1) (pe_op op_pow pe_int pe_int) (nomark _))
      (pss_one (ps_ret (pe_lst (pa_cons pe_int (pa_cons (pe_op op_sub (pv 1) (pe_op op_pow pe_int pe_int)) (pa_cons pe_int pa_nil))))))
      pss_nil)
    (pss_one (ps_ret (pe_lst (pa_cons pe_int (pa_cons (pe_op op_modN (pe_callTy call_int1 (by rfl) mint (by decide +kernel) (pa_cons (pv 1) pa_nil)) pe_int) (pa_cons pe_int pa_nil)))))))), ?_⟩
  refine ⟨_, rfl, .inl ⟨_, rfl, ?_⟩⟩
  refine ⟨_, rfl, _, _, rfl, rfl, ⟨by decide, by decide, by decide⟩, _, _, rfl, rfl, _, rfl, ite2 (fun c => ?_) (fun c => ?_)⟩
  · refine ⟨_, rfl, _, _, rfl, rfl, ⟨by decide, by decide, by decide⟩, _, _, rfl, rfl, (by show 3 ≤ sizeLine; decide), fun p hp => ?_⟩
    exact q _ _ (same_new hp _) hp ⟨_, _, _, upd_same⟩
  · refine ⟨_, rfl, .inl ⟨_, rfl, _, _, rfl, rfl, by omega, (by show 3 ≤ sizeLine; decide), fun p hp => ?_⟩⟩
    exact q _ _ (same_new hp _) hp ⟨_, _, _, upd_same⟩
theorem ok_law_cell {f : Addr} {fd : FuncData} {k : Nat} (F : Fun K "_law_cell" "_law_cell" s_law_cell f fd) (mlen : mg "len" = none) (mint : mg "int" = none) : FnOk P w K mg base CX0 (k + 1) f fd P_law_cell (spCellv K) := by
  refine F.ok sc_law_cell (fun vs H Q E h => ?_) (fun cdv A outer s H vs Q E hr h => ?_)
  · obtain ⟨a, ns, j, rfl, _⟩ := h
    rfl
  obtain ⟨a, ns, j, rfl, hS, j0, j1, q⟩ := h
  refine ⟨_, (pss_cons (ps_if (pt_cmpR op_lt (pv 1) (pe_callB (r := rLenS K) call_lenK (by rfl) mlen (by decide +kernel) (pa_cons (pv 0) pa_nil)) (nomark _))
      (pss_one (ps_ret (pe_ix (r := rIxL K) ix_list (pv 0) (pv 1) (fun _ _ => rfl))))
      pss_nil)
    (pss_cons (ps_set (i := 2) sc_law_cell.nd rfl (Or.inl rfl) pe_int)
    (pss_cons (ps_for PassesOwn.never rfl (pi_list (pv 0)) (pg_name (i := 3) sc_law_cell.nd rfl (Or.inl rfl))
      (pss_one (ps_set (i := 2) sc_law_cell.nd rfl (Or.inl rfl) (pe_op op_modN (pe_callTy call_int1 (by rfl) mint (by decide +kernel) (pa_cons (pe_op op_add (pe_op op_mul (pv 2) pe_int) (pe_op op_modN (pe_callTy call_int1 (by rfl) mint (by decide +kernel) (pa_cons (pv 3) pa_nil)) pe_int)) pa_nil)) pe_int))))
    (pss_one (ps_ret (pe_op op_modN (pe_callTy call_int1 (by rfl) mint (by decide +kernel) (pa_cons (pe_op op_mul (pe_op op_mul (pe_op op_add (pv 2) pe_int) (pe_op op_add (pv 1) pe_int)) pe_int) pa_nil)) pe_int)))))), ?_⟩
  refine ⟨_, rfl, _, rfl, _, _, rfl, .inl hS, _, _, rfl, rfl, _, rfl, ite2' (fun c => ?_) (fun c => ?_)⟩
  · obtain ⟨v, vm, ev⟩ := atI_in (xs := ns.map V.int) j0 c
    obtain ⟨n, _, rfl⟩ := List.mem_map.mp vm
    exact ⟨_, rfl, _, rfl, _, _, _, _, rfl, rfl, hS, ev, q n⟩
  · refine ⟨_, rfl, a, rfl, ⟨_, hS⟩, ?_⟩
    refine for_list (xs := ns.map V.int) (fun i σ H' => ∃ (sd : Int) (y : Option V), σ = [some (.ref a), some (.int j), some (.int sd), y] ∧ 0 ≤ sd ∧ sd < 1000003 ∧ H' = H) ⟨_, _, rfl, by decide, by decide, rfl⟩ (fun i σ H' _ hp => ?_) (fun i x σ H' hx hp => ?_) (fun σ H' hp => ?_)
    · obtain ⟨sd, y, _, _, _, rfl⟩ := hp
      exact hS
    · obtain ⟨sd, y, rfl, b0, b1, rfl⟩ := hp
      obtain ⟨n, _, rfl⟩ := List.mem_map.mp (List.mem_of_getElem? hx)
      refine ⟨_, rfl, _, _, rfl, rfl, .inl ⟨by omega, by omega⟩, _, rfl, .inl ⟨_, rfl, _, _, rfl, rfl, by omega, _, _, rfl, rfl, .inl ⟨_, rfl, _, _, rfl, rfl, by omega, ?_⟩⟩⟩
      exact ⟨_, _, rfl, fmod_lo (by decide), fmod_hi (by decide), rfl⟩
    · obtain ⟨sd, y, rfl, b0, b1, rfl⟩ := hp
      refine ⟨_, rfl, _, _, rfl, rfl, _, rfl, _, _, rfl, rfl, _, _, rfl, rfl, .inl ⟨by omega, by omega⟩, _, _, rfl, rfl, .inr ⟨by decide, by decide⟩, .inl ⟨_, rfl, _, _, rfl, rfl, by omega, ?_⟩⟩
      exact q _
end
end K33
namespace K33
open PySem L2 Vk
def spWhole : Sp := fun vs H Q _ => ∃ (n : Int), vs = [.int n] ∧ Q (.bl true) H
def spLCrew : Sp := fun vs H Q _ => ∃ (a : Addr) (tl up : Nat), vs = [.ref a, .int (tl : Int), .int (up : Int)] ∧ Fd H a ∧ 1 ≤ tl ∧ tl ≤ 4 ∧ 1 ≤ up ∧ up ≤ 16 ∧ ∀ p H' r, Stp a H H' → Rws H' p r → r.ok → Q (.ref p) H'
/-- seats and leanings while they are drawn -/
structure Acc (H : Hp) (a s l : Addr) (N i j : Nat) (ss : List Nat) (as : List Addr) (rows : List (List Nat)) (H' : Hp) : Prop where
  st : Stp a H H'
  es : H' s = some (.lst (ni ss))
  el : H' l = some (.lst (rf as))
  sl : ss.length = i
  sN : ∀ x ∈ ss, x < N
  ro : LL (fun b row => (b ≠ a ∧ b ≠ s ∧ b ≠ l) ∧ H' b = some (.lst (ni row))) as rows
  rj : rows.length = j
  rl : ∀ row ∈ rows, row.length = N - 1
  r1 : ∀ row ∈ rows, ∀ x ∈ row, x ≤ 1
section
variable {H H1 H2 : Hp} {a s l : Addr} {N i j : Nat} {ss : List Nat} {as : List Addr} {rows : List (List Nat)}
theorem Acc.draw (A : Acc H a s l N i j ss as rows H1) (ns : s ≠ a) (nl : l ≠ a) (t : Stp a H1 H2) : Acc H a s l N i j ss as rows H2 :=
  { A with st := A.st.trans t, es := t.1 _ _ ns A.es, el := t.1 _ _ nl A.el, ro := A.ro.mono fun b row ⟨h, e⟩ => ⟨h, t.1 _ _ h.1 e⟩ }
theorem Acc.seat (A : Acc H a s l N i j ss as rows H1) (fs : H s = none) (ns : s ≠ a) (sl : s ≠ l) {x : Nat} (hx : x < N) : Acc H a s l N (i + 1) j (ss ++ [x]) as rows (upd H1 s (.lst (ni ss ++ [.int (x : Int)]))) :=
  { A with st := stp_upd A.st fs ns, es := by rw [upd_same, ni_app]; rfl, el := upd_keep A.el sl.symm, sl := by rw [List.length_append, A.sl]; rfl,
           sN := fun y hy => by
            rcases List.mem_append.mp hy with h | h
            · exact A.sN y h
            · rw [List.mem_singleton.mp h]; exact hx
           ro := A.ro.mono fun b row ⟨h, e⟩ => ⟨h, upd_keep e h.2.1⟩ }
theorem Acc.row (A : Acc H a s l N i j ss as rows H1) (fl : H l = none) (nl : l ≠ a) (sl : s ≠ l) {b : Addr} {row : List Nat} (hb : b ≠ a ∧ b ≠ s ∧ b ≠ l) (e : H1 b = some (.lst (ni row))) (h1 : row.length = N - 1) (h2 : ∀ x ∈ row, x ≤ 1) :
    Acc H a s l N i (j + 1) ss (as ++ [b]) (rows ++ [row]) (upd H1 l (.lst (rf as ++ [.ref b]))) :=
  { A with st := stp_upd A.st fl nl, es := upd_keep A.es sl, el := by rw [upd_same, rf_app]; rfl, rj := by rw [List.length_append, A.rj]; rfl,
           ro := (A.ro.mono fun b row ⟨h, e⟩ => ⟨h, upd_keep e h.2.2⟩).snoc ⟨hb, upd_keep e hb.2.2⟩
           rl := fun y hy => by
            rcases List.mem_append.mp hy with h | h
            · exact A.rl y h
            · rw [List.mem_singleton.mp h]; exact h1
           r1 := fun y hy => by
            rcases List.mem_append.mp hy with h | h
            · exact A.r1 y h
            · rw [List.mem_singleton.mp h]; exact h2 }
end
theorem menu_at {i : Nat} (h1 : 1 ≤ i) (h4 : i ≤ 4) : atI [V.int 1, V.int 2, V.int 4, V.int 8, V.int 16] (i : Int) = some (.int ((2 ^ i : Nat) : Int)) := by
  have : i = 1 ∨ i = 2 ∨ i = 3 ∨ i = 4 := by omega
  rcases this with rfl | rfl | rfl | rfl <;> exact atI_nat rfl
theorem seat_lt {k N cnt : Nat} (h : k < cnt) (hN : 1 ≤ N) : k * N / cnt < N := by
  rw [Nat.div_lt_iff_lt_mul (by omega)]
  rw [Nat.mul_comm N cnt]
  exact Nat.mul_lt_mul_of_pos_right h (by omega)
section
variable {P : Program} {w : World} {K : PySem.W.Frag} {mg : Str → Option Value} {base : Heap}
theorem ok_law_whole {f : Addr} {fd : FuncData} {k : Nat} (F : Fun K "_law_whole" "_law_whole" s_law_whole f fd) (misinstance : mg "isinstance" = none) (mbool : mg "bool" = none) (mint : mg "int" = none) : FnOk P w K mg base CX0 (k + 1) f fd P_law_whole spWhole := by
  refine F.ok sc_law_whole (fun vs H Q E h => ?_) (fun cdv A outer s H vs Q E hr h => ?_)
  · obtain ⟨n, rfl, _⟩ := h
    rfl
  obtain ⟨n, rfl, q⟩ := h
  refine ⟨_, (pss_one (ps_ret (pe_and (pe_callB (r := rIsi K) call_isi (by rfl) misinstance (by decide +kernel) (pa_cons (pv 0) (pa_cons (pe_bltn (v := .ty "int") (by rfl) mint (by decide +kernel) rfl) pa_nil))) (pe_one (pe_not (pe_callB (r := rIsi K) call_isi (by rfl) misinstance (by decide +kernel) (pa_cons (pv 0) (pa_cons (pe_bltn (v := .ty "bool") (by rfl) mbool (by decide +kernel) rfl) pa_nil)))))))), ?_⟩
  refine ⟨_, rfl, _, _, _, _, _, rfl, .ty _, .base (.int n), kit_ty (r := true) (by decide +kernel), _, rfl, ?_⟩
  exact iteT ⟨_, rfl, _, _, _, _, _, rfl, .ty _, .base (.int n), kit_ty (r := false) (by decide +kernel), _, rfl, q⟩
theorem ok_law_crew {f : Addr} {fd : FuncData} {k : Nat} (F : Fun K "_law_crew" "_law_crew" s_law_crew f fd) (O_law_take : Ok P w K mg base k "_law_take" P_law_take spTake) (mmin : mg "min" = none) (mrange : mg "range" = none) : FnOk P w K mg base CX0 (k + 1) f fd P_law_crew spLCrew := by
  refine F.ok sc_law_crew (fun vs H Q E h => ?_) (fun cdv A outer s H vs Q E hr h => ?_)
  · obtain ⟨a, tl, up, rfl, _⟩ := h
    rfl
  obtain ⟨a, tl, up, rfl, hF, t1, t4, u1, u16, q⟩ := h
  refine ⟨_, (pss_cons (ps_set (i := 3) sc_law_crew.nd rfl (Or.inl rfl) (pe_op op_add pe_int (pe_c O_law_take hr (by rfl) (pa_cons (pv 0) (pa_cons (pv 1) pa_nil)))))
    (C8.pss_cut (ps_if (pt_cmpR op_eq (pe_c O_law_take hr (by rfl) (pa_cons (pv 0) (pa_cons pe_int pa_nil))) pe_int (nomark _))
      (pss_one (ps_set (i := 3) sc_law_crew.nd rfl (Or.inl rfl) (pe_callB (call_min2 rfl) (by rfl) mmin (by decide +kernel) (pa_cons (pv 3) (pa_cons pe_int pa_nil)))))
      pss_nil)
    (pss_cons (ps_set (i := 4) sc_law_crew.nd rfl (Or.inl rfl) (pe_op op_add pe_int (pe_c O_law_take hr (by rfl) (pa_cons (pv 0) (pa_cons (pv 2) pa_nil)))))
    (pss_cons (ps_set (i := 5) sc_law_crew.nd rfl (Or.inl rfl) (pe_ix (r := rIxL K) ix_list (pe_lst (pa_cons pe_int (pa_cons pe_int (pa_cons pe_int (pa_cons pe_int (pa_cons pe_int pa_nil)))))) (pv 3) (fun _ _ => rfl)))
    (pss_cons (ps_set (i := 6) sc_law_crew.nd rfl (Or.inl rfl) (pe_c O_law_take hr (by rfl) (pa_cons (pv 0) (pa_cons pe_int pa_nil))))
    (pss_cons (ps_set (i := 7) sc_law_crew.nd rfl (Or.inl rfl) (pe_lst pa_nil))
    (pss_cons (ps_set (i := 8) sc_law_crew.nd rfl (Or.inl rfl) (pe_lst pa_nil))
    (pss_cons (ps_for PassesOwn.never rfl (pi_range1 (by rfl) mrange (pa_cons (pv 4) pa_nil)) (pg_name (i := 9) sc_law_crew.nd rfl (Or.inl rfl))
      (C8.pss_cut (ps_if (pt_cmpR op_eq (pv 6) pe_int (nomark _))
        (pss_one (ps_expr (pe_bm PySem.F.plainAttrs_list PySem.F.slot_list_append PySem.F.type_list_append mt_append (pv 7) (pa_cons (pe_op op_fdivN (pe_op op_mul (pv 9) (pv 5)) (pv 4)) pa_nil))))
        (pss_one (ps_if (pt_cmpR op_eq (pv 6) pe_int (nomark _))
          (pss_one (ps_expr (pe_bm PySem.F.plainAttrs_list PySem.F.slot_list_append PySem.F.type_list_append mt_append (pv 7) (pa_cons (pe_op op_mul (pe_c O_law_take hr (by rfl) (pa_cons (pv 0) (pa_cons pe_int pa_nil))) (pe_op op_sub (pv 5) pe_int)) pa_nil))))
          (pss_one (ps_expr (pe_bm PySem.F.plainAttrs_list PySem.F.slot_list_append PySem.F.type_list_append mt_append (pv 7) (pa_cons (pe_c O_law_take hr (by rfl) (pa_cons (pv 0) (pa_cons (pv 5) pa_nil))) pa_nil)))))))
      (pss_cons (ps_set (i := 10) sc_law_crew.nd rfl (Or.inl rfl) (pe_c O_law_take hr (by rfl) (pa_cons (pv 0) (pa_cons pe_int pa_nil))))
      (pss_one (ps_if (pt_cmpR op_eq (pv 10) pe_int (nomark _))
        (pss_one (ps_expr (pe_bm PySem.F.plainAttrs_list PySem.F.slot_list_append PySem.F.type_list_append mt_append (pv 8) (pa_cons (pe_lc (own := [("j", 11)]) (g := (gName 11)) (tt := tYes) rfl sc_law_crew.nd (pi_range1 (by rfl) mrange (pa_cons (pe_op op_sub (pv 5) pe_int) pa_nil)) (blkOk_by (N := N_law_crew) (sc := defScope s_law_crew) (by decide +kernel)) (fun _ _ _ _ _ => (pg_name (i := 11) sc_law_crew.nd rfl (Or.inl rfl))) (fun _ _ _ _ _ => pts_nil) (fun _ _ _ _ _ => pe_int)) pa_nil))))
        (pss_one (ps_if (pt_cmpR op_eq (pv 10) pe_int (nomark _))
          (pss_one (ps_expr (pe_bm PySem.F.plainAttrs_list PySem.F.slot_list_append PySem.F.type_list_append mt_append (pv 8) (pa_cons (pe_lc (own := [("j", 11)]) (g := (gName 11)) (tt := tYes) rfl sc_law_crew.nd (pi_range1 (by rfl) mrange (pa_cons (pe_op op_sub (pv 5) pe_int) pa_nil)) (blkOk_by (N := N_law_crew) (sc := defScope s_law_crew) (by decide +kernel)) (fun _ _ _ _ _ => (pg_name (i := 11) sc_law_crew.nd rfl (Or.inl rfl))) (fun _ _ _ _ _ => pts_nil) (fun _ _ _ _ _ => pe_int)) pa_nil))))
          (pss_one (ps_expr (pe_bm PySem.F.plainAttrs_list PySem.F.slot_list_append PySem.F.type_list_append mt_append (pv 8) (pa_cons (pe_lc (own := [("j", 11)]) (g := (gName 11)) (tt := tYes) rfl sc_law_crew.nd (pi_range1 (by rfl) mrange (pa_cons (pe_op op_sub (pv 5) pe_int) pa_nil)) (blkOk_by (N := N_law_crew) (sc := defScope s_law_crew) (by decide +kernel)) (fun _ _ _ _ _ => (pg_name (i := 11) sc_law_crew.nd rfl (Or.inl rfl))) (fun _ _ _ _ _ => pts_nil) (fun _ _ _ _ _ => (pe_c O_law_take hr (by rfl) (pa_cons (pv 0) (pa_cons pe_int pa_nil))))) pa_nil)))))))))))
    (pss_one (ps_ret (pe_lst (pa_cons (pv 3) (pa_cons (pv 7) (pa_cons (pv 8) pa_nil)))))))))))))), ?_⟩
  refine rd_takeV rfl rfl hF (by omega) (by omega) fun m0 Ha hm0 sa => ⟨_, _, rfl, rfl, ?_⟩
  -- the height
  refine ⟨fun σ' H' => ∃ h : Nat, σ' = [some (.ref a), some (.int (tl : Int)), some (.int (up : Int)), some (.int (h : Int)), none, none, none, none, none, none, none, none] ∧ 1 ≤ h ∧ h ≤ 4 ∧ Stp a H H', ?_, fun σ' H' hm => ?_⟩
  · refine rd_takeN rfl sa.2 (by decide) (by decide) fun m1 Hb hm1 sb => ⟨rfl, _, rfl, ?_⟩
    refine iteI (fun c => ?_) (fun c => ?_)
    · refine ⟨_, rfl, _, _, rfl, ?_⟩
      refine ⟨(if 1 + m0 < 2 then 1 + m0 else 2), ?_, ?_, ?_, sa.trans sb⟩
      · have e : (if (2 : Int) < 1 + (m0 : Int) then (2 : Int) else 1 + (m0 : Int)) = ((if 1 + m0 < 2 then 1 + m0 else 2 : Nat) : Int) := by split <;> split <;> omega
        show [some (V.ref a), some (V.int (tl : Int)), some (V.int (up : Int)), some (V.int (if (2 : Int) < 1 + (m0 : Int) then (2 : Int) else 1 + (m0 : Int))), none, none, none, none, none, none, none, none] = _
        rw [e]
      · split <;> omega
      · split <;> omega
    · exact ⟨1 + m0, by rw [Int.natCast_add]; rfl, by omega, by omega, sa.trans sb⟩
  obtain ⟨h, rfl, h1, h4, s0⟩ := hm
  refine rd_takeV rfl rfl s0.2 (by omega) (by omega) fun m1 Hb hm1 sb => ⟨_, _, rfl, rfl, ?_⟩
  refine ⟨(by show 5 ≤ sizeLine; decide), fun ml hml => ⟨_, rfl, _, _, _, _, rfl, rfl, SqL.of upd_same, menu_at h1 h4, ?_⟩⟩
  have sc := (s0.trans sb).same (same_new hml (.lst [.int 1, .int 2, .int 4, .int 8, .int 16]))
  refine rd_takeN rfl sc.2 (by decide) (by decide) fun kind Hd hkind sd => ?_
  have se := sc.trans sd
  refine ⟨(by show 0 ≤ sizeLine; decide), fun s hs => ⟨(by show 0 ≤ sizeLine; decide), fun l hl => ?_⟩⟩
  have sf := stp_new se hs (o := .lst [])
  have sg := stp_new sf hl (o := .lst [])
  have nsa : s ≠ a := se.2.ne hs
  have nla : l ≠ a := sf.2.ne hl
  have nsl : s ≠ l := ne_of_none (H := upd Hd s (.lst [])) upd_same hl
  have hN : (2 ^ h : Nat) = 2 ∨ (2 ^ h : Nat) = 4 ∨ (2 ^ h : Nat) = 8 ∨ (2 ^ h : Nat) = 16 := by
    have : h = 1 ∨ h = 2 ∨ h = 3 ∨ h = 4 := by omega
    rcases this with rfl | rfl | rfl | rfl <;> simp
  generalize eN : (2 ^ h : Nat) = N at hN
  have fs : H s = none := by
    cases q : H s with
    | none => rfl
    | some o => rw [se.1 _ _ nsa q] at hs; cases hs
  have fl : H l = none := by
    cases q : H l with
    | none => rfl
    | some o => rw [sf.1 _ _ nla q] at hl; cases hl
  refine ⟨_, rfl, _, rfl, by omega, by omega, for_range (n := (1 + (m1 : Int)).toNat) (fun i σ H' => ∃ (y9 y10 y11 : Option V) (ss : List Nat) (as : List Addr) (rows : List (List Nat)),
    σ = [some (.ref a), some (.int (tl : Int)), some (.int (up : Int)), some (.int (h : Int)), some (.int (1 + (m1 : Int))), some (.int (N : Int)), some (.int (kind : Int)), some (.ref s), some (.ref l), y9, y10, y11] ∧ Acc H a s l N i i ss as rows H')
    ⟨_, _, _, [], [], [], rfl, ⟨sg, upd_keep upd_same nsl, upd_same, rfl, (fun x hx => by cases hx), LL.nil, rfl, (fun x hx => by cases hx), (fun x hx => by cases hx)⟩⟩ (fun i σ H' hi hp => ?_) (fun σ H' hp => ?_)⟩
  · obtain ⟨y9, y10, y11, ss, as, rows, rfl, A⟩ := hp
    have l1 : ss.length = i := A.sl
    have l2 : as.length = i := A.ro.len.trans A.rj
    refine ⟨fun σ' H' => ∃ (ss : List Nat) (as : List Addr) (rows : List (List Nat)),
      σ' = [some (.ref a), some (.int (tl : Int)), some (.int (up : Int)), some (.int (h : Int)), some (.int (1 + (m1 : Int))), some (.int (N : Int)), some (.int (kind : Int)), some (.ref s), some (.ref l), some (.int (0 + (i : Int))), y10, y11] ∧ Acc H a s l N (i + 1) i ss as rows H', ?_, fun σ' H' hm => ?_⟩
    · refine ⟨_, rfl, rfl, _, rfl, iteI (fun c => ?_) (fun c => ?_)⟩
      · refine ⟨_, rfl, .inl ⟨rfl, _, SqL.of A.es⟩, _, rfl, _, rfl, _, _, rfl, rfl, .inl ⟨by omega, by omega⟩, _, rfl, _, _, rfl, rfl, ⟨by omega, by omega⟩, s, _, _, rfl, rfl, A.es, by rw [ni_len]; exact line1000 (m := 1000) (by omega) (by decide), ?_⟩
        refine ⟨ss ++ [i * N / (1 + m1)], as, rows, rfl, ?_⟩
        have e : ((0 : Int) + (i : Int)) * (N : Int) = ((i * N : Nat) : Int) := by rw [Int.zero_add, Int.natCast_mul]
        have e2 : (((0 : Int) + (i : Int)) * (N : Int)).fdiv (1 + (m1 : Int)) = ((i * N / (1 + m1) : Nat) : Int) := by
          rw [e, show (1 : Int) + (m1 : Int) = ((1 + m1 : Nat) : Int) by omega]
          exact (Int.ofNat_fdiv _ _).symm
        show Acc H a s l N (i + 1) i _ _ _ (upd H' s (.lst (ni ss ++ [.int ((((0 : Int) + (i : Int)) * (N : Int)).fdiv (1 + (m1 : Int)))])))
        rw [e2]
        exact A.seat fs nsa nsl (seat_lt (by omega) (by omega))
      · refine ⟨_, rfl, rfl, _, rfl, iteI (fun c => ?_) (fun c => ?_)⟩
        · refine ⟨_, rfl, .inl ⟨rfl, _, SqL.of A.es⟩, rd_takeN rfl A.st.2 (by decide) (by decide) fun m H1 hm t => ⟨_, rfl, _, _, rfl, rfl, _, _, rfl, rfl, .inl ⟨by omega, by omega⟩, ?_⟩⟩
          have B := A.draw nsa nla t
          refine ⟨s, _, _, rfl, rfl, B.es, by rw [ni_len]; exact line1000 (m := 1000) (by omega) (by decide), ?_⟩
          refine ⟨ss ++ [m * (N - 1)], as, rows, rfl, ?_⟩
          have e : (m : Int) * ((N : Int) - 1) = ((m * (N - 1) : Nat) : Int) := by rw [Int.natCast_mul, show ((N - 1 : Nat) : Int) = (N : Int) - 1 by omega]
          show Acc H a s l N (i + 1) i _ _ _ (upd H1 s (.lst (ni ss ++ [.int ((m : Int) * ((N : Int) - 1))])))
          rw [e]
          exact B.seat fs nsa nsl (by
            have : m = 0 ∨ m = 1 := by omega
            rcases this with rfl | rfl <;> omega)
        · refine ⟨_, rfl, .inl ⟨rfl, _, SqL.of A.es⟩, rd_takeV rfl rfl A.st.2 (by omega) (by omega) fun m H1 hm t => ?_⟩
          have B := A.draw nsa nla t
          refine ⟨s, _, _, rfl, rfl, B.es, by rw [ni_len]; exact line1000 (m := 1000) (by omega) (by decide), ?_⟩
          exact ⟨_, _, _, rfl, B.seat fs nsa nsl (by omega)⟩
    · obtain ⟨ss, as, rows, rfl, A⟩ := hm
      have l2 : as.length = i := A.ro.len.trans A.rj
      refine rd_takeN rfl A.st.2 (by decide) (by decide) fun sort H1 hsort t => ?_
      have B := A.draw nsa nla t
      have fin : ∀ (D : Addr) (H2 : Hp) (row : List Nat) (y10 y11 : Option V), H1 D = none → Stp a H1 H2 → H2 D = some (.lst (ni row)) → row.length = N - 1 → (∀ x ∈ row, x ≤ 1) →
          ∃ (l' : Addr) (xs : List V) (y : V), V.ref l = .ref l' ∧ [V.ref D] = [y] ∧ H2 l' = some (.lst xs) ∧ xs.length < sizeLine ∧
            ∃ (y9 z10 z11 : Option V) (ss : List Nat) (as : List Addr) (rows : List (List Nat)), [some (.ref a), some (.int (tl : Int)), some (.int (up : Int)), some (.int (h : Int)), some (.int (1 + (m1 : Int))), some (.int (N : Int)), some (.int (kind : Int)), some (.ref s), some (.ref l), some (.int (0 + (i : Int))), y10, y11] =
              [some (.ref a), some (.int (tl : Int)), some (.int (up : Int)), some (.int (h : Int)), some (.int (1 + (m1 : Int))), some (.int (N : Int)), some (.int (kind : Int)), some (.ref s), some (.ref l), y9, z10, z11] ∧ Acc H a s l N (i + 1) (i + 1) ss as rows (upd H2 l' (.lst (xs ++ [y]))) := fun D H2 row y10 y11 hD t2 e h1 h2 => by
        have C := B.draw nsa nla t2
        have nDa := B.st.2.ne hD
        have nDs : D ≠ s := (ne_of_none B.es hD).symm
        have nDl : D ≠ l := (ne_of_none B.el hD).symm
        exact ⟨l, _, _, rfl, rfl, C.el, by rw [rf_len]; exact line1000 (m := 1000) (by omega) (by decide), _, _, _, _, _, _, rfl, C.row fl nla nsl ⟨nDa, nDs, nDl⟩ e h1 h2⟩
      refine ⟨_, rfl, rfl, _, rfl, iteI (fun c => ?_) (fun c => ?_)⟩
      · refine ⟨_, rfl, .inl ⟨rfl, _, SqL.of B.el⟩, _, rfl, _, _, rfl, rfl, _, rfl, by omega, by omega, lc_mapS (n := ((N : Int) - 1).toNat) wk_range (fun _ _ => trivial) (by omega) (fun _ => .int 0) (fun i H1 Qe _ _ k => k _ (fun _ _ z => z)) fun D H2 hD t2 e => ?_⟩
        rw [ni_rep _ 0 (f := fun _ => V.int 0) (fun _ => rfl)] at e
        exact fin D H2 _ _ _ hD (Stp.of B.st.2 t2) e (by rw [List.length_replicate]; omega) (fun x hx => by rw [List.eq_of_mem_replicate hx]; omega)
      · refine ⟨_, rfl, rfl, _, rfl, iteI (fun c => ?_) (fun c => ?_)⟩
        · refine ⟨_, rfl, .inl ⟨rfl, _, SqL.of B.el⟩, _, rfl, _, _, rfl, rfl, _, rfl, by omega, by omega, lc_mapS (n := ((N : Int) - 1).toNat) wk_range (fun _ _ => trivial) (by omega) (fun _ => .int 1) (fun i H1 Qe _ _ k => k _ (fun _ _ z => z)) fun D H2 hD t2 e => ?_⟩
          rw [ni_rep _ 1 (f := fun _ => V.int 1) (fun _ => rfl)] at e
          exact fin D H2 _ _ _ hD (Stp.of B.st.2 t2) e (by rw [List.length_replicate]; omega) (fun x hx => by rw [List.eq_of_mem_replicate hx]; omega)
        · refine ⟨_, rfl, .inl ⟨rfl, _, SqL.of B.el⟩, _, rfl, _, _, rfl, rfl, _, rfl, by omega, by omega, lc_map (n := ((N : Int) - 1).toNat) wk_range (Stp a) (trStp B.st.2) (fun _ _ => trivial) (by omega) (fun _ _ y _ => ∃ n : Nat, y = .int (n : Int) ∧ n ≤ 1) (fun _ _ _ _ _ _ _ _ p => p) (fun _ _ _ _ _ _ _ _ p => p)
            (fun D i H1 Qe _ _ t _ k => rd_takeN (n := 2) rfl t.2 (by decide) (by decide) fun m H2 hm t2 => k _ _ t2 ⟨m, rfl, by omega⟩) fun D H2 ys hD t2 e hl hP => ?_⟩
          obtain ⟨ns, rfl, hns⟩ := ni_of (P := fun _ n => n ≤ 1) ys hP
          rw [ni_len] at hl
          exact fin D H2 _ _ _ hD t2 e (by omega) (fun x hx => by
            obtain ⟨i, hi⟩ := List.getElem?_of_mem hx
            exact hns i x hi)
  · obtain ⟨y9, y10, y11, ss, as, rows, rfl, A⟩ := hp
    have e1 : (1 + (m1 : Int)).toNat = 1 + m1 := by omega
    refine ⟨_, rfl, _, rfl, _, rfl, (by show 3 ≤ sizeLine; decide), fun p hp => ?_⟩
    have t := same_new hp (.lst [.int (h : Int), .ref s, .ref l])
    have l1 := A.sl
    have l2 := A.rj
    rw [e1] at l1 l2
    refine q p _ ⟨h, ss, rows⟩ (A.st.same t) ⟨s, l, as, upd_same, t _ _ A.es, t _ _ A.el, A.ro.mono fun b row e => t _ _ e.2⟩ ⟨h1, h4, by show 1 ≤ ss.length; omega, by show ss.length ≤ 16; omega, ?_, by show rows.length = ss.length; omega, ?_, A.r1⟩
    · show ∀ x ∈ ss, x < 2 ^ h
      rw [eN]
      exact A.sN
    · show ∀ row ∈ rows, row.length = 2 ^ h - 1
      rw [eN]
      exact A.rl
end
end K33
namespace K33
open PySem L2 Vk
theorem for_rangeL {lo n : Nat} {g : TG} {tb : TS} {D : Ends} {σ : St} {H : Hp} (Pv : Nat → St → Hp → Prop) (h0 : Pv 0 σ H) (hs : ∀ i σ H, i < n → Pv i σ H → g (.int ((lo + i : Nat) : Int)) σ H fun σ2 H2 => tb { D with nx := Pv (i + 1), ct := Pv (i + 1), bk := D.nx } σ2 H2) (hd : ∀ σ H, Pv n σ H → D.nx σ H) :
    ∃ W : Nat → Nat → St → Hp → Prop, (∃ m, W 0 m σ H) ∧ ∀ i m σ H, W i m σ H → ((Itr (lo : Int) n).stop i H ∧ D.nx σ H) ∨ ((Itr (lo : Int) n).go i H ∧ ∃ N : St → Hp → Prop, (∀ σ' H', N σ' H' → ∃ m', m' < m ∧ W (i + 1) m' σ' H') ∧ ∀ x H', (Itr (lo : Int) n).yld i H x H' → g x σ H' fun σ2 H2 => tb { D with nx := N, ct := N, bk := D.nx } σ2 H2) :=
  for_range (lo := (lo : Int)) Pv h0 (fun i σ H hi hp => by rw [← Int.natCast_add]; exact hs i σ H hi hp) hd
theorem for_range0 {n : Nat} {g : TG} {tb : TS} {D : Ends} {σ : St} {H : Hp} (Pv : Nat → St → Hp → Prop) (h0 : Pv 0 σ H) (hs : ∀ i σ H, i < n → Pv i σ H → g (.int (i : Int)) σ H fun σ2 H2 => tb { D with nx := Pv (i + 1), ct := Pv (i + 1), bk := D.nx } σ2 H2) (hd : ∀ σ H, Pv n σ H → D.nx σ H) :
    ∃ W : Nat → Nat → St → Hp → Prop, (∃ m, W 0 m σ H) ∧ ∀ i m σ H, W i m σ H → ((Itr 0 n).stop i H ∧ D.nx σ H) ∨ ((Itr 0 n).go i H ∧ ∃ N : St → Hp → Prop, (∀ σ' H', N σ' H' → ∃ m', m' < m ∧ W (i + 1) m' σ' H') ∧ ∀ x H', (Itr 0 n).yld i H x H' → g x σ H' fun σ2 H2 => tb { D with nx := N, ct := N, bk := D.nx } σ2 H2) :=
  for_range (lo := 0) Pv h0 (fun i σ H hi hp => by rw [Int.zero_add]; exact hs i σ H hi hp) hd
theorem Stp.fresh {a : Addr} {H0 H H' : Hp} (h : Stp a H H') (s : Same H0 H) (n : H0 a = none) : Same H0 H' := fun b o e => h.1 b o (ne_of_none e n) (s b o e)
/-- a group of workers: each at most once -/
structure Good (c : Nat) (g : List Nat) : Prop where
  lt : ∀ x ∈ g, x < c
  nd : g.Nodup
theorem nodup_len : ∀ (c : Nat) (g : List Nat), g.Nodup → (∀ x ∈ g, x < c) → g.length ≤ c
  | 0, g, _, h => by
    cases g with
    | nil => exact Nat.le_refl _
    | cons x r => exact absurd (h x (List.mem_cons_self ..)) (by omega)
  | c + 1, g, nd, h => by
    by_cases m : c ∈ g
    · have h1 := nodup_len c (g.erase c) (nd.erase c) fun x hx => by
        have := (nd.mem_erase_iff).mp hx
        have := h x this.2
        omega
      have h2 := List.length_erase_of_mem m
      have h3 := List.length_pos_of_mem m
      omega
    · have h1 := nodup_len c g nd fun x hx => by
        have h1 := h x hx
        have h2 : x ≠ c := fun e => m (e ▸ hx)
        omega
      omega
theorem Good.len {c : Nat} {g : List Nat} (h : Good c g) : g.length ≤ c := nodup_len c g h.nd h.lt
theorem Stp.free {a D : Addr} {H H' : Hp} (s : Stp a H H') (h : H' D = none) : H D = none := by
  cases q : H D with
  | none => rfl
  | some o =>
    by_cases c : D = a
    · rw [c] at h
      obtain ⟨x, y, z, e⟩ := s.2
      rw [e] at h
      cases h
    · rw [s.1 _ _ c q] at h
      cases h
def spRows : Sp := fun vs H Q _ => ∃ (n : Int), vs = [.int n] ∧ ∀ p H' r, Same H H' → Rws H' p r → r.ok → Q (.ref p) H'
def spNeed : Sp := fun vs H Q _ => ∃ (n : Int) (N : Nat), vs = [.int n, .int (N : Int)] ∧ 1 ≤ N ∧ N ≤ 16 ∧ ∀ l H' ns, Same H H' → H l = none → H' l = some (.lst (ni ns)) → ns.length = N → (∀ x ∈ ns, 1 ≤ x ∧ x ≤ 16) → Q (.ref l) H'
def spSome : Sp := fun vs H Q _ => ∃ (a : Addr) (c : Nat), vs = [.ref a, .int (c : Int)] ∧ Fd H a ∧ 1 ≤ c ∧ c ≤ 16 ∧ ∀ l H' g, Stp a H H' → H l = none → H' l = some (.lst (ni g)) → Good c g → Q (.ref l) H'
def spGroups : Sp := fun vs H Q _ => ∃ (n : Int) (c : Nat), vs = [.int n, .int (c : Int)] ∧ 1 ≤ c ∧ c ≤ 16 ∧ ∀ l H' as gs, Same H H' → H' l = some (.lst (rf as)) → LL (fun b g => H' b = some (.lst (ni g))) as gs → gs.length ≤ 40 → (∀ g ∈ gs, Good c g) → Q (.ref l) H'
def spLate : Sp := fun vs H Q _ => ∃ (a : Addr) (c : Nat) (st : Int) (ld : Nat), vs = [.ref a, .int (c : Int), .int st, .int (ld : Int)] ∧ Fd H a ∧ 1 ≤ c ∧ c ≤ 16 ∧ ld < c ∧ ∀ l H' g, Stp a H H' → H l = none → H' l = some (.lst (ni g)) → Good c g → ld ∈ g → Q (.ref l) H'
theorem menu8 {m : Nat} (h : m < 8) : ∃ t u : Nat, atI [V.int 2, V.int 3, V.int 4, V.int 2, V.int 3, V.int 2, V.int 4, V.int 4] ((m : Nat) : Int) = some (.int (t : Int)) ∧ atI [V.int 4, V.int 5, V.int 6, V.int 8, V.int 3, V.int 6, V.int 16, V.int 8] ((m : Nat) : Int) = some (.int (u : Int)) ∧ 1 ≤ t ∧ t ≤ 4 ∧ 1 ≤ u ∧ u ≤ 16 := by
  have : m = 0 ∨ m = 1 ∨ m = 2 ∨ m = 3 ∨ m = 4 ∨ m = 5 ∨ m = 6 ∨ m = 7 := by omega
  rcases this with rfl | rfl | rfl | rfl | rfl | rfl | rfl | rfl
  · exact ⟨2, 4, atI_nat rfl, atI_nat rfl, by decide, by decide, by decide, by decide⟩
  · exact ⟨3, 5, atI_nat rfl, atI_nat rfl, by decide, by decide, by decide, by decide⟩
  · exact ⟨4, 6, atI_nat rfl, atI_nat rfl, by decide, by decide, by decide, by decide⟩
  · exact ⟨2, 8, atI_nat rfl, atI_nat rfl, by decide, by decide, by decide, by decide⟩
  · exact ⟨3, 3, atI_nat rfl, atI_nat rfl, by decide, by decide, by decide, by decide⟩
  · exact ⟨2, 6, atI_nat rfl, atI_nat rfl, by decide, by decide, by decide, by decide⟩
  · exact ⟨4, 16, atI_nat rfl, atI_nat rfl, by decide, by decide, by decide, by decide⟩
  · exact ⟨4, 8, atI_nat rfl, atI_nat rfl, by decide, by decide, by decide, by decide⟩
theorem menu6 {m : Nat} (h : m < 6) : ∃ t : Nat, atI [V.int 2, V.int 3, V.int 1, V.int 2, V.int 16, V.int 4] ((m : Nat) : Int) = some (.int (t : Int)) ∧ 1 ≤ t ∧ t ≤ 16 := by
  have : m = 0 ∨ m = 1 ∨ m = 2 ∨ m = 3 ∨ m = 4 ∨ m = 5 := by omega
  rcases this with rfl | rfl | rfl | rfl | rfl | rfl
  · exact ⟨2, atI_nat rfl, by decide, by decide⟩
  · exact ⟨3, atI_nat rfl, by decide, by decide⟩
  · exact ⟨1, atI_nat rfl, by decide, by decide⟩
  · exact ⟨2, atI_nat rfl, by decide, by decide⟩
  · exact ⟨16, atI_nat rfl, by decide, by decide⟩
  · exact ⟨4, atI_nat rfl, by decide, by decide⟩
theorem menu4 {m : Nat} (h : m < 4) : ∃ t : Nat, atI [V.int 1, V.int 2, V.int 4, V.int 9] ((m : Nat) : Int) = some (.int (t : Int)) ∧ 1 ≤ t ∧ t ≤ 9 := by
  have : m = 0 ∨ m = 1 ∨ m = 2 ∨ m = 3 := by omega
  rcases this with rfl | rfl | rfl | rfl
  · exact ⟨1, atI_nat rfl, by decide, by decide⟩
  · exact ⟨2, atI_nat rfl, by decide, by decide⟩
  · exact ⟨4, atI_nat rfl, by decide, by decide⟩
  · exact ⟨9, atI_nat rfl, by decide, by decide⟩
/-- a worker put into a group -/
theorem Good.put {c : Nat} {g : List Nat} {k j : Nat} (h : Good c g) (hk : k < c) (hn : k ∉ g) : Good c (g.take j ++ [k] ++ g.drop j) := by
  have p : (g.take j ++ [k] ++ g.drop j).Perm (k :: g) := by
    have p1 : (g.take j ++ [k] ++ g.drop j).Perm (k :: (g.take j ++ g.drop j)) := by
      rw [List.append_assoc]
      exact List.perm_middle
    rwa [List.take_append_drop] at p1
  exact ⟨fun x hx => by
    rcases List.mem_cons.mp (p.mem_iff.mp hx) with e | e
    · rw [e]; exact hk
    · exact h.lt x e, p.nodup_iff.mpr (List.nodup_cons.mpr ⟨hn, h.nd⟩)⟩
section
variable {P : Program} {w : World} {K : PySem.W.Frag} {mg : Str → Option Value} {base : Heap}
theorem ok_law_rows {f : Addr} {fd : FuncData} {k : Nat} (F : Fun K "_law_rows" "_law_rows" s_law_rows f fd) (O_law_feed : Ok P w K mg base k "_law_feed" P_law_feed spFeed) (O_law_take : Ok P w K mg base k "_law_take" P_law_take spTake) (O_law_crew : Ok P w K mg base k "_law_crew" P_law_crew spLCrew) : FnOk P w K mg base CX0 (k + 1) f fd P_law_rows spRows := by
  refine F.ok sc_law_rows (fun vs H Q E h => ?_) (fun cdv A outer s H vs Q E hr h => ?_)
  · obtain ⟨n, rfl, _⟩ := h
    rfl
  obtain ⟨n, rfl, q⟩ := h
  refine ⟨_, (pss_cons (ps_set (i := 1) sc_law_rows.nd rfl (Or.inl rfl) (pe_c O_law_feed hr (by rfl) (pa_cons (pv 0) pa_nil)))
    (pss_cons (ps_set (i := 2) sc_law_rows.nd rfl (Or.inl rfl) (pe_c O_law_take hr (by rfl) (pa_cons (pv 1) (pa_cons pe_int pa_nil))))
    (pss_one (ps_ret (pe_c O_law_crew hr (by rfl) (pa_cons (pv 1) (pa_cons (pe_ix (r := rIxL K) ix_list (pe_lst (pa_cons pe_int (pa_cons pe_int (pa_cons pe_int (pa_cons pe_int (pa_cons pe_int (pa_cons pe_int (pa_cons pe_int (pa_cons pe_int pa_nil))))))))) (pv 2) (fun _ _ => rfl)) (pa_cons (pe_ix (r := rIxL K) ix_list (pe_lst (pa_cons pe_int (pa_cons pe_int (pa_cons pe_int (pa_cons pe_int (pa_cons pe_int (pa_cons pe_int (pa_cons pe_int (pa_cons pe_int pa_nil))))))))) (pv 2) (fun _ _ => rfl)) pa_nil)))))))), ?_⟩
  refine ⟨_, rfl, n, rfl, fun a H1 s1 na fa => ?_⟩
  refine rd_takeN rfl fa (by decide) (by decide) fun m H2 hm s2 => ?_
  obtain ⟨t, u, et, eu, t1, t4, u1, u16⟩ := menu8 (m := m) (by omega)
  refine ⟨_, rfl, (by show 8 ≤ sizeLine; decide), fun l1 hl1 => ⟨_, rfl, _, _, _, _, rfl, rfl, SqL.of upd_same, et, (by show 8 ≤ sizeLine; decide), fun l2 hl2 => ⟨_, rfl, _, _, _, _, rfl, rfl, SqL.of upd_same, eu, ?_⟩⟩⟩
  have s3 := (s2.same (same_new hl1 (.lst [.int 2, .int 3, .int 4, .int 2, .int 3, .int 2, .int 4, .int 4]))).same (same_new hl2 (.lst [.int 4, .int 5, .int 6, .int 8, .int 3, .int 6, .int 16, .int 8]))
  exact ⟨a, t, u, rfl, s3.2, t1, t4, u1, u16, fun p H' r s4 hr k => q p H' r (Stp.fresh (s3.trans s4) s1 na) hr k⟩
theorem ok_law_need_row {f : Addr} {fd : FuncData} {k : Nat} (F : Fun K "_law_need_row" "_law_need_row" s_law_need_row f fd) (O_law_feed : Ok P w K mg base k "_law_feed" P_law_feed spFeed) (O_law_take : Ok P w K mg base k "_law_take" P_law_take spTake) (mrange : mg "range" = none) : FnOk P w K mg base CX0 (k + 1) f fd P_law_need_row spNeed := by
  refine F.ok sc_law_need_row (fun vs H Q E h => ?_) (fun cdv A outer s H vs Q E hr h => ?_)
  · obtain ⟨n, N, rfl, _⟩ := h
    rfl
  obtain ⟨n, N, rfl, n1, n16, q⟩ := h
  refine ⟨_, (pss_cons (ps_set (i := 2) sc_law_need_row.nd rfl (Or.inr rfl) (pe_c O_law_feed hr (by rfl) (pa_cons (pv 0) pa_nil)))
    (pss_cons (ps_set (i := 3) sc_law_need_row.nd rfl (Or.inr rfl) (pe_ix (r := rIxL K) ix_list (pe_lst (pa_cons pe_int (pa_cons pe_int (pa_cons pe_int (pa_cons pe_int (pa_cons pe_int (pa_cons pe_int pa_nil))))))) (pe_c O_law_take hr (by rfl) (pa_cons (pv 2) (pa_cons pe_int pa_nil))) (fun _ _ => rfl)))
    (pss_one (ps_ret (pe_lc (own := [("leaf", 4)]) (g := (gName 4)) (tt := tYes) rfl sc_law_need_row.nd (pi_range1 (by rfl) mrange (pa_cons (pv 1) pa_nil)) (blkOk_by (N := N_law_need_row) (sc := defScope s_law_need_row) (by decide +kernel)) (fun _ _ _ _ _ => (pg_name (i := 4) sc_law_need_row.nd rfl (Or.inl rfl))) (fun _ _ _ _ _ => pts_nil) (fun _ _ _ _ _ => (pe_op op_add pe_int (pe_c O_law_take hr (by rfl) (pa_cons (pv 2) (pa_cons (pv 3) pa_nil)))))))))), ?_⟩
  refine ⟨_, rfl, n, rfl, fun a H1 s1 na fa => ?_⟩
  refine ⟨(by show 6 ≤ sizeLine; decide), fun l1 hl1 => rd_takeN rfl (fa.same (same_new hl1 _)) (by decide) (by decide) fun m H2 hm s2 => ?_⟩
  obtain ⟨t, et, t1, t16⟩ := menu6 (m := m) (by omega)
  refine ⟨_, _, _, _, rfl, rfl, SqL.of (s2.1 _ _ (fa.ne hl1) upd_same), et, ?_⟩
  refine ⟨_, rfl, _, rfl, by omega, by omega, lc_map (n := (N : Int).toNat) wk_range (Stp a) (trStp s2.2) (fun _ _ => trivial) (by omega) (fun _ _ y _ => ∃ x : Nat, y = .int (x : Int) ∧ 1 ≤ x ∧ x ≤ 16) (fun _ _ _ _ _ _ _ _ p => p) (fun _ _ _ _ _ _ _ _ p => p)
    (fun D i H3 Qe _ _ s _ k => rd_takeV rfl rfl s.2 (by omega) (by omega) fun x H4 hx s4 => ⟨_, _, rfl, rfl, k _ _ s4 ⟨1 + x, by rw [Int.natCast_add]; rfl, by omega, by omega⟩⟩) fun D H3 ys hD s e hl hP => ?_⟩
  obtain ⟨ns, rfl, hns⟩ := ni_of (P := fun _ x => 1 ≤ x ∧ x ≤ 16) ys hP
  rw [ni_len] at hl
  have s0 := Stp.fresh (s2.trans s) (s1.trans (same_new hl1 _)) na
  refine q D H3 ns s0 ?_ e (by omega) (fun x hx => by
    obtain ⟨i, hi⟩ := List.getElem?_of_mem hx
    exact hns i x hi)
  exact s1.free ((same_new hl1 _).free (Stp.free s2 hD))
theorem ok_law_some {f : Addr} {fd : FuncData} {k : Nat} (F : Fun K "_law_some" "_law_some" s_law_some f fd) (O_law_take : Ok P w K mg base k "_law_take" P_law_take spTake) (mrange : mg "range" = none) (mlen : mg "len" = none) : FnOk P w K mg base CX0 (k + 1) f fd P_law_some spSome := by
  refine F.ok sc_law_some (fun vs H Q E h => ?_) (fun cdv A outer s H vs Q E hr h => ?_)
  · obtain ⟨a, c, rfl, _⟩ := h
    rfl
  obtain ⟨a, c, rfl, hF, c1, c16, q⟩ := h
  refine ⟨_, (pss_cons (ps_set (i := 2) sc_law_some.nd rfl (Or.inl rfl) (pe_c O_law_take hr (by rfl) (pa_cons (pv 0) (pa_cons pe_int pa_nil))))
    (pss_cons (ps_set (i := 3) sc_law_some.nd rfl (Or.inl rfl) (pe_c O_law_take hr (by rfl) (pa_cons (pv 0) (pa_cons (pv 1) pa_nil))))
    (pss_cons (ps_set (i := 4) sc_law_some.nd rfl (Or.inl rfl) (pe_lst pa_nil))
    (pss_cons (ps_for PassesOwn.never rfl (pi_range1 (by rfl) mrange (pa_cons (pv 1) pa_nil)) (pg_name (i := 5) sc_law_some.nd rfl (Or.inl rfl))
      (pss_cons (ps_set (i := 6) sc_law_some.nd rfl (Or.inl rfl) pe_bl)
      (C8.pss_cut (ps_if (pt_cmpR op_lt (pv 2) pe_int (nomark _))
        (pss_one (ps_set (i := 6) sc_law_some.nd rfl (Or.inl rfl) (pe_cmpR op_eq (pv 5) (pv 3) (nomark _))))
        (pss_one (ps_if (pt_cmpR op_eq (pv 2) pe_int (nomark _))
          (pss_one (ps_set (i := 6) sc_law_some.nd rfl (Or.inl rfl) (pe_cmpR op_ne (pv 5) (pv 3) (nomark _))))
          (pss_one (ps_if (pt_cmpR op_lt (pv 2) pe_int (nomark _))
            (pss_one (ps_set (i := 6) sc_law_some.nd rfl (Or.inl rfl) (pe_cmpR op_eq (pe_c O_law_take hr (by rfl) (pa_cons (pv 0) (pa_cons pe_int pa_nil))) pe_int (nomark _))))
            pss_nil)))))
      (pss_one (ps_if (pt_val (pv 6))
        (pss_one (ps_expr (pe_bm PySem.F.plainAttrs_list PySem.F.slot_list_insert PySem.F.type_list_insert mt_insert (pv 4) (pa_cons (pe_c O_law_take hr (by rfl) (pa_cons (pv 0) (pa_cons (pe_op op_add (pe_callB (r := rLenS K) call_lenK (by rfl) mlen (by decide +kernel) (pa_cons (pv 4) pa_nil)) pe_int) pa_nil))) (pa_cons (pv 5) pa_nil)))))
        pss_nil)))))
    (pss_one (ps_ret (pv 4))))))), ?_⟩
  refine rd_takeN rfl hF (by decide) (by decide) fun kind Ha hk sa => ?_
  refine rd_takeV rfl rfl sa.2 (by omega) (by omega) fun lead Hb hl sb => ?_
  have s0 := sa.trans sb
  refine ⟨(by show 0 ≤ sizeLine; decide), fun g hg => ?_⟩
  have ng : g ≠ a := s0.2.ne hg
  have fg : H g = none := Stp.free s0 hg
  refine ⟨_, rfl, _, rfl, by omega, by omega, for_range0 (n := (c : Int).toNat) (fun i σ H' => ∃ (y5 y6 : Option V) (gs : List Nat), σ = [some (.ref a), some (.int (c : Int)), some (.int (kind : Int)), some (.int (lead : Int)), some (.ref g), y5, y6] ∧ Stp a H H' ∧ H' g = some (.lst (ni gs)) ∧ Good c gs ∧ ∀ x ∈ gs, x < i)
    ⟨_, _, [], rfl, stp_new s0 hg, upd_same, ⟨(fun x hx => by cases hx), List.nodup_nil⟩, (fun x hx => by cases hx)⟩ (fun i σ H' hi hp => ?_) (fun σ H' hp => ?_)⟩
  · obtain ⟨y5, y6, gs, rfl, s, e, G, lt⟩ := hp
    have hic : i < c := by omega
    refine ⟨fun σ' H2 => ∃ b, σ' = [some (.ref a), some (.int (c : Int)), some (.int (kind : Int)), some (.int (lead : Int)), some (.ref g), some (.int (i : Int)), some (.bl b)] ∧ Stp a H' H2, ?_, fun σ' H2 hm => ?_⟩
    · refine ⟨_, rfl, _, _, rfl, rfl, _, rfl, itD (fun d => ?_) (fun d => ?_)⟩
      · exact ⟨_, rfl, _, rfl, rfl, _, rfl, Stp.refl s.2⟩
      refine ⟨_, rfl, rfl, _, rfl, iteI (fun d => ?_) (fun d => ?_)⟩
      · exact ⟨_, rfl, _, rfl, rfl, _, rfl, Stp.refl s.2⟩
      refine ⟨_, rfl, _, _, rfl, rfl, _, rfl, itD (fun d => ?_) (fun d => ?_)⟩
      · exact rd_takeN rfl s.2 (by decide) (by decide) fun m H3 hm s3 => ⟨rfl, _, rfl, s3⟩
      · exact ⟨_, rfl, Stp.refl s.2⟩
    obtain ⟨b, rfl, s2⟩ := hm
    have e2 := s2.1 _ _ ng e
    have s02 := s.trans s2
    have gl := G.len
    refine ⟨_, rfl, b, rfl, ?_⟩
    cases b with
    | false => exact iteF ⟨_, _, gs, rfl, s02, e2, G, fun x hx => by have := lt x hx; omega⟩
    | true =>
      refine iteT ⟨_, rfl, .inl ⟨rfl, _, SqL.of e2⟩, _, rfl, _, rfl, g, _, rfl, .inl (SqL.of e2), _, _, rfl, rfl, a, _, rfl, s02.2, by rw [ni_len]; omega, by rw [ni_len]; omega, fun m0 H3 hm0 hm s3 => ?_⟩
      obtain ⟨m, rfl⟩ := Int.eq_ofNat_of_zero_le hm0
      have e3 := s3.1 _ _ ng e2
      refine ⟨_, rfl, g, _, _, _, rfl, rfl, e3, by rw [ni_len]; exact line1000 (m := 1000) (by omega) (by decide), by omega, by rw [ni_len] at hm; omega, ?_⟩
      have hn : i ∉ gs := fun h => by have := lt i h; omega
      refine ⟨_, _, gs.take m ++ [i] ++ gs.drop m, rfl, stp_upd (s02.trans s3) fg ng, upd_same.trans ?_, G.put hic hn, fun x hx => ?_⟩
      · unfold ni
        rw [Int.toNat_natCast, List.map_append, List.map_append, List.map_take, List.map_drop]
        rfl
      · rcases List.mem_append.mp hx with h | h
        · rcases List.mem_append.mp h with h | h
          · have := lt x (List.mem_of_mem_take h)
            omega
          · have := List.mem_singleton.mp h
            omega
        · have := lt x (List.mem_of_mem_drop h)
          omega
  · obtain ⟨y5, y6, gs, rfl, s, e, G, lt⟩ := hp
    exact ⟨_, rfl, q g H' gs s fg e G⟩
theorem ok_law_groups {f : Addr} {fd : FuncData} {k : Nat} (F : Fun K "_law_groups" "_law_groups" s_law_groups f fd) (O_law_feed : Ok P w K mg base k "_law_feed" P_law_feed spFeed) (O_law_take : Ok P w K mg base k "_law_take" P_law_take spTake) (mrange : mg "range" = none) (O_law_some : Ok P w K mg base k "_law_some" P_law_some spSome) (mlist : mg "list" = none) : FnOk P w K mg base CX0 (k + 1) f fd P_law_groups spGroups := by
  refine F.ok sc_law_groups (fun vs H Q E h => ?_) (fun cdv A outer s H vs Q E hr h => ?_)
  · obtain ⟨n, c, rfl, _⟩ := h
    rfl
  obtain ⟨n, c, rfl, c1, c16, q⟩ := h
  refine ⟨_, (pss_cons (ps_set (i := 2) sc_law_groups.nd rfl (Or.inl rfl) (pe_c O_law_feed hr (by rfl) (pa_cons (pv 0) pa_nil)))
    (pss_cons (ps_set (i := 3) sc_law_groups.nd rfl (Or.inl rfl) (pe_ix (r := rIxL K) ix_list (pe_lst (pa_cons pe_int (pa_cons pe_int (pa_cons pe_int (pa_cons pe_int pa_nil))))) (pe_c O_law_take hr (by rfl) (pa_cons (pv 2) (pa_cons pe_int pa_nil))) (fun _ _ => rfl)))
    (pss_cons (ps_set (i := 4) sc_law_groups.nd rfl (Or.inl rfl) (pe_lst pa_nil))
    (pss_cons (ps_set (i := 5) sc_law_groups.nd rfl (Or.inl rfl) (pe_lst pa_nil))
    (pss_cons (ps_set (i := 6) sc_law_groups.nd rfl (Or.inl rfl) pe_int)
    (pss_cons (ps_for PassesOwn.never rfl (pi_range1 (by rfl) mrange (pa_cons (pe_c O_law_take hr (by rfl) (pa_cons (pv 2) (pa_cons pe_int pa_nil))) pa_nil)) (pg_name (i := 7) sc_law_groups.nd rfl (Or.inl rfl))
      (C8.pss_cut (ps_if (pt_cmpR op_eq (pv 6) pe_int (nomark _))
        (pss_cons (ps_set (i := 5) sc_law_groups.nd rfl (Or.inl rfl) (pe_c O_law_some hr (by rfl) (pa_cons (pv 2) (pa_cons (pv 1) pa_nil))))
        (pss_one (ps_set (i := 6) sc_law_groups.nd rfl (Or.inl rfl) (pe_op op_add pe_int (pe_c O_law_take hr (by rfl) (pa_cons (pv 2) (pa_cons (pv 3) pa_nil)))))))
        pss_nil)
      (pss_cons (ps_set (i := 6) sc_law_groups.nd rfl (Or.inl rfl) (pe_op op_sub (pv 6) pe_int))
      (pss_one (ps_expr (pe_bm PySem.F.plainAttrs_list PySem.F.slot_list_append PySem.F.type_list_append mt_append (pv 4) (pa_cons (pe_callTy (r := rListOf K) call_listK (by rfl) mlist (by decide +kernel) (pa_cons (pv 5) pa_nil)) pa_nil)))))))
    (pss_one (ps_ret (pv 4))))))))), ?_⟩
  refine ⟨_, rfl, n, rfl, fun a H1 s1 na fa => ?_⟩
  refine ⟨(by show 4 ≤ sizeLine; decide), fun ml hml => rd_takeN rfl (fa.same (same_new hml _)) (by decide) (by decide) fun m H2 hm s2 => ?_⟩
  obtain ⟨t, et, t1, t9⟩ := menu4 (m := m) (by omega)
  refine ⟨_, _, _, _, rfl, rfl, SqL.of (s2.1 _ _ (fa.ne hml) upd_same), et, ?_⟩
  have sH2 : Same H H2 := Stp.fresh s2 (s1.trans (same_new hml _)) na
  refine ⟨(by show 0 ≤ sizeLine; decide), fun gl hgl => ⟨(by show 0 ≤ sizeLine; decide), fun g0 hg0 => ?_⟩⟩
  have s3 := same_new hgl (.lst [])
  have s4 := same_new hg0 (.lst [])
  have fgl : H gl = none := sH2.free hgl
  have fA := (s2.2.same s3).same s4
  have ngla : gl ≠ a := s2.2.ne hgl
  have sH4 : Same H (upd (upd H2 gl (.lst [])) g0 (.lst [])) := sH2.trans (s3.trans s4)
  have egl : (upd (upd H2 gl (.lst [])) g0 (.lst [])) gl = some (.lst []) := s4 _ _ upd_same
  refine rd_takeN rfl fA (by decide) (by decide) fun cnt H5 hcnt s5 => ?_
  refine ⟨_, rfl, by omega, by omega, for_range0 (n := (cnt : Int).toNat) (fun i σ H' => ∃ (gp : Addr) (rest : Int) (y7 : Option V) (as : List Addr) (gs : List (List Nat)) (g : List Nat),
    σ = [some (.int n), some (.int (c : Int)), some (.ref a), some (.int (t : Int)), some (.ref gl), some (.ref gp), some (.int rest), y7] ∧ (∀ b o, b ≠ a → b ≠ gl → H b = some o → H' b = some o) ∧ Fd H' a ∧ H' gl = some (.lst (rf as)) ∧
      LL (fun b g => (b ≠ a ∧ b ≠ gl) ∧ H' b = some (.lst (ni g))) as gs ∧ gs.length = i ∧ (∀ g ∈ gs, Good c g) ∧ (gp ≠ a ∧ gp ≠ gl) ∧ H' gp = some (.lst (ni g)) ∧ Good c g)
    ⟨g0, 0, _, [], [], [], rfl, fun b o nb _ e => s5.1 _ _ nb (sH4 _ _ e), s5.2, s5.1 _ _ ngla egl, LL.nil, rfl, (fun g hg => by cases hg), ⟨(s2.2.same s3).ne hg0, (ne_of_none upd_same hg0).symm⟩, s5.1 _ _ ((s2.2.same s3).ne hg0) upd_same, ⟨(fun x hx => by cases hx), List.nodup_nil⟩⟩ (fun i σ H' hi hp => ?_) (fun σ H' hp => ?_)⟩
  · obtain ⟨gp, rest, y7, as, gs, g, rfl, keep, fd', egl', ro, lgs, good, ngp, egp, gg⟩ := hp
    refine ⟨fun σ' H2 => ∃ (gp : Addr) (rest : Int) (g : List Nat), σ' = [some (.int n), some (.int (c : Int)), some (.ref a), some (.int (t : Int)), some (.ref gl), some (.ref gp), some (.int rest), some (.int (i : Int))] ∧ Stp a H' H2 ∧ (gp ≠ a ∧ gp ≠ gl) ∧ H2 gp = some (.lst (ni g)) ∧ Good c g, ?_, fun σ' H2 hm => ?_⟩
    · refine ⟨_, rfl, rfl, _, rfl, iteI (fun d => ?_) (fun d => ?_)⟩
      · refine ⟨_, rfl, _, rfl, a, c, rfl, fd', c1, c16, fun l H3 g' s6 fl el G => ?_⟩
        refine rd_takeV rfl rfl s6.2 (by omega) (by omega) fun m2 H4 hm2 s7 => ⟨_, _, rfl, rfl, l, _, g', rfl, s6.trans s7, ⟨fd'.ne fl, (ne_of_none egl' fl).symm⟩, s7.1 _ _ (fd'.ne fl) el, G⟩
      · exact ⟨gp, rest, g, rfl, Stp.refl fd', ngp, egp, gg⟩
    obtain ⟨gp, rest, g, rfl, s6, ngp, egp, gg⟩ := hm
    have ll := gg.len
    have las := ro.len
    refine ⟨_, rfl, _, _, rfl, rfl, ?_⟩
    refine ⟨_, rfl, .inl ⟨rfl, _, SqL.of (s6.1 _ _ ngla egl')⟩, _, rfl, gp, _, rfl, .inl (SqL.of egp), fun l hl => ?_⟩
    have s7 := same_new hl (.lst (ni g))
    have e7 := s7 _ _ (s6.1 _ _ ngla egl')
    have nla : l ≠ a := s6.2.ne hl
    have nlg : l ≠ gl := (ne_of_none (s6.1 _ _ ngla egl') hl).symm
    refine ⟨gl, _, _, rfl, rfl, e7, by rw [rf_len]; exact line1000 (m := 1000) (by omega) (by decide), ?_⟩
    refine ⟨gp, _, _, as ++ [l], gs ++ [g], g, rfl, fun b o nb ng e => ?_, ?_, ?_, ?_, by rw [List.length_append, lgs]; rfl, fun x hx => ?_, ngp, upd_keep (s7 _ _ egp) ngp.2, gg⟩
    · exact upd_keep (s7 _ _ (s6.1 _ _ nb (keep b o nb ng e))) ng
    · obtain ⟨x, y, z, e⟩ := s6.2.same s7
      exact ⟨x, y, z, upd_keep e ngla.symm⟩
    · rw [upd_same, rf_app]
      rfl
    · exact (ro.mono fun b g ⟨h, e⟩ => ⟨h, upd_keep (s7 _ _ (s6.1 _ _ h.1 e)) h.2⟩).snoc ⟨⟨nla, nlg⟩, upd_keep upd_same nlg⟩
    · rcases List.mem_append.mp hx with h | h
      · exact good x h
      · rw [List.mem_singleton.mp h]; exact gg
  · obtain ⟨gp, rest, y7, as, gs, g, rfl, keep, fd', egl', ro, lgs, good, ngp, egp, gg⟩ := hp
    exact ⟨_, rfl, q gl H' as gs (fun b o e => keep b o (ne_of_none e na) (ne_of_none e fgl) e) egl' (ro.mono fun b g h => h.2) (by omega) good⟩
theorem ok_law_late {f : Addr} {fd : FuncData} {k : Nat} (F : Fun K "_law_late" "_law_late" s_law_late f fd) (mrange : mg "range" = none) (O_law_some : Ok P w K mg base k "_law_some" P_law_some spSome) : FnOk P w K mg base CX0 (k + 1) f fd P_law_late spLate := by
  refine F.ok sc_law_late (fun vs H Q E h => ?_) (fun cdv A outer s H vs Q E hr h => ?_)
  · obtain ⟨a, c, st, ld, rfl, _⟩ := h
    rfl
  obtain ⟨a, c, st, ld, rfl, hF, c1, c16, hld, q⟩ := h
  refine ⟨_, (pss_cons (ps_if (pt_cmpR op_eq (pv 2) pe_int (nomark _))
      (pss_one (ps_ret (pe_lc (own := [("k", 4)]) (g := (gName 4)) (tt := tYes) rfl sc_law_late.nd (pi_range1 (by rfl) mrange (pa_cons (pv 1) pa_nil)) (blkOk_by (N := N_law_late) (sc := defScope s_law_late) (by decide +kernel)) (fun _ _ _ _ _ => (pg_name (i := 4) sc_law_late.nd rfl (Or.inl rfl))) (fun _ _ _ _ _ => pts_nil) (fun _ _ _ _ _ => (pv 4)))))
      pss_nil)
    (pss_cons (ps_if (pt_cmpR op_eq (pv 2) pe_int (nomark _))
      (pss_one (ps_ret (pe_lst (pa_cons (pv 3) pa_nil))))
      pss_nil)
    (pss_cons (ps_set (i := 5) sc_law_late.nd rfl (Or.inl rfl) (pe_c O_law_some hr (by rfl) (pa_cons (pv 0) (pa_cons (pv 1) pa_nil))))
    (C8.pss_cut (ps_if (pt_cmpR (r := rIn K true) op_notIn_seq (pv 3) (pv 5) (by rfl))
      (pss_one (ps_expr (pe_bm PySem.F.plainAttrs_list PySem.F.slot_list_append PySem.F.type_list_append mt_append (pv 5) (pa_cons (pv 3) pa_nil))))
      pss_nil)
    (pss_one (ps_ret (pv 5))))))), ?_⟩
  refine ⟨_, rfl, rfl, _, rfl, iteI (fun d => ?_) (fun d => ?_)⟩
  · refine ⟨_, rfl, _, rfl, by omega, by omega, lc_mapS (n := (c : Int).toNat) wk_range (fun _ _ => trivial) (by omega) (fun i => .int (i : Int)) (fun i H1 Qe _ _ k => ⟨_, rfl, k _ (fun _ _ z => z)⟩) fun D H1 hD s e => ?_⟩
    exact q D H1 (List.range c) (Stp.of hF s) hD (by rw [Int.toNat_natCast] at e; exact e) ⟨fun x hx => List.mem_range.mp hx, List.nodup_range⟩ (List.mem_range.mpr hld)
  refine ⟨_, rfl, rfl, _, rfl, iteI (fun d => ?_) (fun d => ?_)⟩
  · refine ⟨_, rfl, (by show 1 ≤ sizeLine; decide), fun l hl => ?_⟩
    exact q l _ [ld] (Stp.of hF (same_new hl _)) hl upd_same ⟨fun x hx => by rw [List.mem_singleton.mp hx]; exact hld, (by simp : List.Nodup [ld])⟩ (List.mem_singleton.mpr rfl)
  refine ⟨_, rfl, _, rfl, a, c, rfl, hF, c1, c16, fun g H1 gs s fg eg G => ?_⟩
  have ng : g ≠ a := hF.ne fg
  have gl := G.len
  refine ⟨fun σ' H2 => ∃ gs, σ' = [some (.ref a), some (.int (c : Int)), some (.int st), some (.int (ld : Int)), none, some (.ref g)] ∧ Stp a H H2 ∧ H2 g = some (.lst (ni gs)) ∧ Good c gs ∧ ld ∈ gs, ?_, fun σ' H2 hm => ?_⟩
  · refine ⟨_, rfl, _, rfl, g, _, rfl, .inl (SqL.of eg), rfl, flat_ni _, _, rfl, ?_⟩
    show if (!inV (.int (ld : Int)) (ni gs)) = true then _ else _
    rw [inV_ni]
    refine itDn (fun hn => ?_) (fun hy => ?_)
    · refine ⟨_, rfl, .inl ⟨rfl, _, SqL.of eg⟩, _, rfl, g, _, _, rfl, rfl, eg, by rw [ni_len]; exact line1000 (m := 1000) (by omega) (by decide), ?_⟩
      refine ⟨gs ++ [ld], rfl, stp_upd s fg ng, by rw [upd_same, ni_app]; rfl, ⟨fun x hx => ?_, ?_⟩, by simp⟩
      · rcases List.mem_append.mp hx with h | h
        · exact G.lt x h
        · rw [List.mem_singleton.mp h]; exact hld
      · exact List.nodup_append.mpr ⟨G.nd, (by simp : List.Nodup [ld]), fun x hx y hy e => hn (by rw [List.mem_singleton.mp hy] at e; exact e ▸ hx)⟩
    · exact ⟨gs, rfl, s, eg, G, hy⟩
  obtain ⟨gs, rfl, s2, e2, G2, hm⟩ := hm
  exact ⟨_, rfl, q g H2 gs s2 fg e2 G2 hm⟩
end
end K33
namespace K33
open PySem L2 Vk
def acts : WAct → Str
  | .idle => "idle"
  | .take => "take"
  | .up => "up"
  | .work => "work"
  | .mark => "mark"
  | .down => "down"
/-- a standing: a tuple of three tuples -/
def StT (H : Hp) (p : Addr) (s : Spot) : Prop := ∃ a b c : Addr, H p = some (.tup [.ref a, .ref b, .ref c]) ∧ H a = some (.tup (ni s.d)) ∧ H b = some (.tup (ni s.c)) ∧ H c = some (.tup (ni s.p))
theorem StT.same {H H' : Hp} {p : Addr} {s : Spot} (h : StT H p s) (t : Same H H') : StT H' p s := by
  obtain ⟨a, b, c, h1, h2, h3, h4⟩ := h
  exact ⟨a, b, c, t _ _ h1, t _ _ h2, t _ _ h3, t _ _ h4⟩
theorem StT.stp {H H' : Hp} {p f : Addr} {s : Spot} (h : StT H p s) (hF : Fd H f) (t : Stp f H H') : StT H' p s := by
  obtain ⟨a, b, c, h1, h2, h3, h4⟩ := h
  obtain ⟨x, y, z, e⟩ := hF
  exact ⟨a, b, c, t.1 _ _ (ne_of h1 e (by intro z; cases z)) h1, t.1 _ _ (ne_of h2 e (by intro z; cases z)) h2, t.1 _ _ (ne_of h3 e (by intro z; cases z)) h3, t.1 _ _ (ne_of h4 e (by intro z; cases z)) h4⟩
def spOver : Sp := fun vs H Q _ => ∃ (t : Addr) (r : Rows) (s : Spot), vs = [.ref t] ∧ StT H t s ∧ r.ok ∧ s.ok r ∧ Q (.bl (decide (gt s.d 1 = 1))) H
def spBelow (K : PySem.W.Frag) (C : Addr) : Sp := fun vs H Q _ => ∃ (p : Addr) (r : Rows) (w v : Nat) (a b : Bool), vs = [.ref p, .int (w : Int), .int (v : Int), .bl a, .bl b] ∧ Crw K C H p r ∧ r.ok ∧ w < r.P ∧ 1 ≤ v ∧ v < r.N ∧ Q (.int ((if a = true then 2 * v + 1 else if b = true then 2 * v else 2 * v + leanF r w v : Nat) : Int)) H
def spTurn (K : PySem.W.Frag) (C : Addr) : Sp := fun vs H Q _ => ∃ (p : Addr) (wv : V) (t : Addr) (w : Nat) (r : Rows) (s : Spot), vs = [.ref p, wv, .ref t, .int (w : Int)] ∧ Crw K C H p r ∧ r.ok ∧ StT H t s ∧ s.ok r ∧ w < r.P ∧
  ∀ u H', Same H H' → H' u = some (.tup [.str (acts (turnF r s w).1), .int ((gt s.p w : Nat) : Int), .int (((turnF r s w).2.2 : Nat) : Int)]) → Q (.ref u) H'
def spStart (K : PySem.W.Frag) (C : Addr) : Sp := fun vs H Q _ => ∃ (p : Addr) (r : Rows), vs = [.ref p] ∧ Crw K C H p r ∧ r.ok ∧ ∀ t H', Same H H' → StT H' t (startF r) → Q (.ref t) H'
def spTick (K : PySem.W.Frag) (C : Addr) : Sp := fun vs H Q _ => ∃ (p wk t g : Addr) (r : Rows) (ns : List Nat) (s : Spot) (gs : List Nat), vs = [.ref p, .ref wk, .ref t, .ref g] ∧ Crw K C H p r ∧ r.ok ∧ Sq K H wk (ni ns) ∧ ns.length = r.N ∧ StT H t s ∧ s.ok r ∧ Sq K H g (ni gs) ∧ (∀ w ∈ gs, w < r.P) ∧ gs.length ≤ 1000 ∧
  ∀ u H', Same H H' → StT H' u (tickF r ns s gs) → Q (.ref u) H'
theorem deI (a : Nat) : decide (V.int (a : Int) = V.int 1) = decide (a = 1) := by
  by_cases c : a = 1
  · subst c; rfl
  · rw [decide_eq_false c, decide_eq_false (fun z => c (by have := V.int.inj z; omega))]
theorem bI {a b : Nat} {Q : VK} {H : Hp} (q : Q (.bl (decide (a = b))) H) : Q (.bl (decide (V.int (a : Int) = V.int (b : Int)))) H := by
  by_cases c : a = b
  · subst c
    rw [decide_eq_true rfl] at q ⊢
    exact q
  · rw [decide_eq_false c] at q
    rw [decide_eq_false (fun z => c (by have := V.int.inj z; omega))]
    exact q
section
variable {P : Program} {w : World} {K : PySem.W.Frag} {mg : Str → Option Value} {base : Heap}
theorem ok_is_over {f : Addr} {fd : FuncData} {k : Nat} (F : Fun K "is_over" "is_over" s_is_over f fd)  : FnOk P w K mg base CX0 (k + 1) f fd P_is_over spOver := by
  refine F.ok sc_is_over (fun vs H Q E h => ?_) (fun cdv A outer s H vs Q E hr h => ?_)
  · obtain ⟨t, r, s, rfl, _⟩ := h
    rfl
  obtain ⟨t, r, s, rfl, hT, k, o, q⟩ := h
  refine ⟨_, (pss_one (ps_ret (pe_cmpR op_eq (pe_ix (r := rIxT K) ix_tup (pe_ix (r := rIxT K) ix_tup (pv 0) pe_int (fun _ _ => rfl)) pe_int (fun _ _ => rfl)) pe_int (nomark _)))), ?_⟩
  obtain ⟨a, b, c, h1, h2, h3, h4⟩ := hT
  have hN := k.pos
  have l := o.ld
  refine ⟨_, rfl, _, _, _, _, rfl, rfl, SqT.of h1, atI_nat (j := 0) rfl, _, _, _, _, rfl, rfl, SqT.of h2, ni_atE (i := 1) rfl (gt_get (by omega)), rfl, bI (a := gt s.d 1) (b := 1) (Q := Q) q⟩
theorem ok_child_below {f C : Addr} {fd : FuncData} {k : Nat} (F : Fun K "child_below" "child_below" s_child_below f fd) (Oleaning_child : Ok P w K mg base k "leaning_child" P_leaning_child (spChild K C)) : FnOk P w K mg base CX0 (k + 1) f fd P_child_below (spBelow K C) := by
  refine F.ok sc_child_below (fun vs H Q E h => ?_) (fun cdv A outer s H vs Q E hr h => ?_)
  · obtain ⟨p, r, w, v, a, b, rfl, _⟩ := h
    rfl
  obtain ⟨p, r, w, v, a, b, rfl, hC, k, hw, v1, vN, q⟩ := h
  refine ⟨_, (pss_cons (ps_if (pt_val (pv 3))
      (pss_one (ps_ret (pe_op op_add (pe_op op_mul pe_int (pv 2)) pe_int)))
      pss_nil)
    (pss_cons (ps_if (pt_val (pv 4))
      (pss_one (ps_ret (pe_op op_mul pe_int (pv 2))))
      pss_nil)
    (pss_one (ps_ret (pe_c Oleaning_child hr (by rfl) (pa_cons (pv 0) (pa_cons (pv 1) (pa_cons (pv 2) pa_nil)))))))), ?_⟩
  refine ⟨_, rfl, a, rfl, ?_⟩
  cases a with
  | true =>
    refine iteT ⟨_, rfl, _, _, rfl, rfl, .inl ⟨by decide, by decide⟩, _, _, rfl, rfl, iE (Q := Q) ?_ q⟩
    rw [if_pos rfl]
    omega
  | false =>
    refine iteF ⟨_, rfl, b, rfl, ?_⟩
    cases b with
    | true =>
      refine iteT ⟨_, rfl, _, _, rfl, rfl, .inl ⟨by decide, by decide⟩, iE (Q := Q) ?_ q⟩
      rw [if_neg (by decide), if_pos rfl]
      omega
    | false =>
      have hl := k.ll
      obtain ⟨row, er⟩ := get_of_lt (xs := r.lean) (i := w) (by have : w < r.seats.length := hw; omega)
      have lr := k.rl row (mem_of_get er)
      have e1 : r.lean.getD w [] = row := by rw [List.getD_eq_getElem?_getD, er]; rfl
      have ev : v = v - 1 + 1 := by omega
      refine iteF ⟨_, rfl, _, rfl, _, rfl, p, r, w, v - 1, row, gt row (v - 1), by rw [← ev]; rfl, hC, k, er, gt_get (by omega), iE (Q := Q) ?_ q⟩
      rw [if_neg (by decide), if_neg (by decide)]
      unfold leanF
      rw [e1, ← ev]
theorem ok_walk_turn {f C : Addr} {fd : FuncData} {k : Nat} (F : Fun K "walk_turn" "walk_turn" s_walk_turn f fd) (Ois_over : Ok P w K mg base k "is_over" P_is_over spOver) (Oseat_node : Ok P w K mg base k "seat_node" P_seat_node (spSeat K C)) (OP_leaves : OkProp P w K mg base k C "leaves" (spLeaves K C)) (T : CT K C) (Ochild_below : Ok P w K mg base k "child_below" P_child_below (spBelow K C)) : FnOk P w K mg base CX0 (k + 1) f fd P_walk_turn (spTurn K C) := by
  refine F.ok sc_walk_turn (fun vs H Q E h => ?_) (fun cdv A outer s H vs Q E hr h => ?_)
  · obtain ⟨p, wv, t, w, r, s, rfl, _⟩ := h
    rfl
  obtain ⟨p, wv, t, w, r, s, rfl, hC, k, hT, o, hw, q⟩ := h
  refine ⟨_, (pss_cons (ps_asg (pv 2) (pg_tup rfl (pgs_cons (pg_name (i := 4) sc_walk_turn.nd rfl (Or.inl rfl)) (pgs_cons (pg_name (i := 5) sc_walk_turn.nd rfl (Or.inl rfl)) (pgs_cons (pg_name (i := 6) sc_walk_turn.nd rfl (Or.inl rfl)) pgs_nil)))))
    (pss_cons (ps_set (i := 7) sc_walk_turn.nd rfl (Or.inl rfl) (pe_ix (r := rIxT K) ix_tup (pv 6) (pv 3) (fun _ _ => rfl)))
    (pss_cons (ps_if (pt_val (pe_c Ois_over hr (by rfl) (pa_cons (pv 2) pa_nil)))
      (pss_one (ps_ret (pe_tup (pa_cons pe_str (pa_cons (pv 7) (pa_cons (pv 7) pa_nil))))))
      pss_nil)
    (pss_cons (ps_if (pt_cmpR op_eq (pv 7) pe_int (nomark _))
      (pss_one (ps_ret (pe_tup (pa_cons pe_str (pa_cons (pv 7) (pa_cons (pe_c Oseat_node hr (by rfl) (pa_cons (pv 0) (pa_cons (pv 3) pa_nil))) pa_nil))))))
      pss_nil)
    (pss_cons (ps_if (pt_cmpR op_eq (pe_ix (r := rIxT K) ix_tup (pv 4) (pv 7) (fun _ _ => rfl)) pe_int (nomark _))
      (pss_one (ps_ret (pe_tup (pa_cons pe_str (pa_cons (pv 7) (pa_cons (pe_op op_fdivN (pv 7) pe_int) pa_nil))))))
      pss_nil)
    (pss_cons (ps_if (pt_cmpR op_ge (pv 7) (pe_p OP_leaves T.cl hr (pv 0) (by rfl)) (nomark _))
      (pss_one (ps_ret (pe_tup (pa_cons pe_str (pa_cons (pv 7) (pa_cons (pv 7) pa_nil))))))
      pss_nil)
    (pss_cons (ps_set (i := 8) sc_walk_turn.nd rfl (Or.inl rfl) (pe_cmpR op_eq (pe_ix (r := rIxT K) ix_tup (pv 4) (pe_op op_mul pe_int (pv 7)) (fun _ _ => rfl)) pe_int (nomark _)))
    (pss_cons (ps_set (i := 9) sc_walk_turn.nd rfl (Or.inl rfl) (pe_cmpR op_eq (pe_ix (r := rIxT K) ix_tup (pv 4) (pe_op op_add (pe_op op_mul pe_int (pv 7)) pe_int) (fun _ _ => rfl)) pe_int (nomark _)))
    (pss_cons (ps_if (PW.pt (pw_and (pt_val (pv 8)) (pw_and1 (pt_val (pv 9)))))
      (pss_one (ps_ret (pe_tup (pa_cons pe_str (pa_cons (pv 7) (pa_cons (pv 7) pa_nil))))))
      pss_nil)
    (pss_one (ps_ret (pe_tup (pa_cons pe_str (pa_cons (pv 7) (pa_cons (pe_c Ochild_below hr (by rfl) (pa_cons (pv 0) (pa_cons (pv 3) (pa_cons (pv 7) (pa_cons (pv 8) (pa_cons (pv 9) pa_nil)))))) pa_nil))))))))))))))), ?_⟩
  have hC2 := hC
  obtain ⟨sa, la, as, ⟨dx, ho⟩, hs, hl, hrr⟩ := hC2
  have hT2 := hT
  obtain ⟨a, b, c, h1, h2, h3, h4⟩ := hT2
  have hN := k.pos
  have ld := o.ld
  have lp := o.lp
  have hp := o.pN w
  have es : r.seats[w]? = some (gt r.seats w) := gt_get hw
  refine ⟨_, rfl, t, _, rfl, SqT.of h1, rfl, _, _, rfl, _, _, rfl, _, _, rfl, rfl, ?_⟩
  refine ⟨_, rfl, _, rfl, _, _, _, _, rfl, rfl, SqT.of h4, ni_atI (gt_get (by omega)), ?_⟩
  have fin : ∀ (act : WAct) (to : Nat), turnF r s w = (act, gt s.p w, to) → ∀ u, H u = none → Q (.ref u) (upd H u (.tup [.str (acts act), .int ((gt s.p w : Nat) : Int), .int ((to : Nat) : Int)])) := fun act to e u hu =>
    q u _ (same_new hu _) (by rw [upd_same, e])
  unfold turnF at fin
  generalize ep : gt s.p w = at_ at hp fin
  refine ⟨_, rfl, t, r, s, rfl, hT, k, o, _, rfl, itD (fun c1 => ?_) (fun c1 => ?_)⟩
  · rw [if_pos c1] at fin
    exact ⟨_, rfl, _, rfl, (by show 3 ≤ sizeLine; decide), fin .idle _ rfl⟩
  rw [if_neg c1] at fin
  refine ⟨_, rfl, rfl, _, rfl, iteI (fun c2 => ?_) (fun c2 => ?_)⟩
  · rw [if_pos (by omega)] at fin
    exact ⟨_, rfl, _, rfl, _, rfl, p, r, w, _, rfl, hC, k, es, (by show 3 ≤ sizeLine; decide), fin .take _ rfl⟩
  rw [if_neg (by omega)] at fin
  refine ⟨_, rfl, _, rfl, _, _, _, _, rfl, rfl, SqT.of h2, ni_atI (gt_get (by omega)), rfl, _, rfl, iteI (fun c3 => ?_) (fun c3 => ?_)⟩
  · rw [if_pos (by omega)] at fin
    have e2 : Int.fdiv ((at_ : Nat) : Int) 2 = ((at_ / 2 : Nat) : Int) := (Int.ofNat_fdiv at_ 2).symm
    refine ⟨_, rfl, _, rfl, _, _, rfl, rfl, ⟨by decide, by decide⟩, (by show 3 ≤ sizeLine; decide), fun u hu => ?_⟩
    have := fin .up _ rfl u hu
    rw [← e2] at this
    exact this
  rw [if_neg (by omega)] at fin
  refine ⟨_, rfl, _, rfl, p, dx, _, rfl, ho, p, r, rfl, hC, k, _, _, rfl, rfl, _, rfl, itD (fun c4 => ?_) (fun c4 => ?_)⟩
  · rw [if_pos (by omega)] at fin
    exact ⟨_, rfl, _, rfl, (by show 3 ≤ sizeLine; decide), fin .work _ rfl⟩
  rw [if_neg (by omega)] at fin
  have e2a : (2 : Int) * ((at_ : Nat) : Int) = ((2 * at_ : Nat) : Int) := by omega
  have e2b : (2 : Int) * ((at_ : Nat) : Int) + 1 = ((2 * at_ + 1 : Nat) : Int) := by omega
  refine ⟨_, rfl, _, rfl, _, _, rfl, rfl, .inl ⟨by decide, by decide⟩, _, _, _, _, rfl, rfl, SqT.of h2, ni_atE e2a (gt_get (by omega)), rfl, ?_⟩
  rw [deI]
  refine ⟨_, rfl, _, rfl, _, _, rfl, rfl, .inl ⟨by decide, by decide⟩, _, _, rfl, rfl, _, _, _, _, rfl, rfl, SqT.of h2, ni_atE e2b (gt_get (by omega)), rfl, ?_⟩
  rw [deI]
  have below : ∀ (x y : Bool), decide (gt s.d (2 * at_) = 1) = x → decide (gt s.d (2 * at_ + 1) = 1) = y → ¬ (x = true ∧ y = true) → turnF r s w = (.down, at_, (if x = true then 2 * at_ + 1 else if y = true then 2 * at_ else 2 * at_ + leanF r w at_)) := fun x y ex ey n => by
    unfold turnF
    rw [ep, if_neg c1, if_neg (by omega), if_neg (by omega), if_neg (by omega), if_neg]
    · subst ex ey
      simp only [decide_eq_true_eq]
    · subst ex ey
      simpa using n
  refine ⟨_, rfl, _, rfl, itD (fun c5 => ?_) (fun c5 => ?_)⟩
  · refine ⟨_, rfl, _, rfl, itD (fun c6 => ?_) (fun c6 => ?_)⟩
    · rw [if_pos ⟨c5, c6⟩] at fin
      exact ⟨_, rfl, _, rfl, (by show 3 ≤ sizeLine; decide), fin .mark _ rfl⟩
    · refine ⟨_, rfl, _, rfl, _, rfl, _, rfl, _, rfl, _, rfl, p, r, w, at_, _, _, rfl, hC, k, hw, by omega, by omega, (by show 3 ≤ sizeLine; decide), fun u hu => ?_⟩
      have e := below _ _ rfl rfl (by simp [c6])
      refine q u _ (same_new hu _) ?_
      rw [upd_same, e, ep]
      rfl
  · refine ⟨_, rfl, _, rfl, _, rfl, _, rfl, _, rfl, _, rfl, p, r, w, at_, _, _, rfl, hC, k, hw, by omega, by omega, (by show 3 ≤ sizeLine; decide), fun u hu => ?_⟩
    have e := below _ _ rfl rfl (by simp [c5])
    refine q u _ (same_new hu _) ?_
    rw [upd_same, e, ep]
    rfl
end
end K33
namespace K33
open PySem L2 Vk
theorem actsD (a b : WAct) : decide (V.str (acts a) = V.str (acts b)) = decide (a = b) := by
  cases a <;> cases b <;> decide +kernel
theorem set_of {l : List Nat} {n i : Nat} {j x : Nat} (h : gt l j = x) (hj : j < l.length) : l[j]? = some x := h ▸ gt_get hj
/-- len(rows[2][0]) + 1 -/
theorem leavesOf {K : PySem.W.Frag} {i : Nat} {p : Addr} {r : Rows} {σ : St} {H : Hp} {Q : VK} (hσ : σ[i]? = some (some (.ref p))) (hR : Rws H p r) (k : r.ok) (q : Q (.int (r.N : Int)) H) :
    tOp (rI0 fun i j => .int (i + j)) (tCB (rLenS K) (tCons (tOp (rIxL K) (tOp (rIxL K) (tVar i) (tC (.int 2))) (tC (.int 0))) tNil)) (tC (.int 1)) σ H Q := by
  obtain ⟨sa, la, as, ob, se, le, ro⟩ := hR
  have l1 := ro.len
  have l2 := k.ll
  have l3 := k.s1
  have hN := k.pow
  obtain ⟨row, er⟩ := get_of_lt (xs := r.lean) (i := 0) (by omega)
  obtain ⟨a, ea, ha⟩ := ro.get er
  have l4 := k.rl row (mem_of_get er)
  refine ⟨_, hσ, _, _, _, _, rfl, rfl, SqL.of ob, atI_nat (j := 2) rfl, _, _, _, _, rfl, rfl, SqL.of le, atI_nat (j := 0) (rf_get ea), a, _, rfl, .inl (SqL.of ha), _, _, rfl, rfl, iE (Q := Q) ?_ q⟩
  rw [ni_len]
  omega
/-- the constructor's promise, used -/
theorem mk_crew {K : PySem.W.Frag} {C : Addr} {H1 : Hp} {Q : Addr → Hp → Prop} {E : XK} {r : Rows} {sa la : Addr} {as : List Addr} (k : r.ok) (hS : Sq K H1 sa (ni r.seats)) (hL : Sq K H1 la (rf as)) (hR : LL (fun a row => Sq K H1 a (ni row)) as r.lean)
    (q : ∀ t H', Same H1 H' → Crw K C H' t r → Q t H') : ∀ x dx, H1 x = none → H1 dx = none → dx ≠ x →
      spInit K C (.ref x :: ([.int (r.h : Int), .ref sa, .ref la] ++ [])) (upd (upd H1 dx (.own x)) x (.ins C dx [])) (fun v H2 => v = .non ∧ Q x H2) E := by
  intro x dx hx hdx ne
  have s0 : Same H1 (upd (upd H1 dx (.own x)) x (.ins C dx [])) := (same_new hdx _).trans (same_new (by rw [upd_ne ne.symm]; exact hx) _)
  exact ⟨x, dx, r, sa, la, as, rfl, upd_same, k, hS.same s0, hL.same s0, hR.mono fun _ _ h => h.same s0, fun H' keep crw => ⟨rfl, q x H' (fun b o e => keep b o (ne_of_none e hx) (s0 b o e)) crw⟩⟩
/-! ### the tick, over or not -/
theorem tk_all {r : Rows} {ns : List Nat} {s : Spot} {g : List Nat} (k : r.ok) (o : s.ok r) (hg : ∀ w ∈ g, w < r.P) : Tk r ns s g (tickF r ns s g) := by
  by_cases h1 : gt s.d 1 = 1
  · have hi : ∀ w, turnF r s w = (.idle, gt s.p w, gt s.p w) := fun w => by unfold turnF; rw [if_pos h1]
    have hn : ∀ v, g.any (hit r s v) = false := fun v => by
      rw [List.any_eq_false]
      intro w _
      unfold hit
      rw [hi w]
      simp
    unfold tickF
    rw [if_pos h1]
    refine ⟨o, fun v => by rw [hn]; rfl, fun x => by rw [hn]; rfl, fun w => ?_⟩
    rw [hi w]
    split <;> rfl
  · exact tk_of k o hg h1
/-- new objects of a comprehension: all else stands -/
theorem Crw.kp {K : PySem.W.Frag} {C p : Addr} {H H' : Hp} {r : Rows} (h : Crw K C H p r) (ls : Addr → Prop) (hl : ∀ b, ls b → ∃ xs, H b = some (.lst xs)) (keep : ∀ b o, ¬ ls b → H b = some o → H' b = some o) : Crw K C H' p r := by
  obtain ⟨sa, la, as, ⟨dx, o⟩, a, b, c⟩ := h
  have kt : ∀ {q : Addr} {xs : List V}, SqT K H q xs → SqT K H' q xs := fun {q xs} h => by
    rcases h with (h | ⟨o, h⟩) | h
    · exact .inl (.inl (keep _ _ (fun z => by obtain ⟨ys, e⟩ := hl _ z; rw [h] at e; cases e) h))
    · exact .inl (.inr ⟨o, keep _ _ (fun z => by obtain ⟨ys, e⟩ := hl _ z; rw [h] at e; cases e) h⟩)
    · exact .inr h
  exact ⟨sa, la, as, ⟨dx, keep _ _ (fun z => by obtain ⟨ys, e⟩ := hl _ z; rw [o] at e; cases e) o⟩, kt a, kt b, c.mono fun _ _ q => kt q⟩
theorem StT.kp {H H' : Hp} {p : Addr} {s : Spot} (h : StT H p s) (ls : Addr → Prop) (hl : ∀ b, ls b → ∃ xs, H b = some (.lst xs)) (keep : ∀ b o, ¬ ls b → H b = some o → H' b = some o) : StT H' p s := by
  obtain ⟨a, b, c, h1, h2, h3, h4⟩ := h
  have kt : ∀ {q : Addr} {xs : List V}, H q = some (.tup xs) → H' q = some (.tup xs) := fun {q xs} h => keep _ _ (fun z => by obtain ⟨ys, e⟩ := hl _ z; rw [h] at e; cases e) h
  exact ⟨a, b, c, kt h1, kt h2, kt h3, kt h4⟩
section
variable {P : Program} {w : World} {K : PySem.W.Frag} {mg : Str → Option Value} {base : Heap}
theorem ok_start_standing {f C : Addr} {fd : FuncData} {k : Nat} (F : Fun K "start_standing" "start_standing" s_start_standing f fd) (OP_leaves : OkProp P w K mg base k C "leaves" (spLeaves K C)) (T : CT K C) (OP_workers : OkProp P w K mg base k C "workers" (spWorkers K C)) : FnOk P w K mg base CX0 (k + 1) f fd P_start_standing (spStart K C) := by
  refine F.ok sc_start_standing (fun vs H Q E h => ?_) (fun cdv A outer s H vs Q E hr h => ?_)
  · obtain ⟨p, r, rfl, _⟩ := h
    rfl
  obtain ⟨p, r, rfl, hC, k, q⟩ := h
  refine ⟨_, (pss_cons (ps_set (i := 1) sc_start_standing.nd rfl (Or.inl rfl) (pe_p OP_leaves T.cl hr (pv 0) (by rfl)))
    (pss_one (ps_ret (pe_tup (pa_cons (pe_op (r := rRepZ K) op_repZ (pe_tup (pa_cons pe_int pa_nil)) (pe_op op_mul pe_int (pv 1))) (pa_cons (pe_op (r := rRepZ K) op_repZ (pe_tup (pa_cons pe_int pa_nil)) (pv 1)) (pa_cons (pe_op (r := rRepZ K) op_repZ (pe_tup (pa_cons pe_int pa_nil)) (pe_p OP_workers T.cl hr (pv 0) (by rfl))) pa_nil))))))), ?_⟩
  have hN := k.pos
  have hC2 := hC
  obtain ⟨sa, la, as, ⟨dx, ho⟩, hs, hl, hrr⟩ := hC2
  have s1 : 1 ≤ r.P := k.s1
  have s16 : r.P ≤ 16 := k.s16
  refine ⟨_, rfl, p, dx, _, rfl, ho, p, r, rfl, hC, k, ?_⟩
  refine ⟨(by show 1 ≤ sizeLine; decide), fun z1 hz1 => ⟨_, rfl, _, _, rfl, rfl, .inl ⟨by decide, by decide⟩, repZ' (k := 2 * r.N) (by omega) (by omega) (by omega) upd_same fun a H1 t1 h1 => ?_⟩⟩
  refine ⟨(by show 1 ≤ sizeLine; decide), fun z2 hz2 => ⟨_, rfl, repZ' (k := r.N) rfl (by omega) (by omega) upd_same fun b H2 t2 h2 => ?_⟩⟩
  have u1 := (same_new hz1 (.tup [.int 0])).trans t1
  have u2 := (u1.trans (same_new hz2 (.tup [.int 0]))).trans t2
  refine ⟨(by show 1 ≤ sizeLine; decide), fun z3 hz3 => ⟨_, rfl, p, dx, _, rfl, same_new hz3 _ _ _ (u2 _ _ ho), p, r, rfl, hC.same (u2.trans (same_new hz3 _)), k, repZ' (k := r.P) rfl s1 (by omega) upd_same fun c H3 t3 h3 => ?_⟩⟩
  have u3 := (u2.trans (same_new hz3 (.tup [.int 0]))).trans t3
  refine ⟨(by show 3 ≤ sizeLine; decide), fun t ht => ?_⟩
  have u4 := same_new ht (.tup [.ref a, .ref b, .ref c])
  refine q t _ (u3.trans u4) ⟨a, b, c, upd_same, u4 _ _ (t3 _ _ (same_new hz3 _ _ _ (t2 _ _ (same_new hz2 _ _ _ h1)))), u4 _ _ (t3 _ _ (same_new hz3 _ _ _ h2)), u4 _ _ h3⟩
theorem ok_walk_tick {f C : Addr} {fd : FuncData} {k : Nat} (F : Fun K "walk_tick" "walk_tick" s_walk_tick f fd) (Ois_over : Ok P w K mg base k "is_over" P_is_over spOver) (mlist : mg "list" = none) (Owalk_turn : Ok P w K mg base k "walk_turn" P_walk_turn (spTurn K C)) (OP_leaves : OkProp P w K mg base k C "leaves" (spLeaves K C)) (T : CT K C) (mtuple : mg "tuple" = none) : FnOk P w K mg base CX0 (k + 1) f fd P_walk_tick (spTick K C) := by
  refine F.ok sc_walk_tick (fun vs H Q E h => ?_) (fun cdv A outer s H vs Q E hr h => ?_)
  · obtain ⟨p, wk, t, g, r, ns, s, gs, rfl, _⟩ := h
    rfl
  obtain ⟨p, wk, t, g, r, ns, s, gs, rfl, hC, k, hW, ln, hT, o, hG, lt, lg, q⟩ := h
  refine ⟨_, (pss_cons (ps_if (pt_val (pe_c Ois_over hr (by rfl) (pa_cons (pv 2) pa_nil)))
      (pss_one (ps_ret (pv 2)))
      pss_nil)
    (pss_cons (ps_set (i := 4) sc_walk_tick.nd rfl (Or.inl rfl) (pe_ix (r := rIxT K) ix_tup (pv 2) pe_int (fun _ _ => rfl)))
    (pss_cons (ps_asg (pe_lc (own := [("numbers", 8)]) (g := (gName 8)) (tt := tYes) rfl sc_walk_tick.nd (pi_tup (pv 2)) (blkOk_by (N := N_walk_tick) (sc := defScope s_walk_tick) (by decide +kernel)) (fun _ _ _ _ _ => (pg_name (i := 8) sc_walk_tick.nd rfl (Or.inl rfl))) (fun _ _ _ _ _ => pts_nil) (fun _ _ _ _ _ => (pe_callTy (r := rListOf K) call_listK (by rfl) mlist (by decide +kernel) (pa_cons (pv 8) pa_nil)))) (pg_lst rfl (pgs_cons (pg_name (i := 5) sc_walk_tick.nd rfl (Or.inl rfl)) (pgs_cons (pg_name (i := 6) sc_walk_tick.nd rfl (Or.inl rfl)) (pgs_cons (pg_name (i := 7) sc_walk_tick.nd rfl (Or.inl rfl)) pgs_nil)))))
    (pss_cons (ps_for PassesOwn.never rfl (pi_seq (pv 3)) (pg_name (i := 9) sc_walk_tick.nd rfl (Or.inl rfl))
      (pss_cons (ps_asg (pe_c Owalk_turn hr (by rfl) (pa_cons (pv 0) (pa_cons (pv 1) (pa_cons (pv 2) (pa_cons (pv 9) pa_nil))))) (pg_tup rfl (pgs_cons (pg_name (i := 10) sc_walk_tick.nd rfl (Or.inl rfl)) (pgs_cons (pg_name (i := 11) sc_walk_tick.nd rfl (Or.inl rfl)) (pgs_cons (pg_name (i := 12) sc_walk_tick.nd rfl (Or.inl rfl)) pgs_nil)))))
      (pss_cons (ps_asg (pv 12) (pg_sub (pv 7) (pv 9) set_list))
      (pss_one (ps_if (pt_cmpR op_eq (pv 10) pe_str (nomark _))
        (pss_one (ps_asg pe_int (pg_sub (pv 5) (pv 11) set_list)))
        (pss_one (ps_if (pt_cmpR op_eq (pv 10) pe_str (nomark _))
          (pss_cons (ps_set (i := 13) sc_walk_tick.nd rfl (Or.inl rfl) (pe_op op_sub (pv 11) (pe_p OP_leaves T.cl hr (pv 0) (by rfl))))
          (pss_cons (ps_asg (pe_op op_add (pe_ix (r := rIxT K) ix_tup (pv 4) (pv 13) (fun _ _ => rfl)) pe_int) (pg_sub (pv 6) (pv 13) set_list))
          (pss_one (ps_asg (pe_ifExp (pt_cmpR op_eq (pe_ix (r := rIxL K) ix_list (pv 6) (pv 13) (fun _ _ => rfl)) (pe_ix (r := rIx K) ix_seq (pv 1) (pv 13) (fun _ _ => rfl)) (nomark _)) pe_int pe_int) (pg_sub (pv 5) (pv 11) set_list)))))
          pss_nil)))))))
    (pss_one (ps_ret (pe_tup (pa_cons (pe_callTy (r := rTupOf K) call_tupleK (by rfl) mtuple (by decide +kernel) (pa_cons (pv 5) pa_nil)) (pa_cons (pe_callTy (r := rTupOf K) call_tupleK (by rfl) mtuple (by decide +kernel) (pa_cons (pv 6) pa_nil)) (pa_cons (pe_callTy (r := rTupOf K) call_tupleK (by rfl) mtuple (by decide +kernel) (pa_cons (pv 7) pa_nil)) pa_nil)))))))))), ?_⟩
  have hN := k.pos
  have hT2 := hT
  obtain ⟨a, b, c, h1, h2, h3, h4⟩ := hT2
  have hC2 := hC
  obtain ⟨sa, la, as, ⟨dx, ho⟩, hs, hl, hrr⟩ := hC2
  refine ⟨_, rfl, t, r, s, rfl, hT, k, o, _, rfl, itD (fun c1 => ?_) (fun c1 => ?_)⟩
  · refine ⟨_, rfl, q t H (fun _ _ z => z) ?_⟩
    unfold tickF
    rw [if_pos c1]
    exact hT
  refine ⟨_, rfl, _, _, _, _, rfl, rfl, SqT.of h1, atI_nat (j := 1) rfl, ?_⟩
  refine ⟨_, rfl, t, rfl, ⟨_, SqT.of h1⟩, lc_copy (as := [a, b, c]) (cs := [ni s.d, ni s.c, ni s.p]) (wk_tup (xs := rf [a, b, c])) (fun H1 s1 => SqT.of (s1 _ _ h1)) (by simp) ⟨rfl, fun i x y hx hy => ?_⟩ (by show 8 < 14; decide) fun D H1 bs hD s1 e nd hb L => ?_⟩
  · match i, hx, hy with
    | 0, hx, hy => cases hx; cases hy; exact .inr (SqT.of h2)
    | 1, hx, hy => cases hx; cases hy; exact .inr (SqT.of h3)
    | 2, hx, hy => cases hx; cases hy; exact .inr (SqT.of h4)
  obtain ⟨dl, cl, pl, rfl⟩ : ∃ x y z, bs = [x, y, z] := by
    have := L.len
    match bs, this with
    | [x, y, z], _ => exact ⟨x, y, z, rfl⟩
  have e1 := L.at_ 0 dl _ rfl rfl
  have e2 := L.at_ 1 cl _ rfl rfl
  have e3 := L.at_ 2 pl _ rfl rfl
  have f1 := (hb dl (by simp)).1
  have f2 := (hb cl (by simp)).1
  have f3 := (hb pl (by simp)).1
  have n12 : dl ≠ cl := by simp at nd; exact nd.1.1
  have n13 : dl ≠ pl := by simp at nd; exact nd.1.2
  have n23 : cl ≠ pl := by simp at nd; exact nd.2
  refine ⟨D, _, rfl, SqL.of e, rfl, _, _, rfl, _, _, rfl, _, _, rfl, rfl, ?_⟩
  have hlen := fun g => fold_len (r := r) (ns := ns) (s := s) g s
  have step : ∀ i w, gs[i]? = some w → foldF r ns s (gs.take (i + 1)) s = stepF r ns s (foldF r ns s (gs.take i) s) w := fun i w h => by
    have et : gs.take (i + 1) = gs.take i ++ [w] := by rw [List.take_add_one, h]; rfl
    unfold foldF
    rw [et, List.foldl_append]
    rfl
  refine for_sq (i := 3) (H0 := H) rfl hG (fun i σ H' => ∃ y8 y9 y10 y11 y12 y13, σ = [some (.ref p), some (.ref wk), some (.ref t), some (.ref g), some (.ref b), some (.ref dl), some (.ref cl), some (.ref pl), y8, y9, y10, y11, y12, y13] ∧ Same H H' ∧
    H' dl = some (.lst (ni (foldF r ns s (gs.take i) s).d)) ∧ H' cl = some (.lst (ni (foldF r ns s (gs.take i) s).c)) ∧ H' pl = some (.lst (ni (foldF r ns s (gs.take i) s).p)))
    ⟨_, _, _, _, _, _, rfl, s1, e1, e2, e3⟩ (fun i σ H' hi hp => ?_) (fun i x σ H' hx hp => ?_) (fun σ H' hp => ?_)
  · obtain ⟨_, _, _, _, _, _, _, s2, _⟩ := hp
    exact s2
  · obtain ⟨y8, y9, y10, y11, y12, y13, rfl, s2, g1, g2, g3⟩ := hp
    obtain ⟨w, hw, rfl⟩ := ni_at hx
    have hwP := lt w (mem_of_get hw)
    have hl3 := hlen (gs.take i)
    have st := step i w hw
    generalize foldF r ns s (gs.take i) s = tt at hl3 st g1 g2 g3
    have hp := o.pN w
    have C := turnC (s := s) k w
    have lw := fun h : (turnF r s w).1 = .work => work_at h
    refine ⟨_, rfl, _, rfl, _, rfl, _, rfl, p, _, t, w, r, s, rfl, hC.same s2, k, hT.same s2, o, hwP, fun u H3 s3 hu => ?_⟩
    refine ⟨u, _, rfl, SqT.of hu, rfl, _, _, rfl, _, _, rfl, _, _, rfl, rfl, ?_⟩
    have g1' := s3 _ _ g1
    have g2' := s3 _ _ g2
    have g3' := s3 _ _ g3
    have s23 := s2.trans s3
    -- places[worker] = to
    refine ⟨_, rfl, _, rfl, _, rfl, pl, _, _, w, rfl, rfl, g3', ixN_of (by rw [ni_len, hl3.2.2, o.lp]; exact hwP) rfl, ?_⟩
    rw [ni_set]
    have sA := same_upd (o := .lst (ni (tt.p.set w (turnF r s w).2.2))) s23 f3
    have gA1 := upd_keep (o := .lst (ni (tt.p.set w (turnF r s w).2.2))) g1' n13
    have gA2 := upd_keep (o := .lst (ni (tt.p.set w (turnF r s w).2.2))) g2' n23
    have gA3 : (upd H3 pl (.lst (ni (tt.p.set w (turnF r s w).2.2)))) pl = _ := upd_same
    have sp : (foldF r ns s (gs.take (i + 1)) s).p = tt.p.set w (turnF r s w).2.2 := by rw [st]; rfl
    have sd : (foldF r ns s (gs.take (i + 1)) s).d = if (turnF r s w).1 = .mark ∨ (turnF r s w).1 = .work then tt.d.set (gt s.p w) (valF r ns s (gt s.p w)) else tt.d := by rw [st]; rfl
    have sc : (foldF r ns s (gs.take (i + 1)) s).c = if (turnF r s w).1 = .work then tt.c.set (gt s.p w - r.N) (gt s.c (gt s.p w - r.N) + 1) else tt.c := by rw [st]; rfl
    have mk := fun h : (turnF r s w).1 = .mark => mark_at h
    generalize (turnF r s w).1 = act at *
    generalize (turnF r s w).2.2 = to at *
    refine ⟨_, rfl, rfl, _, rfl, ?_⟩
    show if decide (V.str (acts act) = V.str (acts .mark)) = true then _ else _
    rw [actsD]
    refine itD (fun c2 => ?_) (fun c2 => ?_)
    · have hm := mk c2
      refine ⟨_, rfl, _, rfl, dl, _, _, gt s.p w, rfl, rfl, gA1, ixN_of (by rw [ni_len, hl3.1, o.ld]; exact hp) rfl, ?_⟩
      refine ⟨_, _, _, _, _, _, rfl, same_upd sA f1, ?_, upd_keep (by rw [sc, if_neg (by rw [c2]; decide)]; exact gA2) n12.symm, upd_keep (by rw [sp]; exact gA3) n13.symm⟩
      rw [upd_same, sd, if_pos (.inl c2)]
      unfold valF
      rw [if_pos hm, ← ni_set]
      rfl
    refine ⟨_, rfl, rfl, _, rfl, ?_⟩
    show if decide (V.str (acts act) = V.str (acts .work)) = true then _ else _
    rw [actsD]
    refine itD (fun c3 => ?_) (fun c3 => ?_)
    · have hwk := lw c3
      have el : ((gt s.p w : Nat) : Int) - ((r.N : Nat) : Int) = ((gt s.p w - r.N : Nat) : Int) := by omega
      refine ⟨_, rfl, _, rfl, p, dx, _, rfl, sA _ _ ho, p, r, rfl, hC.same sA, k, _, _, rfl, rfl, ?_⟩
      refine ⟨_, rfl, _, rfl, _, _, _, _, rfl, rfl, SqT.of (sA _ _ h3), ni_atE el (gt_get (by rw [o.lc]; omega)), _, _, rfl, rfl, _, rfl, _, rfl, cl, _, _, gt s.p w - r.N, rfl, rfl, gA2, ixN_of (by rw [ni_len, hl3.2.1, o.lc]; omega) el, ?_⟩
      have e5 : (ni tt.c).set (gt s.p w - r.N) (V.int (((gt s.c (gt s.p w - r.N) : Nat) : Int) + 1)) = ni (tt.c.set (gt s.p w - r.N) (gt s.c (gt s.p w - r.N) + 1)) := by rw [← ni_set]; rfl
      rw [e5]
      have sB := same_upd (o := .lst (ni (tt.c.set (gt s.p w - r.N) (gt s.c (gt s.p w - r.N) + 1)))) sA f2
      have gB1 := upd_keep (o := .lst (ni (tt.c.set (gt s.p w - r.N) (gt s.c (gt s.p w - r.N) + 1)))) gA1 n12
      have gB3 := upd_keep (o := .lst (ni (tt.c.set (gt s.p w - r.N) (gt s.c (gt s.p w - r.N) + 1)))) gA3 n23.symm
      have lcc : gt s.p w - r.N < tt.c.length := by rw [hl3.2.1, o.lc]; omega
      have hW2 := hW.same sB
      have gc : (tt.c.set (gt s.p w - r.N) (gt s.c (gt s.p w - r.N) + 1))[gt s.p w - r.N]? = some (gt s.c (gt s.p w - r.N) + 1) := List.getElem?_set_self lcc
      refine ⟨_, rfl, _, rfl, _, _, _, _, rfl, rfl, SqL.of upd_same, ni_atE el gc, _, rfl, _, rfl, ?_⟩
      have fin : ∀ v : Nat, v = valF r ns s (gt s.p w) → ∃ z8 z9 z10 z11 z12 z13, ([some (.ref p), some (.ref wk), some (.ref t), some (.ref g), some (.ref b), some (.ref dl), some (.ref cl), some (.ref pl), y8, some (.int (w : Int)), some (.str (acts act)), some (.int ((gt s.p w : Nat) : Int)), some (.int ((to : Nat) : Int)), some (.int (((gt s.p w : Nat) : Int) - ((r.N : Nat) : Int)))] : St) = [some (.ref p), some (.ref wk), some (.ref t), some (.ref g), some (.ref b), some (.ref dl), some (.ref cl), some (.ref pl), z8, z9, z10, z11, z12, z13] ∧
          Same H (upd (upd (upd H3 pl (.lst (ni (tt.p.set w to)))) cl (.lst (ni (tt.c.set (gt s.p w - r.N) (gt s.c (gt s.p w - r.N) + 1))))) dl (.lst ((ni tt.d).set (gt s.p w) (V.int (v : Int))))) ∧
          (upd (upd (upd H3 pl (.lst (ni (tt.p.set w to)))) cl (.lst (ni (tt.c.set (gt s.p w - r.N) (gt s.c (gt s.p w - r.N) + 1))))) dl (.lst ((ni tt.d).set (gt s.p w) (V.int (v : Int))))) dl = some (.lst (ni (foldF r ns s (gs.take (i + 1)) s).d)) ∧
          (upd (upd (upd H3 pl (.lst (ni (tt.p.set w to)))) cl (.lst (ni (tt.c.set (gt s.p w - r.N) (gt s.c (gt s.p w - r.N) + 1))))) dl (.lst ((ni tt.d).set (gt s.p w) (V.int (v : Int))))) cl = some (.lst (ni (foldF r ns s (gs.take (i + 1)) s).c)) ∧
          (upd (upd (upd H3 pl (.lst (ni (tt.p.set w to)))) cl (.lst (ni (tt.c.set (gt s.p w - r.N) (gt s.c (gt s.p w - r.N) + 1))))) dl (.lst ((ni tt.d).set (gt s.p w) (V.int (v : Int))))) pl = some (.lst (ni (foldF r ns s (gs.take (i + 1)) s).p)) := fun v hv =>
        ⟨_, _, _, _, _, _, rfl, same_upd sB f1, by rw [upd_same, sd, if_pos (.inr c3), ← hv, ni_set], upd_keep (by rw [upd_same, sc, if_pos c3]) n12.symm, upd_keep (by rw [gB3, sp]) n13.symm⟩
      have tst : ∀ {A B : Prop}, (gt s.c (gt s.p w - r.N) + 1 = gt ns (gt s.p w - r.N) → A) → (gt s.c (gt s.p w - r.N) + 1 ≠ gt ns (gt s.p w - r.N) → B) → if decide (V.int ((gt s.c (gt s.p w - r.N) + 1 : Nat) : Int) = V.int ((gt ns (gt s.p w - r.N) : Nat) : Int)) = true then A else B := fun ha hb => iteI (fun c => ha (by omega)) (fun c => hb (by omega))
      have gn : ns[gt s.p w - r.N]? = some (gt ns (gt s.p w - r.N)) := gt_get (by rw [ln]; omega)
      have rest : ∀ (R : VK), (rEq (.int ((gt s.c (gt s.p w - r.N) + 1 : Nat) : Int)) (.int ((gt ns (gt s.p w - r.N) : Nat) : Int)) (upd (upd H3 pl (.lst (ni (tt.p.set w to)))) cl (.lst (ni (tt.c.set (gt s.p w - r.N) (gt s.c (gt s.p w - r.N) + 1))))) R) →
          rIx K (.ref wk) (.int (((gt s.p w : Nat) : Int) - ((r.N : Nat) : Int))) (upd (upd H3 pl (.lst (ni (tt.p.set w to)))) cl (.lst (ni (tt.c.set (gt s.p w - r.N) (gt s.c (gt s.p w - r.N) + 1))))) (fun y H2 => rEq (.int ((gt s.c (gt s.p w - r.N) + 1 : Nat) : Int)) y H2 R) := fun R hR => by
        rcases hW2 with hw2 | hw2
        · exact .inl ⟨_, _, _, _, rfl, rfl, hw2, ni_atE el gn, hR⟩
        · exact .inr (.inl ⟨_, _, _, _, rfl, rfl, hw2, ni_atE el gn, hR⟩)
      refine rest _ ⟨rfl, _, rfl, tst (fun hv => ?_) (fun hv => ?_)⟩
      · refine ⟨_, rfl, _, rfl, dl, _, _, gt s.p w, rfl, rfl, gB1, ixN_of (by rw [ni_len, hl3.1, o.ld]; exact hp) rfl, ?_⟩
        refine fin 1 ?_
        unfold valF
        rw [if_neg (by omega), if_pos hv]
      · refine ⟨_, rfl, _, rfl, dl, _, _, gt s.p w, rfl, rfl, gB1, ixN_of (by rw [ni_len, hl3.1, o.ld]; exact hp) rfl, ?_⟩
        refine fin 0 ?_
        unfold valF
        rw [if_neg (by omega), if_neg hv]
    · refine ⟨_, _, _, _, _, _, rfl, sA, ?_, ?_, ?_⟩
      · rw [sd, if_neg (fun z => z.elim c2 c3)]
        exact gA1
      · rw [sc, if_neg c3]
        exact gA2
      · rw [sp]
        exact gA3
  · obtain ⟨y8, y9, y10, y11, y12, y13, rfl, s2, g1, g2, g3⟩ := hp
    rw [ni_len, List.take_length] at g1 g2 g3
    refine ⟨_, rfl, dl, _, rfl, .inl ⟨SqL.of g1, fun u1 hu1 => ?_⟩⟩
    have t1 := same_new hu1 (.tup (ni (foldF r ns s gs s).d))
    refine ⟨_, rfl, cl, _, rfl, .inl ⟨SqL.of (t1 _ _ g2), fun u2 hu2 => ?_⟩⟩
    have t2 := t1.trans (same_new hu2 (.tup (ni (foldF r ns s gs s).c)))
    refine ⟨_, rfl, pl, _, rfl, .inl ⟨SqL.of (t2 _ _ g3), fun u3 hu3 => ⟨(by show 3 ≤ sizeLine; decide), fun u hu => ?_⟩⟩⟩
    have t3 := same_new hu3 (.tup (ni (foldF r ns s gs s).p))
    have t4 := same_new hu (.tup [.ref u1, .ref u2, .ref u3])
    refine q u _ (s2.trans (t2.trans (t3.trans t4))) ?_
    unfold tickF
    rw [if_neg c1]
    exact ⟨u1, u2, u3, upd_same, t4 _ _ (t3 _ _ (same_new hu2 _ _ _ upd_same)), t4 _ _ (t3 _ _ upd_same), t4 _ _ upd_same⟩
end
end K33
set_option maxHeartbeats 4000000
namespace K33
open PySem L2 Vk
/-! ### standings as data -/
def dS (s : Spot) : PyData := .tuple [.tuple (dn s.d), .tuple (dn s.c), .tuple (dn s.p)]
theorem dpS {K : PySem.W.Frag} {H : Hp} {p : Addr} {s : Spot} (h : StT H p s) : Dp K H (.ref p) (dS s) := by
  obtain ⟨a, b, c, h1, h2, h3, h4⟩ := h
  exact .tup (SqT.of h1) (.cons (.tup (SqT.of h2) (dpAll_ni _)) (.cons (.tup (SqT.of h3) (dpAll_ni _)) (.cons (.tup (SqT.of h4) (dpAll_ni _)) .nil)))
theorem dn_depth (l : List Nat) : PyData.depthAll (dn l) ≤ 2 := by
  have h := PySem.W.depthAll_ints (l.map fun n : Nat => (n : Int))
  rw [← dn_ints] at h
  omega
theorem shS (s : Spot) : SeqAt.shaped (dS s) = true := by
  have h1 := dn_depth s.d
  have h2 := dn_depth s.c
  have h3 := dn_depth s.p
  show (PyData.canLay0 (dS s) && decide (PyData.depth (dS s) ≤ 64)) = true
  rw [Bool.and_eq_true]
  refine ⟨?_, decide_eq_true ?_⟩
  · simp [dS, PyData.canLay0, PyData.canLayAll0, canAll_dn]
  · simp only [dS, PyData.depth, PyData.depthAll]
    omega
instance decSpot : DecidableEq Spot := fun a b => decidable_of_iff (a.d = b.d ∧ a.c = b.c ∧ a.p = b.p) (by cases a; cases b; simp)
theorem eqS (a b : Spot) : PyData.eqv (dS a) (dS b) = decide (a = b) := by
  show PyData.eqv (.tuple [.tuple (dn a.d), .tuple (dn a.c), .tuple (dn a.p)]) (.tuple [.tuple (dn b.d), .tuple (dn b.c), .tuple (dn b.p)]) = _
  rw [PyData.eqv]
  simp only [PyData.eqvAll, eqv_dtt, Bool.and_true]
  cases a with
  | mk a1 a2 a3 =>
    cases b with
    | mk b1 b2 b3 =>
      rw [Bool.eq_iff_iff]
      simp
theorem spot_ext {r : Rows} {a b : Spot} (oa : a.ok r) (ob : b.ok r) (h1 : ∀ v, gt a.d v = gt b.d v) (h2 : ∀ v, gt a.c v = gt b.c v) (h3 : ∀ v, gt a.p v = gt b.p v) : a = b := by
  have e1 := gt_ext (oa.ld.trans ob.ld.symm) fun i _ => h1 i
  have e2 := gt_ext (oa.lc.trans ob.lc.symm) fun i _ => h2 i
  have e3 := gt_ext (oa.lp.trans ob.lp.symm) fun i _ => h3 i
  cases a
  cases b
  simp_all
theorem tk_uniq {r : Rows} {ns : List Nat} {s a b : Spot} {g h : List Nat} (A : Tk r ns s g a) (B : Tk r ns s h b) (e : ∀ x, x ∈ g ↔ x ∈ h) : a = b := by
  have any : ∀ f : Nat → Bool, g.any f = h.any f := fun f => by
    rw [Bool.eq_iff_iff, List.any_eq_true, List.any_eq_true]
    exact ⟨fun ⟨x, hx, q⟩ => ⟨x, (e x).mp hx, q⟩, fun ⟨x, hx, q⟩ => ⟨x, (e x).mpr hx, q⟩⟩
  refine spot_ext A.ok B.ok (fun v => by rw [A.d, B.d, any]) (fun v => by rw [A.c, B.c, any]) (fun v => ?_)
  rw [A.p, B.p]
  by_cases c : v ∈ g
  · rw [if_pos c, if_pos ((e v).mp c)]
  · rw [if_neg c, if_neg (fun z => c ((e v).mpr z))]
/-- what one worker's turn changes -/
inductive One (r : Rows) (ns : List Nat) (s t : Spot) (w : Nat) : Prop
  | over (h : gt s.d 1 = 1) (e : t = s)
  | move (hd : ∀ v, gt t.d v = gt s.d v) (hc : ∀ v, gt t.c v = gt s.c v) (hp : ∀ v, gt t.p v ≠ gt s.p v ↔ v = w)
  | mark (v : Nat) (hv : v < 2 * r.N) (hd : ∀ u, gt t.d u ≠ gt s.d u ↔ u = v) (hc : ∀ v, gt t.c v = gt s.c v) (hp : ∀ v, gt t.p v = gt s.p v)
  | work (x : Nat) (hx : x < r.N) (hd : ∀ u, gt t.d u ≠ gt s.d u ↔ u = r.N + x ∧ gt t.c x = gt ns x) (hc : ∀ v, gt t.c v ≠ gt s.c v ↔ v = x) (hp : ∀ v, gt t.p v = gt s.p v)
theorem one_of {r : Rows} {ns : List Nat} {s t : Spot} {w : Nat} (k : r.ok) (o : s.ok r) (hw : w < r.P) (T : Tk r ns s [w] t) : One r ns s t w := by
  have hN := k.pos
  have hp := o.pN w
  by_cases h1 : gt s.d 1 = 1
  · refine .over h1 ?_
    have hi : turnF r s w = (.idle, gt s.p w, gt s.p w) := by unfold turnF; rw [if_pos h1]
    have hn : ∀ v, [w].any (hit r s v) = false := fun v => by
      unfold hit
      simp [hi]
    refine spot_ext T.ok o (fun v => by rw [T.d, hn]; rfl) (fun v => by rw [T.c, hn]; rfl) (fun v => ?_)
    rw [T.p]
    split
    · rename_i c
      rw [List.mem_singleton.mp c, hi]
    · rfl
  have C := turnC (s := s) k w
  have tp : ∀ v, gt t.p v = if v = w then (turnF r s w).2.2 else gt s.p v := fun v => by
    rw [T.p]
    by_cases c : v = w
    · subst c; simp
    · simp [c]
  have anyh : ∀ v, [w].any (hit r s v) = hit r s v w := fun v => by simp
  have hitv : ∀ v, hit r s v w = decide (((turnF r s w).1 = .mark ∨ (turnF r s w).1 = .work) ∧ gt s.p w = v) := fun v => rfl
  have td : ∀ v, gt t.d v = if ((turnF r s w).1 = .mark ∨ (turnF r s w).1 = .work) ∧ gt s.p w = v then valF r ns s v else gt s.d v := fun v => by
    rw [T.d, anyh, hitv]
    simp only [decide_eq_true_eq]
  have tc : ∀ v, gt t.c v = if ((turnF r s w).1 = .mark ∨ (turnF r s w).1 = .work) ∧ gt s.p w = r.N + v then gt s.c v + 1 else gt s.c v := fun v => by
    rw [T.c, anyh, hitv]
    simp only [decide_eq_true_eq]
  have same : gt s.p w ≠ (turnF r s w).2.2 → ¬ ((turnF r s w).1 = .mark ∨ (turnF r s w).1 = .work) → One r ns s t w := fun hne hno =>
    .move (fun v => by rw [td, if_neg (fun z => hno z.1)]) (fun v => by rw [tc, if_neg (fun z => hno z.1)]) (fun v => by
      rw [tp]
      by_cases c : v = w
      · subst c
        simp [Ne.symm hne]
      · simp [c])
  generalize (turnF r s w).1 = a at *
  generalize (turnF r s w).2.2 = b at *
  cases C with
  | idle h => exact absurd h h1
  | take h hz =>
    have := seat_lt' k hw
    exact same (by omega) (by simp)
  | up h hz hd => exact same (by omega) (by simp)
  | down _ h hz hd hn hc hcm hl => exact same (by omega) (by simp)
  | mark h hz hd hn x y =>
    refine .mark (gt s.p w) hp (fun u => ?_) (fun v => by rw [tc, if_neg]; rintro ⟨_, z⟩; omega) (fun v => by rw [tp]; split <;> simp_all)
    rw [td]
    by_cases c : gt s.p w = u
    · subst c
      rw [if_pos ⟨.inl rfl, rfl⟩]
      unfold valF
      rw [if_pos hn]
      simp [Ne.symm hd]
    · rw [if_neg (fun z => c z.2)]
      simp [Ne.symm c]
  | work h hz hd hn =>
    have hx : r.N + (gt s.p w - r.N) = gt s.p w := by omega
    have d1 := o.d1 (gt s.p w)
    have cx : gt t.c (gt s.p w - r.N) = gt s.c (gt s.p w - r.N) + 1 := by rw [tc, if_pos ⟨.inr rfl, hx.symm⟩]
    refine .work (gt s.p w - r.N) (by omega) (fun u => ?_) (fun v => ?_) (fun v => by rw [tp]; split <;> simp_all)
    · rw [td, cx, hx]
      by_cases c : gt s.p w = u
      · subst c
        rw [if_pos ⟨.inr rfl, rfl⟩]
        unfold valF
        rw [if_neg (by omega)]
        by_cases e : gt s.c (gt s.p w - r.N) + 1 = gt ns (gt s.p w - r.N)
        · rw [if_pos e]
          simp [e, Ne.symm hd]
        · rw [if_neg e]
          simp [e]
          omega
      · rw [if_neg (fun z => c z.2)]
        simp [Ne.symm c]
    · rw [tc]
      by_cases c : gt s.p w = r.N + v
      · rw [if_pos ⟨.inr rfl, c⟩]
        have : v = gt s.p w - r.N := by omega
        simp [this]
      · rw [if_neg (fun z => c z.2)]
        have : v ≠ gt s.p w - r.N := by omega
        simp [this]
theorem filt_none {p : Nat → Bool} {n : Nat} (h : ∀ i, i < n → p i = false) : (List.range n).filter p = [] := by
  rw [List.filter_eq_nil_iff]
  intro x hx
  rw [h x (List.mem_range.mp hx)]
  simp
theorem filt_one {p : Nat → Bool} {n v : Nat} (hv : v < n) (h : ∀ i, i < n → p i = decide (i = v)) : (List.range n).filter p = [v] := by
  induction n with
  | zero => omega
  | succ n ih =>
    rw [List.range_succ, List.filter_append]
    by_cases c : v = n
    · subst c
      rw [filt_none (fun i hi => by rw [h i (by omega)]; exact decide_eq_false (by omega))]
      simp [h v (by omega)]
    · rw [ih (by omega) (fun i hi => h i (by omega))]
      have : p n = false := by rw [h n (by omega)]; exact decide_eq_false (fun z => c z.symm)
      simp [this]
end K33
set_option maxHeartbeats 4000000
namespace K33
open PySem L2 Vk
def spMarks : Sp := fun vs H Q _ => ∃ (ol nw nl : Addr) (r : Rows) (ns : List Nat) (s t : Spot) (g : List Nat), vs = [.ref ol, .ref nw, .ref nl] ∧ StT H ol s ∧ StT H nw t ∧ H nl = some (.lst (ni ns)) ∧ ns.length = r.N ∧ r.ok ∧ Tk r ns s g t ∧ Inv0 r ns s ∧ ∀ H', Same H H' → Q (.bl true) H'
def spOne : Sp := fun vs H Q _ => ∃ (nl ol on : Addr) (w : Nat) (r : Rows) (ns : List Nat) (s t : Spot), vs = [.ref nl, .ref ol, .int (w : Int), .ref on] ∧ H nl = some (.lst (ni ns)) ∧ ns.length = r.N ∧ StT H ol s ∧ StT H on t ∧ r.ok ∧ s.ok r ∧ t.ok r ∧ w < r.P ∧ One r ns s t w ∧ ∀ H', Same H H' → Q (.bl true) H'
section
variable {P : Program} {w : World} {K : PySem.W.Frag} {mg : Str → Option Value} {base : Heap}
theorem ok_law_marks_hold {f : Addr} {fd : FuncData} {k : Nat} (F : Fun K "_law_marks_hold" "_law_marks_hold" s_law_marks_hold f fd) (mlen : mg "len" = none) (mrange : mg "range" = none) (O_law_whole : Ok P w K mg base k "_law_whole" P_law_whole spWhole) : FnOk P w K mg base CX0 (k + 1) f fd P_law_marks_hold spMarks := by
  refine F.ok sc_law_marks_hold (fun vs H Q E h => ?_) (fun cdv A outer s H vs Q E hr h => ?_)
  · obtain ⟨ol, nw, nl, r, ns, s, t, g, rfl, _⟩ := h
    rfl
  obtain ⟨ol, nw, nl, r, ns, s, t, g, rfl, ho, hn, en, ln, k, T, I, q⟩ := h
  refine ⟨_, (pss_cons (ps_set (i := 3) sc_law_marks_hold.nd rfl (Or.inl rfl) (pe_callB (r := rLenS K) call_lenK (by rfl) mlen (by decide +kernel) (pa_cons (pv 2) pa_nil)))
    (pss_cons (ps_if (pt_cmpR op_ne (pe_ix (r := rIxT K) ix_tup (pe_ix (r := rIxT K) ix_tup (pv 1) pe_int (fun _ _ => rfl)) pe_int (fun _ _ => rfl)) pe_int (nomark _))
      (pss_one (ps_ret pe_bl))
      pss_nil)
    (pss_cons (ps_for PassesOwn.never rfl (pi_range2 (by rfl) mrange (pa_cons pe_int (pa_cons (pe_op op_mul pe_int (pv 3)) pa_nil))) (pg_name (i := 4) sc_law_marks_hold.nd rfl (Or.inl rfl))
      (pss_cons (ps_if (PW.pt (pw_or (pt_not (pt_val (pe_c O_law_whole hr (by rfl) (pa_cons (pe_ix (r := rIxT K) ix_tup (pe_ix (r := rIxT K) ix_tup (pv 1) pe_int (fun _ _ => rfl)) (pv 4) (fun _ _ => rfl)) pa_nil)))) (pw_or (pt_cmpR (r := rIn K true) op_notIn_seq (pe_ix (r := rIxT K) ix_tup (pe_ix (r := rIxT K) ix_tup (pv 1) pe_int (fun _ _ => rfl)) (pv 4) (fun _ _ => rfl)) (pe_lst (pa_cons pe_int (pa_cons pe_int pa_nil))) (by rfl)) (pw_or1 (pt_cmpR op_lt (pe_ix (r := rIxT K) ix_tup (pe_ix (r := rIxT K) ix_tup (pv 1) pe_int (fun _ _ => rfl)) (pv 4) (fun _ _ => rfl)) (pe_ix (r := rIxT K) ix_tup (pe_ix (r := rIxT K) ix_tup (pv 0) pe_int (fun _ _ => rfl)) (pv 4) (fun _ _ => rfl)) (nomark _))))))
        (pss_one (ps_ret pe_bl))
        pss_nil)
      (pss_one (ps_if (PW.pt (pw_and (pt_cmpR op_lt (pv 4) (pv 3) (nomark _)) (pw_and (pt_cmpR op_eq (pe_ix (r := rIxT K) ix_tup (pe_ix (r := rIxT K) ix_tup (pv 1) pe_int (fun _ _ => rfl)) (pv 4) (fun _ _ => rfl)) pe_int (nomark _)) (pw_and1 (PW.pt (pw_or (pt_cmpR op_ne (pe_ix (r := rIxT K) ix_tup (pe_ix (r := rIxT K) ix_tup (pv 1) pe_int (fun _ _ => rfl)) (pe_op op_mul pe_int (pv 4)) (fun _ _ => rfl)) pe_int (nomark _)) (pw_or1 (pt_cmpR op_ne (pe_ix (r := rIxT K) ix_tup (pe_ix (r := rIxT K) ix_tup (pv 1) pe_int (fun _ _ => rfl)) (pe_op op_add (pe_op op_mul pe_int (pv 4)) pe_int) (fun _ _ => rfl)) pe_int (nomark _)))))))))
        (pss_one (ps_ret pe_bl))
        pss_nil))))
    (pss_cons (ps_for PassesOwn.never rfl (pi_range1 (by rfl) mrange (pa_cons (pv 3) pa_nil)) (pg_name (i := 5) sc_law_marks_hold.nd rfl (Or.inl rfl))
      (pss_cons (ps_if (PW.pt (pw_or (pt_not (pt_val (pe_c O_law_whole hr (by rfl) (pa_cons (pe_ix (r := rIxT K) ix_tup (pe_ix (r := rIxT K) ix_tup (pv 1) pe_int (fun _ _ => rfl)) (pv 5) (fun _ _ => rfl)) pa_nil)))) (pw_or (pt_cmpR op_lt (pe_ix (r := rIxT K) ix_tup (pe_ix (r := rIxT K) ix_tup (pv 1) pe_int (fun _ _ => rfl)) (pv 5) (fun _ _ => rfl)) (pe_ix (r := rIxT K) ix_tup (pe_ix (r := rIxT K) ix_tup (pv 0) pe_int (fun _ _ => rfl)) (pv 5) (fun _ _ => rfl)) (nomark _)) (pw_or1 (pt_cmpR op_gt (pe_ix (r := rIxT K) ix_tup (pe_ix (r := rIxT K) ix_tup (pv 1) pe_int (fun _ _ => rfl)) (pv 5) (fun _ _ => rfl)) (pe_op op_add (pe_ix (r := rIxT K) ix_tup (pe_ix (r := rIxT K) ix_tup (pv 0) pe_int (fun _ _ => rfl)) (pv 5) (fun _ _ => rfl)) pe_int) (nomark _))))))
        (pss_one (ps_ret pe_bl))
        pss_nil)
      (pss_one (ps_if (PW.pt (pw_or (pt_cmpR op_gt (pe_ix (r := rIxT K) ix_tup (pe_ix (r := rIxT K) ix_tup (pv 1) pe_int (fun _ _ => rfl)) (pv 5) (fun _ _ => rfl)) (pe_ix (r := rIxL K) ix_list (pv 2) (pv 5) (fun _ _ => rfl)) (nomark _)) (pw_or1 (pt_cmpR op_ne (pe_cmpR op_eq (pe_ix (r := rIxT K) ix_tup (pe_ix (r := rIxT K) ix_tup (pv 1) pe_int (fun _ _ => rfl)) (pv 5) (fun _ _ => rfl)) (pe_ix (r := rIxL K) ix_list (pv 2) (pv 5) (fun _ _ => rfl)) (nomark _)) (pe_cmpR op_eq (pe_ix (r := rIxT K) ix_tup (pe_ix (r := rIxT K) ix_tup (pv 1) pe_int (fun _ _ => rfl)) (pe_op op_add (pv 3) (pv 5)) (fun _ _ => rfl)) pe_int (nomark _)) (nomark _)))))
        (pss_one (ps_ret pe_bl))
        pss_nil))))
    (pss_one (ps_ret pe_bl)))))), ?_⟩
  have hN := k.pos
  have I' := tk_inv k I T
  have ld := I.ok.ld
  have ld' := I'.ok.ld
  have lc := I.ok.lc
  have lc' := I'.ok.lc
  obtain ⟨x, y, z, h1, h2, h3, h4⟩ := id ho
  obtain ⟨x', y', z', h1', h2', h3', h4'⟩ := id hn
  have d1 := I'.ok.d1
  refine ⟨_, rfl, nl, _, rfl, .inl (SqL.of en), ?_⟩
  rw [ni_len, ln]
  refine ⟨_, rfl, _, _, _, _, rfl, rfl, SqT.of h1', atI_nat (j := 0) rfl, _, _, _, _, rfl, rfl, SqT.of h2', ni_atE (i := 0) rfl (gt_get (by omega)), rfl, _, rfl, iteIn (fun c => absurd (congrArg Int.ofNat I'.d0) c) (fun _ => ?_)⟩
  refine ⟨_, rfl, _, _, rfl, rfl, .inl ⟨by decide, by decide⟩, 1, _, rfl, ⟨by omega, by omega, by omega, by omega⟩, for_rangeL (lo := 1) (n := (2 * (r.N : Int) - 1).toNat) (fun i σ H' => ∃ y4 y5, σ = [some (.ref ol), some (.ref nw), some (.ref nl), some (.int (r.N : Int)), y4, y5] ∧ Same H H')
    ⟨_, _, rfl, fun _ _ z => z⟩ (fun i σ H' hi hp => ?_) (fun σ H' hp => ?_)⟩
  · obtain ⟨y4, y5, rfl, sm⟩ := hp
    have v1 : 1 ≤ 1 + i := by omega
    have vN : 1 + i < 2 * r.N := by omega
    generalize 1 + i = v at v1 vN
    have g1 := sm _ _ h1'
    have g2 := sm _ _ h2'
    have dv := d1 v
    refine ⟨_, rfl, _, _, _, _, rfl, rfl, SqT.of g1, atI_nat (j := 0) rfl, _, rfl, _, _, _, _, rfl, rfl, SqT.of g2, ni_atI (gt_get (by omega)), _, rfl, _, rfl, iteF ?_⟩
    refine ⟨_, rfl, _, _, _, _, rfl, rfl, SqT.of g1, atI_nat (j := 0) rfl, _, rfl, _, _, _, _, rfl, rfl, SqT.of g2, ni_atI (gt_get (by omega)), (by show 2 ≤ sizeLine; decide), fun l hl => ?_⟩
    have u := same_new hl (.lst [.int 0, .int 1])
    refine ⟨l, _, rfl, .inl (SqL.of upd_same), rfl, rfl, _, rfl, ?_⟩
    show if (!inV (.int ((gt t.d v : Nat) : Int)) (ni [0, 1])) = true then _ else _
    rw [inV_ni]
    refine itTn (by have : gt t.d v = 0 ∨ gt t.d v = 1 := by omega
                    rcases this with e | e <;> rw [e] <;> simp) ?_
    have sm2 := sm.trans u
    refine ⟨_, rfl, _, _, _, _, rfl, rfl, SqT.of (u _ _ g1), atI_nat (j := 0) rfl, _, rfl, _, _, _, _, rfl, rfl, SqT.of (u _ _ g2), ni_atI (gt_get (by omega)), _, rfl, _, _, _, _, rfl, rfl, SqT.of (sm2 _ _ h1), atI_nat (j := 0) rfl, _, rfl, _, _, _, _, rfl, rfl, SqT.of (sm2 _ _ h2), ni_atI (gt_get (by omega)), _, _, rfl, rfl, _, rfl, itF ?_ ?_⟩
    · have h0 := I.ok.d1 v
      by_cases c : gt s.d v = 1
      · have := d_stays k T c
        omega
      · omega
    refine ⟨_, rfl, _, rfl, _, _, rfl, rfl, _, rfl, itD (fun c => ?_) (fun c => iteF ⟨_, _, rfl, sm2⟩)⟩
    refine ⟨_, rfl, _, _, _, _, rfl, rfl, SqT.of (u _ _ g1), atI_nat (j := 0) rfl, _, rfl, _, _, _, _, rfl, rfl, SqT.of (u _ _ g2), ni_atI (gt_get (by omega)), rfl, _, rfl, iteI (fun d => ?_) (fun d => iteF ⟨_, _, rfl, sm2⟩)⟩
    have kids := I'.inner v v1 (by omega) (by omega)
    refine ⟨_, rfl, _, _, _, _, rfl, rfl, SqT.of (u _ _ g1), atI_nat (j := 0) rfl, _, rfl, _, _, rfl, rfl, .inl ⟨by decide, by decide⟩, _, _, _, _, rfl, rfl, SqT.of (u _ _ g2), ni_atE (i := 2 * v) (by omega) (gt_get (by omega)), rfl, _, rfl, iteIn (fun e => absurd (congrArg Int.ofNat kids.1) e) (fun _ => ?_)⟩
    refine ⟨_, rfl, _, _, _, _, rfl, rfl, SqT.of (u _ _ g1), atI_nat (j := 0) rfl, _, rfl, _, _, rfl, rfl, .inl ⟨by decide, by decide⟩, _, _, rfl, rfl, _, _, _, _, rfl, rfl, SqT.of (u _ _ g2), ni_atE (i := 2 * v + 1) (by omega) (gt_get (by omega)), rfl, _, rfl, iteIn (fun e => absurd (congrArg Int.ofNat kids.2) e) (fun _ => ⟨_, _, rfl, sm2⟩)⟩
  obtain ⟨y4, y5, rfl, sm⟩ := hp
  refine ⟨_, rfl, _, rfl, by omega, by omega, for_range0 (n := (r.N : Int).toNat) (fun i σ H2 => ∃ y4 y5, σ = [some (.ref ol), some (.ref nw), some (.ref nl), some (.int (r.N : Int)), y4, y5] ∧ H2 = H') ⟨_, _, rfl, rfl⟩ (fun i σ H2 hi hp => ?_) (fun σ H2 hp => ?_)⟩
  · obtain ⟨y4, y5, rfl, rfl⟩ := hp
    have hx : i < r.N := by omega
    have g1 := sm _ _ h1'
    have g3 := sm _ _ h3'
    have g2 := sm _ _ h2'
    have cx := T.c i
    have lf := I'.leaf i hx
    have fl := I'.full i hx
    have c1 : gt s.c i ≤ gt t.c i ∧ gt t.c i ≤ gt s.c i + 1 := by
      rw [cx]
      split <;> omega
    have c2 : gt t.c i ≤ gt ns i := by
      by_cases e : gt t.d (r.N + i) = 1
      · rw [fl e]; exact Nat.le_refl _
      · exact Nat.le_of_lt (lf e)
    have new : ∀ {σ : St} {Q : VK}, σ[1]? = some (some (.ref nw)) → σ[5]? = some (some (.int (i : Int))) → Q (.int ((gt t.c i : Nat) : Int)) H2 → tOp (rIxT K) (tOp (rIxT K) (tVar 1) (tC (V.int 1))) (tVar 5) σ H2 Q := fun {σ Q} q1 q5 hq => ⟨_, q1, _, _, _, _, rfl, rfl, SqT.of g1, atI_nat (j := 1) rfl, _, q5, _, _, _, _, rfl, rfl, SqT.of g3, ni_atI (gt_get (by omega)), hq⟩
    have old : ∀ {σ : St} {Q : VK}, σ[0]? = some (some (.ref ol)) → σ[5]? = some (some (.int (i : Int))) → Q (.int ((gt s.c i : Nat) : Int)) H2 → tOp (rIxT K) (tOp (rIxT K) (tVar 0) (tC (V.int 1))) (tVar 5) σ H2 Q := fun {σ Q} q1 q5 hq => ⟨_, q1, _, _, _, _, rfl, rfl, SqT.of (sm _ _ h1), atI_nat (j := 1) rfl, _, q5, _, _, _, _, rfl, rfl, SqT.of (sm _ _ h3), ni_atI (gt_get (by omega)), hq⟩
    refine ⟨_, rfl, _, _, _, _, rfl, rfl, SqT.of g1, atI_nat (j := 1) rfl, _, rfl, _, _, _, _, rfl, rfl, SqT.of g3, ni_atI (gt_get (by omega)), _, rfl, _, rfl, iteF ?_⟩
    refine ⟨_, rfl, _, _, _, _, rfl, rfl, SqT.of g1, atI_nat (j := 1) rfl, _, rfl, _, _, _, _, rfl, rfl, SqT.of g3, ni_atI (gt_get (by omega)), _, rfl, _, _, _, _, rfl, rfl, SqT.of (sm _ _ h1), atI_nat (j := 1) rfl, _, rfl, _, _, _, _, rfl, rfl, SqT.of (sm _ _ h3), ni_atI (gt_get (by omega)), _, _, rfl, rfl, _, rfl, itF (by omega) ?_⟩
    refine ⟨_, rfl, _, _, _, _, rfl, rfl, SqT.of g1, atI_nat (j := 1) rfl, _, rfl, _, _, _, _, rfl, rfl, SqT.of g3, ni_atI (gt_get (by omega)), _, rfl, _, _, _, _, rfl, rfl, SqT.of (sm _ _ h1), atI_nat (j := 1) rfl, _, rfl, _, _, _, _, rfl, rfl, SqT.of (sm _ _ h3), ni_atI (gt_get (by omega)), _, _, rfl, rfl, _, _, rfl, rfl, _, rfl, itF (by omega) ?_⟩
    have en' := sm _ _ en
    refine ⟨_, rfl, _, _, _, _, rfl, rfl, SqT.of g1, atI_nat (j := 1) rfl, _, rfl, _, _, _, _, rfl, rfl, SqT.of g3, ni_atI (gt_get (by omega)), _, rfl, _, rfl, _, _, _, _, rfl, rfl, SqL.of en', ni_atI (gt_get (by omega)), _, _, rfl, rfl, _, rfl, itF (by omega) ?_⟩
    refine ⟨_, rfl, _, _, _, _, rfl, rfl, SqT.of g1, atI_nat (j := 1) rfl, _, rfl, _, _, _, _, rfl, rfl, SqT.of g3, ni_atI (gt_get (by omega)), _, rfl, _, rfl, _, _, _, _, rfl, rfl, SqL.of en', ni_atI (gt_get (by omega)), rfl, ?_⟩
    refine ⟨_, rfl, _, _, _, _, rfl, rfl, SqT.of g1, atI_nat (j := 0) rfl, _, rfl, _, rfl, _, _, rfl, rfl, _, _, _, _, rfl, rfl, SqT.of g2, ni_atE (i := r.N + i) (by omega) (gt_get (by omega)), rfl, rfl, _, rfl, itTn ?_ ⟨_, _, rfl, rfl⟩⟩
    refine congrArg V.bl ?_
    by_cases e : gt t.d (r.N + i) = 1
    · rw [fl e, e, decide_eq_true rfl]
      rfl
    · rw [decide_eq_false (fun z => by have := V.int.inj z; have := lf e; omega), decide_eq_false (fun z => e (by have := V.int.inj z; omega))]
  · obtain ⟨y4, y5, rfl, rfl⟩ := hp
    exact q _ sm
end
end K33
set_option maxHeartbeats 4000000
namespace K33
open PySem L2 Vk
theorem tick_over {r : Rows} {ns : List Nat} {s : Spot} (g : List Nat) (h : gt s.d 1 = 1) : tickF r ns s g = s := by
  unfold tickF
  rw [if_pos h]
theorem neD2 (a b : Nat) : (!decide (V.int (a : Int) = V.int (b : Int))) = decide (a ≠ b) := by
  by_cases c : a = b
  · subst c; simp
  · rw [decide_eq_true (p := a ≠ b) c, decide_eq_false (fun z => c (by have := V.int.inj z; omega))]; rfl
def spOneC : Sp := fun vs H Q _ => ∃ (nl ol on : Addr) (w : Nat) (r : Rows) (ns : List Nat) (s t : Spot), vs = [.ref nl, .ref ol, .int (w : Int), .ref on] ∧ H nl = some (.lst (ni ns)) ∧ ns.length = r.N ∧ StT H ol s ∧ StT H on t ∧ r.ok ∧ s.ok r ∧ t.ok r ∧ w < r.P ∧ One r ns s t w ∧ (gt s.d 1 = 1 → t = s) ∧ ∀ H', Same H H' → Q (.bl true) H'
section
variable {P : Program} {w : World} {K : PySem.W.Frag} {mg : Str → Option Value} {base : Heap}
theorem ok_law_is_one_change {f : Addr} {fd : FuncData} {k : Nat} (F : Fun K "_law_is_one_change" "_law_is_one_change" s_law_is_one_change f fd) (mrange : mg "range" = none) (mlen : mg "len" = none) (mint : mg "int" = none) : FnOk P w K mg base CX0 (k + 1) f fd P_law_is_one_change spOneC := by
  refine F.ok sc_law_is_one_change (fun vs H Q E h => ?_) (fun cdv A outer s H vs Q E hr h => ?_)
  · obtain ⟨nl, ol, on, w0, r, ns, s, t, rfl, _⟩ := h
    rfl
  obtain ⟨nl, ol, on, w0, r, ns, s, t, rfl, en, ln, ho, hn, k, os, ot, hw, one, hov, q⟩ := h
  refine ⟨_, (pss_cons (ps_if (pt_cmpR op_eq (pe_ix (r := rIxT K) ix_tup (pe_ix (r := rIxT K) ix_tup (pv 1) pe_int (fun _ _ => rfl)) pe_int (fun _ _ => rfl)) pe_int (nomark _))
      (pss_one (ps_ret (pe_cmpR (r := rEqD K) (op_eqD hr.units) (pv 3) (pv 1) (nomark _))))
      pss_nil)
    (pss_cons (ps_setLc (i := 4) (own := [("node", 5)]) (g := (gName 5)) rfl sc_law_is_one_change.nd rfl rfl (sw_true rfl rfl rfl (by decide +kernel)) (pi_range1 (by rfl) mrange (pa_cons (pe_callB (r := rLenS K) call_lenK (by rfl) mlen (by decide +kernel) (pa_cons (pe_ix (r := rIxT K) ix_tup (pv 1) pe_int (fun _ _ => rfl)) pa_nil)) pa_nil)) (blkOk_by (N := N_law_is_one_change) (sc := defScope s_law_is_one_change) (by decide +kernel)) (fun _ _ _ _ _ => (pg_name (i := 5) sc_law_is_one_change.nd rfl (Or.inl rfl))) (fun _ _ _ _ _ => pts_one (pt_cmpR op_ne (pe_ix (r := rIxT K) ix_tup (pe_ix (r := rIxT K) ix_tup (pv 3) pe_int (fun _ _ => rfl)) (pv 5) (fun _ _ => rfl)) (pe_ix (r := rIxT K) ix_tup (pe_ix (r := rIxT K) ix_tup (pv 1) pe_int (fun _ _ => rfl)) (pv 5) (fun _ _ => rfl)) (nomark _))) (fun _ _ _ _ _ => (pv 5)))
    (pss_cons (ps_setLc (i := 6) (own := [("leaf", 7)]) (g := (gName 7)) rfl sc_law_is_one_change.nd rfl rfl (sw_true rfl rfl rfl (by decide +kernel)) (pi_range1 (by rfl) mrange (pa_cons (pe_callB (r := rLenS K) call_lenK (by rfl) mlen (by decide +kernel) (pa_cons (pv 0) pa_nil)) pa_nil)) (blkOk_by (N := N_law_is_one_change) (sc := defScope s_law_is_one_change) (by decide +kernel)) (fun _ _ _ _ _ => (pg_name (i := 7) sc_law_is_one_change.nd rfl (Or.inl rfl))) (fun _ _ _ _ _ => pts_one (pt_cmpR op_ne (pe_ix (r := rIxT K) ix_tup (pe_ix (r := rIxT K) ix_tup (pv 3) pe_int (fun _ _ => rfl)) (pv 7) (fun _ _ => rfl)) (pe_ix (r := rIxT K) ix_tup (pe_ix (r := rIxT K) ix_tup (pv 1) pe_int (fun _ _ => rfl)) (pv 7) (fun _ _ => rfl)) (nomark _))) (fun _ _ _ _ _ => (pv 7)))
    (pss_cons (ps_setLc (i := 8) (own := [("k", 9)]) (g := (gName 9)) rfl sc_law_is_one_change.nd rfl rfl (sw_true rfl rfl rfl (by decide +kernel)) (pi_range1 (by rfl) mrange (pa_cons (pe_callB (r := rLenS K) call_lenK (by rfl) mlen (by decide +kernel) (pa_cons (pe_ix (r := rIxT K) ix_tup (pv 1) pe_int (fun _ _ => rfl)) pa_nil)) pa_nil)) (blkOk_by (N := N_law_is_one_change) (sc := defScope s_law_is_one_change) (by decide +kernel)) (fun _ _ _ _ _ => (pg_name (i := 9) sc_law_is_one_change.nd rfl (Or.inl rfl))) (fun _ _ _ _ _ => pts_one (pt_cmpR op_ne (pe_ix (r := rIxT K) ix_tup (pe_ix (r := rIxT K) ix_tup (pv 3) pe_int (fun _ _ => rfl)) (pv 9) (fun _ _ => rfl)) (pe_ix (r := rIxT K) ix_tup (pe_ix (r := rIxT K) ix_tup (pv 1) pe_int (fun _ _ => rfl)) (pv 9) (fun _ _ => rfl)) (nomark _))) (fun _ _ _ _ _ => (pv 9)))
    (pss_cons (ps_if (pt_cmpR op_eq (pe_callB (r := rLenS K) call_lenK (by rfl) mlen (by decide +kernel) (pa_cons (pv 6) pa_nil)) pe_int (nomark _))
      (pss_cons (ps_set (i := 10) sc_law_is_one_change.nd rfl (Or.inl rfl) (pe_callTy call_int1 (by rfl) mint (by decide +kernel) (pa_cons (pe_cmpR op_eq (pe_ix (r := rIxT K) ix_tup (pe_ix (r := rIxT K) ix_tup (pv 3) pe_int (fun _ _ => rfl)) (pe_ix (r := rIxL K) ix_list (pv 6) pe_int (fun _ _ => rfl)) (fun _ _ => rfl)) (pe_ix (r := rIxL K) ix_list (pv 0) (pe_ix (r := rIxL K) ix_list (pv 6) pe_int (fun _ _ => rfl)) (fun _ _ => rfl)) (nomark _)) pa_nil)))
      (pss_one (ps_ret (pe_and (pe_cmpR op_eq (pe_callB (r := rLenS K) call_lenK (by rfl) mlen (by decide +kernel) (pa_cons (pv 8) pa_nil)) pe_int (nomark _)) (pe_one (pe_cmpR (r := rEqD K) (op_eqD hr.units) (pv 4) (pe_slice (r := rSlL K) sl_list (pe_lst (pa_cons (pe_op op_add (pe_callB (r := rLenS K) call_lenK (by rfl) mlen (by decide +kernel) (pa_cons (pv 0) pa_nil)) (pe_ix (r := rIxL K) ix_list (pv 6) pe_int (fun _ _ => rfl))) pa_nil)) po_none (po_some (pv 10))) (nomark _)))))))
      pss_nil)
    (pss_cons (ps_if (pt_cmpR op_eq (pe_callB (r := rLenS K) call_lenK (by rfl) mlen (by decide +kernel) (pa_cons (pv 8) pa_nil)) pe_int (nomark _))
      (pss_one (ps_ret (pe_and (pe_cmpR op_eq (pe_ix (r := rIxL K) ix_list (pv 8) pe_int (fun _ _ => rfl)) (pv 2) (nomark _)) (pe_one (pe_cmpR op_eq (pe_op op_add (pe_callB (r := rLenS K) call_lenK (by rfl) mlen (by decide +kernel) (pa_cons (pv 6) pa_nil)) (pe_callB (r := rLenS K) call_lenK (by rfl) mlen (by decide +kernel) (pa_cons (pv 4) pa_nil))) pe_int (nomark _))))))
      pss_nil)
    (pss_one (ps_ret (pe_and (pe_cmpR op_eq (pe_op op_add (pe_callB (r := rLenS K) call_lenK (by rfl) mlen (by decide +kernel) (pa_cons (pv 8) pa_nil)) (pe_callB (r := rLenS K) call_lenK (by rfl) mlen (by decide +kernel) (pa_cons (pv 6) pa_nil))) pe_int (nomark _)) (pe_one (pe_cmpR op_eq (pe_callB (r := rLenS K) call_lenK (by rfl) mlen (by decide +kernel) (pa_cons (pv 4) pa_nil)) pe_int (nomark _)))))))))))), ?_⟩
  have hN := k.pos
  have hP : r.P ≤ 16 := k.s16
  obtain ⟨x, y, z, h1, h2, h3, h4⟩ := id ho
  obtain ⟨x', y', z', h1', h2', h3', h4'⟩ := id hn
  have ld := os.ld
  have ld' := ot.ld
  have lc := os.lc
  have lc' := ot.lc
  have lp := os.lp
  have lp' := ot.lp
  refine ⟨_, rfl, _, _, _, _, rfl, rfl, SqT.of h1, atI_nat (j := 0) rfl, _, _, _, _, rfl, rfl, SqT.of h2, ni_atE (i := 1) rfl (gt_get (by omega)), rfl, _, rfl, iteI (fun c => ?_) (fun c => ?_)⟩
  · have e := hov (by omega)
    refine ⟨_, rfl, _, rfl, dS t, dS s, dpS hn, dpS ho, shS t, shS s, ?_⟩
    rw [eqS, e, decide_eq_true rfl]
    exact q _ fun _ _ h => h
  refine ⟨_, rfl, _, _, _, _, rfl, rfl, SqT.of h1, atI_nat (j := 0) rfl, x, _, rfl, .inr (SqT.of h2), ?_⟩
  rw [ni_len, ld]
  refine ⟨_, rfl, by omega, by omega, lc_filt (n := ((2 * r.N : Nat) : Int).toNat) wk_range (fun _ _ => trivial) (by omega) (fun i => decide (gt t.d i ≠ gt s.d i)) (fun i => .int (i : Int)) (fun i H1 Qb hi sm qb => ?_) (fun i H1 Qe hi sm qe => ⟨_, rfl, qe _ (fun _ _ z => z)⟩) fun D1 H1 hD1 s1 e1 => ?_⟩
  · refine ⟨_, rfl, _, _, _, _, rfl, rfl, SqT.of (sm _ _ h1'), atI_nat (j := 0) rfl, _, rfl, _, _, _, _, rfl, rfl, SqT.of (sm _ _ h2'), ni_atI (gt_get (by omega)), _, rfl, _, _, _, _, rfl, rfl, SqT.of (sm _ _ h1), atI_nat (j := 0) rfl, _, rfl, _, _, _, _, rfl, rfl, SqT.of (sm _ _ h2), ni_atI (gt_get (by omega)), rfl, _, rfl, ?_⟩
    rw [neD2]
    exact qb _ fun _ _ z => z
  refine ⟨_, rfl, nl, _, rfl, .inl (SqL.of (s1 _ _ en)), ?_⟩
  rw [ni_len, ln]
  refine ⟨_, rfl, by omega, by omega, lc_filt (n := (r.N : Int).toNat) wk_range (fun _ _ => trivial) (by omega) (fun i => decide (gt t.c i ≠ gt s.c i)) (fun i => .int (i : Int)) (fun i H2 Qb hi sm qb => ?_) (fun i H1 Qe hi sm qe => ⟨_, rfl, qe _ (fun _ _ z => z)⟩) fun D2 H2 hD2 s2 e2 => ?_⟩
  · replace sm := s1.trans sm
    refine ⟨_, rfl, _, _, _, _, rfl, rfl, SqT.of (sm _ _ h1'), atI_nat (j := 1) rfl, _, rfl, _, _, _, _, rfl, rfl, SqT.of (sm _ _ h3'), ni_atI (gt_get (by omega)), _, rfl, _, _, _, _, rfl, rfl, SqT.of (sm _ _ h1), atI_nat (j := 1) rfl, _, rfl, _, _, _, _, rfl, rfl, SqT.of (sm _ _ h3), ni_atI (gt_get (by omega)), rfl, _, rfl, ?_⟩
    rw [neD2]
    exact qb _ fun _ _ z => z
  have s12 := s1.trans s2
  refine ⟨_, rfl, _, _, _, _, rfl, rfl, SqT.of (s12 _ _ h1), atI_nat (j := 2) rfl, z, _, rfl, .inr (SqT.of (s12 _ _ h4)), ?_⟩
  rw [ni_len, lp]
  refine ⟨_, rfl, by omega, by omega, lc_filt (n := (r.P : Int).toNat) wk_range (fun _ _ => trivial) (by omega) (fun i => decide (gt t.p i ≠ gt s.p i)) (fun i => .int (i : Int)) (fun i H2 Qb hi sm qb => ?_) (fun i H1 Qe hi sm qe => ⟨_, rfl, qe _ (fun _ _ z => z)⟩) fun D3 H3 hD3 s3 e3 => ?_⟩
  · replace sm := s12.trans sm
    refine ⟨_, rfl, _, _, _, _, rfl, rfl, SqT.of (sm _ _ h1'), atI_nat (j := 2) rfl, _, rfl, _, _, _, _, rfl, rfl, SqT.of (sm _ _ h4'), ni_atI (gt_get (by omega)), _, rfl, _, _, _, _, rfl, rfl, SqT.of (sm _ _ h1), atI_nat (j := 2) rfl, _, rfl, _, _, _, _, rfl, rfl, SqT.of (sm _ _ h4), ni_atI (gt_get (by omega)), rfl, _, rfl, ?_⟩
    rw [neD2]
    exact qb _ fun _ _ z => z
  have sA := s12.trans s3
  have s23 := s2.trans s3
  have f1 : H3 D1 = some (.lst (ni ((List.range (2 * r.N)).filter fun i => decide (gt t.d i ≠ gt s.d i)))) := s23 _ _ e1
  have f2 : H3 D2 = some (.lst (ni ((List.range r.N).filter fun i => decide (gt t.c i ≠ gt s.c i)))) := s3 _ _ e2
  have f3 : H3 D3 = some (.lst (ni ((List.range r.P).filter fun i => decide (gt t.p i ≠ gt s.p i)))) := e3
  have en3 := sA _ _ en
  have g1 := sA _ _ h1'
  have g3 := sA _ _ h3'
  clear e1 e2 e3
  cases one with
  | over h e => exact absurd (congrArg Int.ofNat h) c
  | move hd hc hp =>
    rw [filt_none (fun i _ => decide_eq_false (by simp [hd i]))] at f1
    rw [filt_none (fun i _ => decide_eq_false (by simp [hc i]))] at f2
    rw [filt_one hw (fun i _ => decide_eq_decide.mpr (hp i))] at f3
    refine ⟨_, rfl, D2, _, rfl, .inl (SqL.of f2), rfl, _, rfl, iteI (fun z => by cases z) (fun _ => ?_)⟩
    refine ⟨_, rfl, D3, _, rfl, .inl (SqL.of f3), rfl, _, rfl, iteI (fun _ => ?_) (fun z => absurd rfl z)⟩
    refine ⟨_, rfl, _, _, _, _, rfl, rfl, SqL.of f3, atI_nat (j := 0) rfl, _, rfl, rfl, _, rfl, iteI (fun _ => ?_) (fun z => absurd rfl z)⟩
    refine ⟨_, rfl, D2, _, rfl, .inl (SqL.of f2), _, rfl, D1, _, rfl, .inl (SqL.of f1), _, _, rfl, rfl, rfl, ?_⟩
    exact bT (Q := Q) rfl (q _ sA)
  | mark v hv hd hc hp =>
    rw [filt_one hv (fun i _ => decide_eq_decide.mpr (hd i))] at f1
    rw [filt_none (fun i _ => decide_eq_false (by simp [hc i]))] at f2
    rw [filt_none (fun i _ => decide_eq_false (by simp [hp i]))] at f3
    refine ⟨_, rfl, D2, _, rfl, .inl (SqL.of f2), rfl, _, rfl, iteI (fun z => by cases z) (fun _ => ?_)⟩
    refine ⟨_, rfl, D3, _, rfl, .inl (SqL.of f3), rfl, _, rfl, iteI (fun z => by cases z) (fun _ => ?_)⟩
    refine ⟨_, rfl, D3, _, rfl, .inl (SqL.of f3), _, rfl, D2, _, rfl, .inl (SqL.of f2), _, _, rfl, rfl, rfl, _, rfl, iteI (fun _ => ?_) (fun z => absurd rfl z)⟩
    refine ⟨_, rfl, D1, _, rfl, .inl (SqL.of f1), rfl, ?_⟩
    exact bT (Q := Q) rfl (q _ sA)
  | work x0 hx hd hc hp =>
    rw [filt_one hx (fun i _ => decide_eq_decide.mpr (hc i))] at f2
    rw [filt_none (fun i _ => decide_eq_false (by simp [hp i]))] at f3
    have f1' : H3 D1 = some (.lst (ni (if gt t.c x0 = gt ns x0 then [r.N + x0] else []))) := by
      rw [f1]
      by_cases c : gt t.c x0 = gt ns x0
      · rw [if_pos c, filt_one (v := r.N + x0) (by omega) (fun i _ => decide_eq_decide.mpr ((hd i).trans ⟨fun z => z.1, fun z => ⟨z, c⟩⟩))]
      · rw [if_neg c, filt_none (fun i _ => decide_eq_false (fun z => c ((hd i).mp z).2))]
    refine ⟨_, rfl, D2, _, rfl, .inl (SqL.of f2), rfl, _, rfl, iteI (fun _ => ?_) (fun z => absurd rfl z)⟩
    refine ⟨_, rfl, _, _, _, _, rfl, rfl, SqT.of g1, atI_nat (j := 1) rfl, _, rfl, _, _, _, _, rfl, rfl, SqL.of f2, atI_nat (j := 0) rfl, _, _, _, _, rfl, rfl, SqT.of g3, ni_atI (gt_get (by omega)), _, rfl, _, rfl, _, _, _, _, rfl, rfl, SqL.of f2, atI_nat (j := 0) rfl, _, _, _, _, rfl, rfl, SqL.of en3, ni_atI (gt_get (by omega)), rfl, .inr ⟨_, rfl, ?_⟩⟩
    refine ⟨_, rfl, D3, _, rfl, .inl (SqL.of f3), rfl, _, rfl, iteI (fun _ => ?_) (fun z => absurd rfl z)⟩
    refine ⟨_, rfl, _, rfl, nl, _, rfl, .inl (SqL.of en3), _, rfl, _, _, _, _, rfl, rfl, SqL.of f2, atI_nat (j := 0) rfl, _, _, rfl, rfl, (by show 1 ≤ sizeLine; decide), fun l hl => ?_⟩
    have u1 := same_new hl (.lst [V.int (((ni ns).length : Nat) + (x0 : Int))])
    refine ⟨_, rfl, _, rfl, l, _, rfl, SqL.of upd_same, fun p hp2 => ?_⟩
    have ec : cutV [V.int (((ni ns).length : Nat) + (x0 : Int))] none (some (if decide (V.int ((gt t.c x0 : Nat) : Int) = V.int ((gt ns x0 : Nat) : Int)) = true then 1 else 0)) = ni (if gt t.c x0 = gt ns x0 then [r.N + x0] else []) := by
      rw [ni_len, ln]
      by_cases c : gt t.c x0 = gt ns x0
      · rw [c, if_pos (decide_eq_true rfl), if_pos rfl]
        rfl
      · rw [decide_eq_false (fun z => c (by have := V.int.inj z; omega)), if_neg c]
        rfl
    rw [ec]
    have u2 := u1.trans (same_new hp2 (.lst (ni (if gt t.c x0 = gt ns x0 then [r.N + x0] else []))))
    refine ⟨.list (dn (if gt t.c x0 = gt ns x0 then [r.N + x0] else [])), .list (dn (if gt t.c x0 = gt ns x0 then [r.N + x0] else [])), .lst (SqL.of (u2 _ _ f1')) (dpAll_ni _), .lst (SqL.of upd_same) (dpAll_ni _), shaped_dl _, shaped_dl _, ?_⟩
    exact bE (Q := Q) (eqv_dl _) (q _ (sA.trans u2))
end
end K33
set_option maxHeartbeats 4000000
namespace K33
open PySem L2 Vk
/-- a tick, as the checks take it -/
def tickArgs (K : PySem.W.Frag) (C : Addr) (vs : List V) (H : Hp) (Q : VK) (p nl ol g nw : Addr) (r : Rows) (ns : List Nat) (s t : Spot) (gs : List Nat) : Prop :=
  vs = [.ref p, .ref nl, .ref ol, .ref g, .ref nw] ∧ Crw K C H p r ∧ r.ok ∧ H nl = some (.lst (ni ns)) ∧ ns.length = r.N ∧ StT H ol s ∧ StT H nw t ∧ Inv0 r ns s ∧ H g = some (.lst (ni gs)) ∧ Good r.P gs ∧ t = tickF r ns s gs ∧ ∀ H', Same H H' → Q (.bl true) H'
def spJoined (K : PySem.W.Frag) (C : Addr) : Sp := fun vs H Q _ => ∃ p nl ol g nw r ns s t gs, tickArgs K C vs H Q p nl ol g nw r ns s t gs
def spHolds (K : PySem.W.Frag) (C : Addr) : Sp := fun vs H Q _ => ∃ p nl ol g nw r ns s t gs, tickArgs K C vs H Q p nl ol g nw r ns s t gs
def spEnd (K : PySem.W.Frag) (C : Addr) : Sp := fun vs H Q _ => ∃ (p nl sp : Addr) (ld : Nat) (r : Rows) (ns : List Nat) (s : Spot), vs = [.ref p, .ref nl, .ref sp, .int (ld : Int)] ∧ Crw K C H p r ∧ r.ok ∧ H nl = some (.lst (ni ns)) ∧ ns.length = r.N ∧ StT H sp s ∧ s.ok r ∧ gt s.d 1 = 1 ∧ ld < r.P ∧ ∀ H', Q (.bl true) H'
theorem tk_nil {r : Rows} {ns : List Nat} {s t : Spot} (o : s.ok r) (T : Tk r ns s [] t) : t = s :=
  spot_ext T.ok o (fun v => by rw [T.d]; rfl) (fun v => by rw [T.c]; rfl) (fun v => by rw [T.p]; rfl)
section
variable {P : Program} {w : World} {K : PySem.W.Frag} {mg : Str → Option Value} {base : Heap}
theorem ok_law_tick_holds {f C : Addr} {fd : FuncData} {k : Nat} (F : Fun K "_law_tick_holds" "_law_tick_holds" s_law_tick_holds f fd) (OKwalk_tick_kw_crew_works_standing_workers : OkK P w K mg base k "walk_tick" P_walk_tick ["crew", "works", "standing", "workers"] kg_walk_tick_kw_crew_works_standing_workers kg_walk_tick_kw_crew_works_standing_workers (spTick K C)) (mtuple : mg "tuple" = none) (O_law_is_joined : Ok P w K mg base k "_law_is_joined" P_law_is_joined (spJoined K C)) (O_law_marks_hold : Ok P w K mg base k "_law_marks_hold" P_law_marks_hold spMarks) (mlen : mg "len" = none) : FnOk P w K mg base CX0 (k + 1) f fd P_law_tick_holds (spHolds K C) := by
  refine F.ok sc_law_tick_holds (fun vs H Q E h => ?_) (fun cdv A outer s H vs Q E hr h => ?_)
  · obtain ⟨p, nl, ol, g, nw, r, ns, s, t, gs, rfl, _⟩ := h
    rfl
  obtain ⟨p, nl, ol, g, nw, r, ns, s, t, gs, rfl, hC, k, en, ln, ho, hn, iv, eg, Gg, et, q⟩ := h
  refine ⟨_, (pss_cons (ps_if (pt_cmpR (r := rNeD K) (op_neD hr.units) (pe_ck OKwalk_tick_kw_crew_works_standing_workers hr (by rfl) (pk_cons (pv 0) (pk_cons (pe_callTy (r := rTupOf K) call_tupleK (by rfl) mtuple (by decide +kernel) (pa_cons (pv 1) pa_nil)) (pk_cons (pv 2) (pk_cons (pe_callTy (r := rTupOf K) call_tupleK (by rfl) mtuple (by decide +kernel) (pa_cons (pe_revL (pv 3)) pa_nil)) pk_nil))))) (pv 4) (nomark _))
      (pss_one (ps_ret pe_bl))
      pss_nil)
    (pss_cons (ps_if (PW.pt (pw_or (pt_not (pt_val (pe_c O_law_marks_hold hr (by rfl) (pa_cons (pv 2) (pa_cons (pv 4) (pa_cons (pv 1) pa_nil)))))) (pw_or1 (pt_not (pt_val (pe_c O_law_is_joined hr (by rfl) (pa_cons (pv 0) (pa_cons (pv 1) (pa_cons (pv 2) (pa_cons (pv 3) (pa_cons (pv 4) pa_nil)))))))))))
      (pss_one (ps_ret pe_bl))
      pss_nil)
    (pss_cons (ps_if (PW.pt (pw_or (pt_cmpR op_eq (pe_ix (r := rIxT K) ix_tup (pe_ix (r := rIxT K) ix_tup (pv 2) pe_int (fun _ _ => rfl)) pe_int (fun _ _ => rfl)) pe_int (nomark _)) (pw_or1 (pt_cmpR op_eq (pe_callB (r := rLenS K) call_lenK (by rfl) mlen (by decide +kernel) (pa_cons (pv 3) pa_nil)) pe_int (nomark _)))))
      (pss_one (ps_ret (pe_cmpR (r := rEqD K) (op_eqD hr.units) (pv 4) (pv 2) (nomark _))))
      pss_nil)
    (pss_one (ps_ret (pe_cmpR (r := rNeD K) (op_neD hr.units) (pv 4) (pv 2) (nomark _))))))), ?_⟩
  have hN := k.pos
  have hP : r.P ≤ 16 := k.s16
  have lg := Gg.len
  have os := iv.ok
  have T : Tk r ns s gs t := et ▸ tk_all k os Gg.lt
  obtain ⟨x, y, z, h1, h2, h3, h4⟩ := id ho
  have ld := os.ld
  have Gr : ∀ w ∈ gs.reverse, w < r.P := fun w hw => Gg.lt w (List.mem_reverse.mp hw)
  have er : tickF r ns s gs.reverse = t := tk_uniq (tk_all k os Gr) T fun x => List.mem_reverse
  refine ⟨_, rfl, _, rfl, nl, _, rfl, .inl ⟨SqL.of en, fun t1 ht1 => ?_⟩⟩
  have u1 := same_new ht1 (.tup (ni ns))
  refine ⟨_, rfl, _, rfl, g, _, rfl, SqL.of (u1 _ _ eg), fun l2 hl2 => ?_⟩
  have u2 := u1.trans (same_new hl2 (.lst (ni gs).reverse))
  refine ⟨l2, _, rfl, .inl ⟨SqL.of upd_same, fun t3 ht3 => ?_⟩⟩
  have u3 := u2.trans (same_new ht3 (.tup (ni gs).reverse))
  have erv : (ni gs).reverse = ni gs.reverse := (List.map_reverse ..).symm
  have e1 : (upd (upd (upd H t1 (.tup (ni ns))) l2 (.lst (ni gs).reverse)) t3 (.tup (ni gs).reverse)) t1 = some (.tup (ni ns)) := same_new ht3 _ _ _ (same_new hl2 _ _ _ upd_same)
  refine ⟨p, t1, ol, t3, r, ns, s, gs.reverse, rfl, hC.same u3, k, .inr (SqT.of e1), ln, ho.same u3, os, .inr (SqT.of (by rw [← erv]; exact upd_same)), Gr, by rw [List.length_reverse]; omega, fun u H1 s1 hu => ?_⟩
  have uA := u3.trans s1
  rw [er] at hu
  refine ⟨_, rfl, dS t, dS t, dpS hu, dpS (hn.same uA), shS t, shS t, _, rfl, ?_⟩
  rw [eqS, decide_eq_true rfl]
  refine iteF ?_
  refine ⟨_, rfl, _, rfl, _, rfl, ol, nw, nl, r, ns, s, t, gs, rfl, ho.same uA, hn.same uA, uA _ _ en, ln, k, T, iv, fun H2 s2 => ⟨_, rfl, iteF ?_⟩⟩
  have uB := uA.trans s2
  refine ⟨_, rfl, _, rfl, _, rfl, _, rfl, _, rfl, p, nl, ol, g, nw, r, ns, s, t, gs, rfl, hC.same uB, k, uB _ _ en, ln, ho.same uB, hn.same uB, iv, uB _ _ eg, Gg, et, fun H3 s3 => ⟨_, rfl, iteF ?_⟩⟩
  have uC := uB.trans s3
  have same : ∀ (e : t = s), Q (.bl (PyData.eqv (dS t) (dS s))) H3 := fun e => by
    rw [eqS, decide_eq_true e]
    exact q _ uC
  refine ⟨_, rfl, _, _, _, _, rfl, rfl, SqT.of (uC _ _ h1), atI_nat (j := 0) rfl, _, _, _, _, rfl, rfl, SqT.of (uC _ _ h2), ni_atE (i := 1) rfl (gt_get (by omega)), rfl, _, rfl, iteI (fun c => ?_) (fun c => ?_)⟩
  · exact ⟨_, rfl, _, rfl, dS t, dS s, dpS (hn.same uC), dpS (ho.same uC), shS t, shS s, same (et.trans (tick_over gs (by omega)))⟩
  refine ⟨_, rfl, g, _, rfl, .inl (SqL.of (uC _ _ eg)), rfl, _, rfl, iteI (fun e => ?_) (fun e => ?_)⟩
  · rw [ni_len] at e
    have : gs = [] := List.eq_nil_of_length_eq_zero (by omega)
    subst this
    exact ⟨_, rfl, _, rfl, dS t, dS s, dpS (hn.same uC), dpS (ho.same uC), shS t, shS s, same (tk_nil os T)⟩
  · rw [ni_len] at e
    obtain ⟨w0, hw0⟩ := List.exists_mem_of_length_pos (l := gs) (by omega)
    have pd := pot_dec (w := w0) k iv T (by omega) (Gg.lt _ hw0) hw0
    refine ⟨_, rfl, _, rfl, dS t, dS s, dpS (hn.same uC), dpS (ho.same uC), shS t, shS s, ?_⟩
    rw [eqS, decide_eq_false (fun e => by rw [e] at pd; omega)]
    exact q _ uC
theorem ok_law_end_holds {f C : Addr} {fd : FuncData} {k : Nat} (F : Fun K "_law_end_holds" "_law_end_holds" s_law_end_holds f fd) (mlen : mg "len" = none) (mrange : mg "range" = none) (Owalk_tick : Ok P w K mg base k "walk_tick" P_walk_tick (spTick K C)) (mlist : mg "list" = none) (OKwalk_turn_kw_crew_works_standing_worker : OkK P w K mg base k "walk_turn" P_walk_turn ["crew", "works", "standing", "worker"] kg_walk_turn_kw_crew_works_standing_worker kg_walk_turn_kw_crew_works_standing_worker (spTurn K C)) (mtuple : mg "tuple" = none) : FnOk P w K mg base CX0 (k + 1) f fd P_law_end_holds (spEnd K C) := by
  refine F.ok sc_law_end_holds (fun vs H Q E h => ?_) (fun cdv A outer s H vs Q E hr h => ?_)
  · obtain ⟨p, nl, sp, ld, r, ns, s, rfl, _⟩ := h
    rfl
  obtain ⟨p, nl, sp, ld, r, ns, s, rfl, hC, k, en, ln, ho, os, ov, hld, q⟩ := h
  refine ⟨_, (pss_cons (ps_set (i := 4) sc_law_end_holds.nd rfl (Or.inl rfl) (pe_callB (r := rLenS K) call_lenK (by rfl) mlen (by decide +kernel) (pa_cons (pe_ix (r := rIxT K) ix_tup (pv 2) pe_int (fun _ _ => rfl)) pa_nil)))
    (pss_cons (ps_for PassesOwn.never rfl (pi_list (pe_lst (pa_cons (pe_lc (own := [("who", 6)]) (g := (gName 6)) (tt := tYes) rfl sc_law_end_holds.nd (pi_range1 (by rfl) mrange (pa_cons (pv 4) pa_nil)) (blkOk_by (N := N_law_end_holds) (sc := defScope s_law_end_holds) (by decide +kernel)) (fun _ _ _ _ _ => (pg_name (i := 6) sc_law_end_holds.nd rfl (Or.inl rfl))) (fun _ _ _ _ _ => pts_nil) (fun _ _ _ _ _ => (pv 6))) (pa_cons (pe_lst (pa_cons (pv 3) pa_nil)) (pa_cons (pe_lst pa_nil) pa_nil))))) (pg_name (i := 5) sc_law_end_holds.nd rfl (Or.inl rfl))
      (pss_one (ps_if (pt_cmpR (r := rNeD K) (op_neD hr.units) (pe_c Owalk_tick hr (by rfl) (pa_cons (pv 0) (pa_cons (pe_callTy (r := rListOf K) call_listK (by rfl) mlist (by decide +kernel) (pa_cons (pv 1) pa_nil)) (pa_cons (pv 2) (pa_cons (pe_callTy (r := rListOf K) call_listK (by rfl) mlist (by decide +kernel) (pa_cons (pv 5) pa_nil)) pa_nil))))) (pv 2) (nomark _))
        (pss_one (ps_ret pe_bl))
        pss_nil)))
    (pss_cons (ps_for PassesOwn.never rfl (pi_range1 (by rfl) mrange (pa_cons (pv 4) pa_nil)) (pg_name (i := 6) sc_law_end_holds.nd rfl (Or.inl rfl))
      (pss_cons (ps_set (i := 7) sc_law_end_holds.nd rfl (Or.inl rfl) (pe_ck OKwalk_turn_kw_crew_works_standing_worker hr (by rfl) (pk_cons (pv 0) (pk_cons (pe_callTy (r := rTupOf K) call_tupleK (by rfl) mtuple (by decide +kernel) (pa_cons (pv 1) pa_nil)) (pk_cons (pv 2) (pk_cons (pv 6) pk_nil))))))
      (pss_one (ps_if (pt_cmpR (r := rNeD K) (op_neD hr.units) (pv 7) (pe_tup (pa_cons pe_str (pa_cons (pe_ix (r := rIxT K) ix_tup (pe_ix (r := rIxT K) ix_tup (pv 2) pe_int (fun _ _ => rfl)) (pv 6) (fun _ _ => rfl)) (pa_cons (pe_ix (r := rIxT K) ix_tup (pe_ix (r := rIxT K) ix_tup (pv 2) pe_int (fun _ _ => rfl)) (pv 6) (fun _ _ => rfl)) pa_nil)))) (nomark _))
        (pss_one (ps_ret pe_bl))
        pss_nil))))
    (pss_one (ps_ret pe_bl))))), ?_⟩
  have hN := k.pos
  have hP : r.P ≤ 16 := k.s16
  obtain ⟨x, y, z, h1, h2, h3, h4⟩ := id ho
  have lp := os.lp
  refine ⟨_, rfl, _, _, _, _, rfl, rfl, SqT.of h1, atI_nat (j := 2) rfl, z, _, rfl, .inr (SqT.of h4), ?_⟩
  rw [ni_len, lp]
  refine ⟨_, rfl, _, rfl, by omega, by omega, lc_mapS (n := (r.P : Int).toNat) wk_range (fun _ _ => trivial) (by omega) (fun i => .int (i : Int)) (fun i H1 Qe hi sm qe => ⟨_, rfl, qe _ (fun _ _ z => z)⟩) fun D H1 hD s1 e1 => ?_⟩
  refine ⟨_, rfl, (by show 1 ≤ sizeLine; decide), fun l2 hl2 => ⟨(by show 0 ≤ sizeLine; decide), fun l3 hl3 => ⟨(by show 3 ≤ sizeLine; decide), fun l4 hl4 => ?_⟩⟩⟩
  have v2 := same_new hl2 (.lst [.int (ld : Int)])
  have v3 := same_new hl3 (.lst [])
  have v4 := same_new hl4 (.lst [.ref D, .ref l2, .ref l3])
  have f1 : (upd (upd (upd H1 l2 (.lst [.int (ld : Int)])) l3 (.lst [])) l4 (.lst [.ref D, .ref l2, .ref l3])) D = some (.lst (ni (List.range r.P))) := v4 _ _ (v3 _ _ (v2 _ _ e1))
  have f2 : (upd (upd (upd H1 l2 (.lst [.int (ld : Int)])) l3 (.lst [])) l4 (.lst [.ref D, .ref l2, .ref l3])) l2 = some (.lst (ni [ld])) := v4 _ _ (v3 _ _ upd_same)
  have f3 : (upd (upd (upd H1 l2 (.lst [.int (ld : Int)])) l3 (.lst [])) l4 (.lst [.ref D, .ref l2, .ref l3])) l3 = some (.lst (ni [])) := v4 _ _ upd_same
  have f4 : (upd (upd (upd H1 l2 (.lst [.int (ld : Int)])) l3 (.lst [])) l4 (.lst [.ref D, .ref l2, .ref l3])) l4 = some (.lst [.ref D, .ref l2, .ref l3]) := upd_same
  have sA := s1.trans (v2.trans (v3.trans v4))
  generalize (upd (upd (upd H1 l2 (.lst [.int (ld : Int)])) l3 (.lst [])) l4 (.lst [.ref D, .ref l2, .ref l3])) = HA at *
  have rows : ∀ (i : Nat) (x : V), [V.ref D, V.ref l2, V.ref l3][i]? = some x → ∃ (b : Addr) (gs : List Nat), x = V.ref b ∧ HA b = some (.lst (ni gs)) ∧ (∀ w ∈ gs, w < r.P) ∧ gs.length ≤ 1000 := fun i x hx => by
    rcases i with _ | _ | _ | i
    · cases hx; exact ⟨_, _, rfl, f1, fun w hw => List.mem_range.mp hw, by rw [List.length_range]; omega⟩
    · cases hx; exact ⟨_, _, rfl, f2, fun w hw => by rw [List.mem_singleton.mp hw]; exact hld, by simp⟩
    · cases hx; exact ⟨_, _, rfl, f3, (fun w hw => by cases hw), by decide⟩
    · cases hx
  refine ⟨l4, rfl, ⟨_, SqL.of f4⟩, for_list (xs := [V.ref D, V.ref l2, V.ref l3]) (fun i σ H' => ∃ y5 y6 y7, σ = [some (.ref p), some (.ref nl), some (.ref sp), some (.int (ld : Int)), some (.int (r.P : Int)), y5, y6, y7] ∧ Same HA H') ⟨_, _, _, rfl, fun _ _ z => z⟩ (fun i σ H' _ hp => ?_) (fun i x σ H' hx hp => ?_) (fun σ H' hp => ?_)⟩
  · obtain ⟨_, _, _, rfl, sm⟩ := hp
    exact SqL.of (sm _ _ f4)
  · obtain ⟨y5, y6, y7, rfl, sm⟩ := hp
    obtain ⟨b, gs, rfl, eb, hgs, lgs⟩ := rows i x hx
    have sm0 := sA.trans sm
    refine ⟨_, rfl, _, rfl, nl, _, rfl, .inl (SqL.of (sm0 _ _ en)), fun m1 hm1 => ?_⟩
    have u1 := same_new hm1 (.lst (ni ns))
    refine ⟨_, rfl, _, rfl, b, _, rfl, .inl (SqL.of (u1 _ _ (sm _ _ eb))), fun m2 hm2 => ?_⟩
    have u2 := u1.trans (same_new hm2 (.lst (ni gs)))
    refine ⟨p, m1, sp, m2, r, ns, s, gs, rfl, (hC.same sm0).same u2, k, .inl (SqL.of (same_new hm2 _ _ _ upd_same)), ln, (ho.same sm0).same u2, os, .inl (SqL.of upd_same), hgs, lgs, fun u H3 s3 hu => ?_⟩
    rw [tick_over gs ov] at hu
    have sm3 := sm.trans (u2.trans s3)
    refine ⟨_, rfl, dS s, dS s, dpS hu, dpS (ho.same (sA.trans sm3)), shS s, shS s, _, rfl, ?_⟩
    rw [eqS, decide_eq_true rfl]
    exact iteF ⟨_, _, _, rfl, sm3⟩
  · obtain ⟨y5, y6, y7, rfl, sm⟩ := hp
    refine ⟨_, rfl, _, rfl, by omega, by omega, for_range0 (n := (r.P : Int).toNat) (fun i σ H' => ∃ y5 y6 y7, σ = [some (.ref p), some (.ref nl), some (.ref sp), some (.int (ld : Int)), some (.int (r.P : Int)), y5, y6, y7] ∧ Same HA H') ⟨_, _, _, rfl, sm⟩ (fun i σ H' hi hp => ?_) (fun σ H' hp => ?_)⟩
    · obtain ⟨y5, y6, y7, rfl, sm⟩ := hp
      have hi' : i < r.P := by omega
      have sm0 := sA.trans sm
      refine ⟨_, rfl, _, rfl, nl, _, rfl, .inl ⟨SqL.of (sm0 _ _ en), fun m1 hm1 => ?_⟩⟩
      have u1 := sm0.trans (same_new hm1 (.tup (ni ns)))
      refine ⟨_, rfl, _, rfl, p, _, sp, i, r, s, rfl, hC.same u1, k, ho.same u1, os, hi', fun u H3 s3 hu => ?_⟩
      have u3 := u1.trans s3
      have ti : turnF r s i = (.idle, gt s.p i, gt s.p i) := by unfold turnF; rw [if_pos ov]
      rw [ti] at hu
      refine ⟨_, rfl, _, rfl, _, _, _, _, rfl, rfl, SqT.of (u3 _ _ h1), atI_nat (j := 2) rfl, _, rfl, _, _, _, _, rfl, rfl, SqT.of (u3 _ _ h4), ni_atI (gt_get (by omega)), _, rfl, _, _, _, _, rfl, rfl, SqT.of (u3 _ _ h1), atI_nat (j := 2) rfl, _, rfl, _, _, _, _, rfl, rfl, SqT.of (u3 _ _ h4), ni_atI (gt_get (by omega)), (by show 3 ≤ sizeLine; decide), fun tt htt => ?_⟩
      have s4 := same_new htt (.tup [.str "idle", .int ((gt s.p i : Nat) : Int), .int ((gt s.p i : Nat) : Int)])
      refine ⟨.tuple [.str "idle", .int ((gt s.p i : Nat) : Int), .int ((gt s.p i : Nat) : Int)], .tuple [.str "idle", .int ((gt s.p i : Nat) : Int), .int ((gt s.p i : Nat) : Int)], .tup (SqT.of (s4 _ _ hu)) (.cons (.str _) (.cons (.int _) (.cons (.int _) .nil))), .tup (SqT.of upd_same) (.cons (.str _) (.cons (.int _) (.cons (.int _) .nil))), ?_, ?_, _, rfl, ?_⟩
      · simp [SeqAt.shaped, PyData.canLay0, PyData.canLayAll0, PyData.depth, PyData.depthAll]; decide +kernel
      · simp [SeqAt.shaped, PyData.canLay0, PyData.canLayAll0, PyData.depth, PyData.depthAll]; decide +kernel
      have eq : PyData.eqv (.tuple [.str "idle", .int ((gt s.p i : Nat) : Int), .int ((gt s.p i : Nat) : Int)]) (.tuple [.str "idle", .int ((gt s.p i : Nat) : Int), .int ((gt s.p i : Nat) : Int)]) = true := by
        simp [PyData.eqv, PyData.eqvAll]
      rw [eq]
      exact iteF ⟨_, _, _, rfl, sm.trans ((same_new hm1 (.tup (ni ns))).trans (s3.trans s4))⟩
    · exact q H'
end
end K33
set_option maxHeartbeats 4000000
namespace K33
open PySem L2 Vk
def row (s : Spot) (w : Nat) : List Nat := if w = 0 then s.d else s.c
theorem StT.row {H : Hp} {p : Addr} {s : Spot} {w : Nat} (h : StT H p s) (hw : w < 2) : ∃ (xs : List V) (a : Addr), H p = some (.tup xs) ∧ xs[w]? = some (.ref a) ∧ H a = some (.tup (ni (row s w))) := by
  obtain ⟨x, y, z, h1, h2, h3, h4⟩ := h
  rcases w with _ | _ | w
  · exact ⟨_, x, h1, rfl, h2⟩
  · exact ⟨_, y, h1, rfl, h3⟩
  · omega
def hitW (r : Rows) (s : Spot) (w v : Nat) (u : Nat) : Bool := if w = 0 then hit r s v u else hit r s (r.N + v) u
def valW (r : Rows) (ns : List Nat) (s : Spot) (w v : Nat) : Nat := if w = 0 then valF r ns s v else gt s.c v + 1
theorem tk_row {r : Rows} {ns : List Nat} {s t : Spot} {g : List Nat} (T : Tk r ns s g t) (w v : Nat) : gt (row t w) v = if g.any (hitW r s w v) then valW r ns s w v else gt (row s w) v := by
  unfold row hitW valW
  by_cases c : w = 0
  · simp only [if_pos c]
    exact T.d v
  · simp only [if_neg c]
    exact T.c v
theorem val_ge {r : Rows} {ns : List Nat} {s : Spot} (k : r.ok) (o : s.ok r) {w v u : Nat} (h : hitW r s w v u = true) : gt (row s w) v ≤ valW r ns s w v := by
  unfold hitW at h
  unfold row valW
  by_cases c : w = 0
  · simp only [if_pos c] at h ⊢
    have d1 := o.d1 v
    have : gt s.d v ≠ 1 := by
      by_cases cv : v < r.N
      · exact (hit_mark k cv h).2.2.1
      · have := hit_work (x := v - r.N) k (w := u) (by rw [show r.N + (v - r.N) = v by omega]; exact h)
        rw [show r.N + (v - r.N) = v by omega] at this
        exact this.2.2
    omega
  · simp only [if_neg c]
    omega
theorem row_len {r : Rows} {s : Spot} (o : s.ok r) (w : Nat) : (row s w).length = if w = 0 then 2 * r.N else r.N := by
  unfold row
  have := o.ld
  have := o.lc
  split <;> assumption
theorem jmax {r : Rows} {ns : List Nat} {s t : Spot} {g : List Nat} (k : r.ok) (o : s.ok r) (hg : ∀ w ∈ g, w < r.P) (T : Tk r ns s g t) (w v : Nat) {m : Int} (hm : m ∈ ((gt (row s w) v : Nat) : Int) :: (List.range g.length).map fun i => ((gt (row (tickF r ns s [gt g i]) w) v : Nat) : Int))
    (hx : ∀ y, y ∈ ((gt (row s w) v : Nat) : Int) :: (List.range g.length).map (fun i => ((gt (row (tickF r ns s [gt g i]) w) v : Nat) : Int)) → y ≤ m) : ((gt (row t w) v : Nat) : Int) = m := by
  have one : ∀ i, i < g.length → gt (row (tickF r ns s [gt g i]) w) v = if hitW r s w v (gt g i) = true then valW r ns s w v else gt (row s w) v := fun i hi => by
    have := tk_row (tk_all (ns := ns) (g := [gt g i]) k o (fun x hx => by rw [List.mem_singleton.mp hx]; exact hg _ (gt_mem hi))) w v
    rw [this]
    simp
  have ht := tk_row T w v
  have h0 := hx _ (List.mem_cons_self ..)
  by_cases c : g.any (hitW r s w v) = true
  · rw [if_pos c] at ht
    obtain ⟨u, hu, hh⟩ := List.any_eq_true.mp c
    have ge := val_ge (ns := ns) k o hh
    obtain ⟨i, hi⟩ := List.getElem?_of_mem hu
    have hil : i < g.length := by
      by_cases z : i < g.length
      · exact z
      · rw [List.getElem?_eq_none (by omega)] at hi; cases hi
    have eu : gt g i = u := gt_of hi
    have h1 := hx _ (List.mem_cons_of_mem _ (List.mem_map.mpr ⟨i, List.mem_range.mpr hil, rfl⟩))
    rw [one i hil, eu, if_pos hh] at h1
    rw [ht]
    rcases List.mem_cons.mp hm with e | e
    · omega
    · obtain ⟨j, hj, ej⟩ := List.mem_map.mp e
      rw [one j (List.mem_range.mp hj)] at ej
      split at ej <;> omega
  · rw [if_neg c] at ht
    rw [ht]
    rcases List.mem_cons.mp hm with e | e
    · omega
    · obtain ⟨j, hj, ej⟩ := List.mem_map.mp e
      rw [one j (List.mem_range.mp hj), if_neg (fun z => c (List.any_eq_true.mpr ⟨_, gt_mem (List.mem_range.mp hj), z⟩))] at ej
      exact ej
theorem eqV_ii (a b : Nat) (h : a ≠ b) : eqV (.int (a : Int)) (.int (b : Int)) = false := by
  simp only [eqV, beq_eq_false_iff_ne]
  omega
theorem eqV_self (a : Nat) : eqV (.int (a : Int)) (.int (a : Int)) = true := by
  simp [eqV]
section
variable {P : Program} {w : World} {K : PySem.W.Frag} {mg : Str → Option Value} {base : Heap}
theorem ok_law_is_joined {f C : Addr} {fd : FuncData} {k : Nat} (F : Fun K "_law_is_joined" "_law_is_joined" s_law_is_joined f fd) (Owalk_tick : Ok P w K mg base k "walk_tick" P_walk_tick (spTick K C)) (mlist : mg "list" = none) (mrange : mg "range" = none) (mlen : mg "len" = none) (O_law_is_one_change : Ok P w K mg base k "_law_is_one_change" P_law_is_one_change spOneC) (mmax : mg "max" = none) : FnOk P w K mg base CX0 (k + 1) f fd P_law_is_joined (spJoined K C) := by
  refine F.ok sc_law_is_joined (fun vs H Q E h => ?_) (fun cdv A outer s H vs Q E hr h => ?_)
  · obtain ⟨p, nl, ol, g, nw, r, ns, s, t, gs, rfl, _⟩ := h
    rfl
  obtain ⟨p, nl, ol, g, nw, r, ns, s, t, gs, rfl, hC, k, en, ln, ho, hn, iv, eg, Gg, et, q⟩ := h
  refine ⟨_, (pss_cons (ps_setLc (i := 5) (own := [("who", 6)]) (g := (gName 6)) (tt := tYes) rfl sc_law_is_joined.nd rfl rfl (sw_true rfl rfl rfl (by decide +kernel)) (pi_list (pv 3)) (blkOk_by (N := N_law_is_joined) (sc := defScope s_law_is_joined) (by decide +kernel)) (fun _ _ _ _ _ => (pg_name (i := 6) sc_law_is_joined.nd rfl (Or.inl rfl))) (fun _ _ _ _ _ => pts_nil) (fun _ _ _ _ _ => (pe_c Owalk_tick hr (by rfl) (pa_cons (pv 0) (pa_cons (pe_callTy (r := rListOf K) call_listK (by rfl) mlist (by decide +kernel) (pa_cons (pv 1) pa_nil)) (pa_cons (pv 2) (pa_cons (pe_lst (pa_cons (pv 6) pa_nil)) pa_nil)))))))
    (pss_cons (ps_for PassesOwn.never rfl (pi_range1 (by rfl) mrange (pa_cons (pe_callB (r := rLenS K) call_lenK (by rfl) mlen (by decide +kernel) (pa_cons (pv 3) pa_nil)) pa_nil)) (pg_name (i := 7) sc_law_is_joined.nd rfl (Or.inl rfl))
      (pss_one (ps_if (pt_not (pt_val (pe_c O_law_is_one_change hr (by rfl) (pa_cons (pv 1) (pa_cons (pv 2) (pa_cons (pe_ix (r := rIxL K) ix_list (pv 3) (pv 7) (fun _ _ => rfl)) (pa_cons (pe_ix (r := rIxL K) ix_list (pv 5) (pv 7) (fun _ _ => rfl)) pa_nil)))))))
        (pss_one (ps_ret pe_bl))
        pss_nil)))
    (pss_cons (ps_for PassesOwn.never rfl (pi_range1 (by rfl) mrange (pa_cons pe_int pa_nil)) (pg_name (i := 8) sc_law_is_joined.nd rfl (Or.inr rfl))
      (pss_one (ps_for PassesOwn.never rfl (pi_range1 (by rfl) mrange (pa_cons (pe_callB (r := rLenS K) call_lenK (by rfl) mlen (by decide +kernel) (pa_cons (pe_ix (r := rIxT K) ix_tup (pv 2) (pv 8) (fun _ _ => rfl)) pa_nil)) pa_nil)) (pg_name (i := 9) sc_law_is_joined.nd rfl (Or.inr rfl))
        (pss_one (ps_if (pt_cmpR op_ne (pe_ix (r := rIxT K) ix_tup (pe_ix (r := rIxT K) ix_tup (pv 4) (pv 8) (fun _ _ => rfl)) (pv 9) (fun _ _ => rfl)) (pe_callB (r := rMax K) (cr_max rfl) (by rfl) mmax (by decide +kernel) (pa_cons (pe_op op_cat (pe_lst (pa_cons (pe_ix (r := rIxT K) ix_tup (pe_ix (r := rIxT K) ix_tup (pv 2) (pv 8) (fun _ _ => rfl)) (pv 9) (fun _ _ => rfl)) pa_nil)) (pe_lc (own := [("one", 10)]) (g := (gName 10)) (tt := tYes) rfl sc_law_is_joined.nd (pi_list (pv 5)) (blkOk_by (N := N_law_is_joined) (sc := defScope s_law_is_joined) (by decide +kernel)) (fun _ _ _ _ _ => (pg_name (i := 10) sc_law_is_joined.nd rfl (Or.inl rfl))) (fun _ _ _ _ _ => pts_nil) (fun _ _ _ _ _ => (pe_ix (r := rIxT K) ix_tup (pe_ix (r := rIxT K) ix_tup (pv 10) (pv 8) (fun _ _ => rfl)) (pv 9) (fun _ _ => rfl))))) pa_nil)) (nomark _))
          (pss_one (ps_ret pe_bl))
          pss_nil)))))
    (pss_cons (ps_for PassesOwn.never rfl (pi_range1 (by rfl) mrange (pa_cons (pe_callB (r := rLenS K) call_lenK (by rfl) mlen (by decide +kernel) (pa_cons (pe_ix (r := rIxT K) ix_tup (pv 2) pe_int (fun _ _ => rfl)) pa_nil)) pa_nil)) (pg_name (i := 6) sc_law_is_joined.nd rfl (Or.inl rfl))
      (pss_cons (ps_set (i := 11) sc_law_is_joined.nd rfl (Or.inl rfl) (pe_ix (r := rIxT K) ix_tup (pe_ix (r := rIxT K) ix_tup (pv 2) pe_int (fun _ _ => rfl)) (pv 6) (fun _ _ => rfl)))
      (C8.pss_cut (ps_if (pt_cmpR (r := rIn K false) op_in_seq (pv 6) (pv 3) (by rfl))
        (pss_cons (ps_set (i := 10) sc_law_is_joined.nd rfl (Or.inl rfl) (pe_ix (r := rIxL K) ix_list (pv 5) (pe_bm PySem.F.plainAttrs_list PySem.F.slot_list_index PySem.F.type_list_index mt_index (pv 3) (pa_cons (pv 6) pa_nil)) (fun _ _ => rfl)))
        (pss_one (ps_set (i := 11) sc_law_is_joined.nd rfl (Or.inl rfl) (pe_ix (r := rIxT K) ix_tup (pe_ix (r := rIxT K) ix_tup (pv 10) pe_int (fun _ _ => rfl)) (pv 6) (fun _ _ => rfl)))))
        pss_nil)
      (pss_one (ps_if (pt_cmpR op_ne (pe_ix (r := rIxT K) ix_tup (pe_ix (r := rIxT K) ix_tup (pv 4) pe_int (fun _ _ => rfl)) (pv 6) (fun _ _ => rfl)) (pv 11) (nomark _))
        (pss_one (ps_ret pe_bl))
        pss_nil)))))
    (pss_one (ps_ret pe_bl)))))), ?_⟩
  have hN := k.pos
  have hP : r.P ≤ 16 := k.s16
  have lg := Gg.len
  have os := iv.ok
  have T : Tk r ns s gs t := et ▸ tk_all k os Gg.lt
  have ot := T.ok
  have sg : ∀ i, i < gs.length → gt gs i < r.P ∧ Tk r ns s [gt gs i] (tickF r ns s [gt gs i]) := fun i hi =>
    ⟨Gg.lt _ (gt_mem hi), tk_all k os fun x hx => by rw [List.mem_singleton.mp hx]; exact Gg.lt _ (gt_mem hi)⟩
  refine ⟨_, rfl, g, rfl, ⟨_, SqL.of eg⟩, ?_⟩
  refine lc_map (n := (ni gs).length) wk_list Same (trSame _) (fun H4 u => SqL.of (u _ _ eg)) (by rw [ni_len]; omega)
    (fun D i y H1 => ∃ b, y = .ref b ∧ StT H1 b (tickF r ns s [gt gs i])) (fun D i y H1 H2 _ _ u ⟨b, e1, e2⟩ => ⟨b, e1, e2.same u⟩)
    (fun D i y H1 acc o _ ea ⟨b, e1, e2⟩ => ⟨b, e1, e2.kp (fun b => b = D) (fun b hb => ⟨acc, hb ▸ ea⟩) (fun b o2 hb e => upd_keep e hb)⟩) (fun D i H4 Qe hi hD u ⟨acc, ea, _⟩ qe => ?_) (fun D H1 ys hD s1 e1 hys hP2 => ?_)
  · have hi' : i < gs.length := by rw [ni_len] at hi; exact hi
    rw [getD_of (ni_get (gt_get hi'))]
    refine ⟨_, rfl, _, rfl, nl, _, rfl, .inl (SqL.of (u _ _ en)), fun m1 hm1 => ?_⟩
    have u1 := same_new hm1 (.lst (ni ns))
    refine ⟨_, rfl, _, rfl, (by show 1 ≤ sizeLine; decide), fun m2 hm2 => ?_⟩
    have u2 := u1.trans (same_new hm2 (.lst [.int ((gt gs i : Nat) : Int)]))
    exact ⟨p, m1, ol, m2, r, ns, s, [gt gs i], rfl, (hC.same u).same u2, k, .inl (SqL.of (same_new hm2 _ _ _ upd_same)), ln, (ho.same u).same u2, os, .inl (SqL.of upd_same), (fun x hx => by rw [List.mem_singleton.mp hx]; exact (sg i hi').1), by simp, fun v H3 s3 hv => qe _ _ (u2.trans s3) ⟨v, rfl, hv⟩⟩
  obtain ⟨as, rfl, has⟩ := refs_of (P := fun i b => StT H1 b (tickF r ns s [gt gs i])) ys hP2
  have la : as.length = gs.length := by rw [← rf_len as, hys, ni_len]
  refine ⟨_, rfl, g, _, rfl, .inl (SqL.of (s1 _ _ eg)), ?_⟩
  rw [ni_len]
  refine ⟨_, rfl, by omega, by omega, for_range0 (n := (gs.length : Int).toNat) (fun i σ H' => ∃ y7, σ = [some (.ref p), some (.ref nl), some (.ref ol), some (.ref g), some (.ref nw), some (.ref D), none, y7, none, none, none, none] ∧ Same H1 H') ⟨_, rfl, fun _ _ z => z⟩ (fun i σ H' hi hp => ?_) (fun σ H' hp => ?_)⟩
  · obtain ⟨y7, rfl, sm⟩ := hp
    have hi' : i < gs.length := by omega
    have sA := s1.trans sm
    obtain ⟨b, eb⟩ := get_of_lt (xs := as) (i := i) (by omega)
    have hb := (has i b eb).same sm
    obtain ⟨hw, Ti⟩ := sg i hi'
    exact ⟨_, rfl, _, rfl, _, rfl, _, rfl, _, _, _, _, rfl, rfl, SqL.of (sA _ _ eg), ni_atI (gt_get hi'), _, rfl, _, rfl, _, _, _, _, rfl, rfl, SqL.of (sm _ _ e1), atI_nat (rf_get eb), nl, ol, b, gt gs i, r, ns, s, _, rfl, sA _ _ en, ln, ho.same sA, hb, k, os, Ti.ok, hw, one_of k os hw Ti, (fun ov => tick_over _ ov), fun H2 s2 => ⟨_, rfl, iteF ⟨_, rfl, sm.trans s2⟩⟩⟩
  obtain ⟨y7, rfl, sm⟩ := hp
  refine ⟨_, rfl, by omega, by omega, for_range0 (n := (2 : Int).toNat) (fun i σ H' => ∃ y8 y9, σ = [some (.ref p), some (.ref nl), some (.ref ol), some (.ref g), some (.ref nw), some (.ref D), none, y7, y8, y9, none, none] ∧ Same H1 H') ⟨_, _, rfl, sm⟩ (fun i σ H' hi hp => ?_) (fun σ H' hp => ?_)⟩
  · obtain ⟨y8, y9, rfl, sm⟩ := hp
    have hi' : i < 2 := hi
    have sA := s1.trans sm
    obtain ⟨ox, oa, o1, o2, o3⟩ := StT.row ho hi'
    obtain ⟨nx, na, n1, n2, n3⟩ := StT.row hn hi'
    have lo := row_len os i
    have lt := row_len ot i
    refine ⟨_, rfl, _, rfl, _, _, _, _, rfl, rfl, SqT.of (sA _ _ o1), atI_nat o2, oa, _, rfl, .inr (SqT.of (sA _ _ o3)), ?_⟩
    rw [ni_len]
    have lr : (row s i).length ≤ 32 := by rw [lo]; split <;> omega
    refine ⟨_, rfl, by omega, by omega, for_range0 (n := ((row s i).length : Int).toNat) (fun j σ H' => ∃ y9, σ = [some (.ref p), some (.ref nl), some (.ref ol), some (.ref g), some (.ref nw), some (.ref D), none, y7, some (.int (i : Int)), y9, none, none] ∧ Same H1 H') ⟨_, rfl, sm⟩ (fun j σ H' hj hp => ?_) (fun σ H' hp => ?_)⟩
    · obtain ⟨y9, rfl, sm⟩ := hp
      have hj' : j < (row s i).length := by omega
      have sA := s1.trans sm
      refine ⟨_, rfl, _, rfl, _, _, _, _, rfl, rfl, SqT.of (sA _ _ n1), atI_nat n2, _, rfl, _, _, _, _, rfl, rfl, SqT.of (sA _ _ n3), ni_atI (gt_get (by omega)), ?_⟩
      refine ⟨_, rfl, _, rfl, _, _, _, _, rfl, rfl, SqT.of (sA _ _ o1), atI_nat o2, _, rfl, _, _, _, _, rfl, rfl, SqT.of (sA _ _ o3), ni_atI (gt_get hj'), (by show 1 ≤ sizeLine; decide), fun l hl => ?_⟩
      have u1 := same_new hl (.lst [.int ((gt (row s i) j : Nat) : Int)])
      have sm1 := sm.trans u1
      refine ⟨_, rfl, D, rfl, ⟨_, SqL.of (sm1 _ _ e1)⟩, ?_⟩
      refine lc_mapS (n := (rf as).length) wk_list (fun H4 u => SqL.of (u _ _ (sm1 _ _ e1))) (by rw [rf_len]; omega) (fun m => .int ((gt (row (tickF r ns s [gt gs m]) i) j : Nat) : Int)) (fun m H3 Qe hm s3 qe => ?_) fun D2 H2 hD2 s2 e2 => ?_
      · have hm' : m < gs.length := by rw [rf_len] at hm; omega
        obtain ⟨b, eb⟩ := get_of_lt (xs := as) (i := m) (by omega)
        rw [getD_of (rf_get eb)]
        obtain ⟨bx, ba, b1, b2, b3⟩ := StT.row ((has m b eb).same (sm1.trans s3)) hi'
        have lb := row_len (sg m hm').2.ok i
        exact ⟨_, rfl, _, rfl, _, _, _, _, rfl, rfl, SqT.of b1, atI_nat b2, _, rfl, _, _, _, _, rfl, rfl, SqT.of b3, ni_atI (gt_get (by omega)), qe _ fun _ _ z => z⟩
      have u2 := u1.trans s2
      refine ⟨l, D2, _, _, rfl, rfl, s2 _ _ upd_same, e2, by rw [List.length_map, List.length_range, rf_len]; exact Nat.le_of_lt (line1000 (m := 1000) (by show 1 + as.length < 1000; omega) (by decide)), fun l3 hl3 => ?_⟩
      have u3 := u2.trans (same_new hl3 (.lst ([.int ((gt (row s i) j : Nat) : Int)] ++ (List.range (rf as).length).map fun m => V.int ((gt (row (tickF r ns s [gt gs m]) i) j : Nat) : Int))))
      refine ⟨l3, ((gt (row s i) j : Nat) : Int) :: (List.range gs.length).map (fun m => ((gt (row (tickF r ns s [gt gs m]) i) j : Nat) : Int)), rfl, SqL.of ?_, by simp, fun m hm hx => ?_⟩
      · rw [upd_same, rf_len, la, List.map_cons, List.map_map]
        rfl
      · refine ⟨rfl, _, rfl, iteIn (fun c => absurd (jmax k os Gg.lt T i j hm hx) c) (fun _ => ⟨_, rfl, sm.trans u3⟩)⟩
    · obtain ⟨y9, rfl, sm⟩ := hp
      exact ⟨_, _, rfl, sm⟩
  obtain ⟨y8, y9, rfl, sm⟩ := hp
  have sA := s1.trans sm
  obtain ⟨x, y, z, h1, h2, h3, h4⟩ := id ho
  obtain ⟨x', y', z', h1', h2', h3', h4'⟩ := id hn
  have lp := os.lp
  have lp' := ot.lp
  refine ⟨_, rfl, _, _, _, _, rfl, rfl, SqT.of (sA _ _ h1), atI_nat (j := 2) rfl, z, _, rfl, .inr (SqT.of (sA _ _ h4)), ?_⟩
  rw [ni_len, lp]
  refine ⟨_, rfl, by omega, by omega, for_range0 (n := (r.P : Int).toNat) (fun i σ H' => ∃ y6 y10 y11, σ = [some (.ref p), some (.ref nl), some (.ref ol), some (.ref g), some (.ref nw), some (.ref D), y6, y7, y8, y9, y10, y11] ∧ Same H1 H') ⟨_, _, _, rfl, sm⟩ (fun i σ H' hi hp => ?_) (fun σ H' hp => ?_)⟩
  · obtain ⟨y6, y10, y11, rfl, sm⟩ := hp
    have hi' : i < r.P := by omega
    have sA := s1.trans sm
    have tp := T.p i
    refine ⟨_, rfl, _, _, _, _, rfl, rfl, SqT.of (sA _ _ h1), atI_nat (j := 2) rfl, _, rfl, _, _, _, _, rfl, rfl, SqT.of (sA _ _ h4), ni_atI (gt_get (by omega)), ?_⟩
    refine ⟨fun σ' H2 => ∃ y10, σ' = [some (.ref p), some (.ref nl), some (.ref ol), some (.ref g), some (.ref nw), some (.ref D), some (.int (i : Int)), y7, y8, y9, y10, some (.int ((gt t.p i : Nat) : Int))] ∧ H2 = H', ?_, fun σ' H2 hm => ?_⟩
    · refine ⟨_, rfl, _, rfl, g, _, rfl, .inl (SqL.of (sA _ _ eg)), rfl, flat_ni _, _, rfl, ?_⟩
      show if inV (.int (i : Int)) (ni gs) = true then _ else _
      rw [inV_ni]
      refine itD (fun c => ?_) (fun c => ?_)
      · rw [if_pos c] at tp
        obtain ⟨j, hj⟩ := List.getElem?_of_mem c
        have hjl : j < gs.length := by
          by_cases z : j < gs.length
          · exact z
          · rw [List.getElem?_eq_none (by omega)] at hj; cases hj
        have ej : gt gs j = i := gt_of hj
        obtain ⟨b, eb⟩ := get_of_lt (xs := as) (i := j) (by omega)
        obtain ⟨bx, bi, bz, b1, b2, b3, b4⟩ := (has j b eb).same sm
        have Ti := (sg j hjl).2
        have lb := Ti.ok.lp
        have tv : gt (tickF r ns s [gt gs j]).p i = gt t.p i := by
          rw [Ti.p, tp, if_pos (by rw [ej]; exact List.mem_singleton.mpr rfl)]
        refine ⟨_, rfl, _, rfl, .inl ⟨rfl, _, SqL.of (sA _ _ eg)⟩, _, rfl, g, _, _, j, _, rfl, rfl, SqL.of (sA _ _ eg), rfl, flat_ni _, ni_get hj, eqV_self i, fun m z' hm hz => ?_, ?_⟩
        · obtain ⟨n, hn2, rfl⟩ := ni_at hz
          refine eqV_ii _ _ fun e => ?_
          have : m = j := (List.getElem?_inj (by omega) Gg.nd).mp (by rw [hn2, hj, e])
          omega
        refine ⟨_, _, _, _, rfl, rfl, SqL.of (sm _ _ e1), atI_nat (rf_get eb), ?_⟩
        refine ⟨_, rfl, _, _, _, _, rfl, rfl, SqT.of b1, atI_nat (j := 2) rfl, _, rfl, _, _, _, _, rfl, rfl, SqT.of b4, ni_atI (gt_get (by omega)), ?_⟩
        rw [tv]
        exact ⟨_, rfl, rfl⟩
      · rw [if_neg c] at tp
        rw [← tp]
        exact ⟨_, rfl, rfl⟩
    obtain ⟨y10, rfl, rfl⟩ := hm
    refine ⟨_, rfl, _, _, _, _, rfl, rfl, SqT.of (sA _ _ h1'), atI_nat (j := 2) rfl, _, rfl, _, _, _, _, rfl, rfl, SqT.of (sA _ _ h4'), ni_atI (gt_get (by omega)), _, rfl, rfl, _, rfl, iteIn (fun c => absurd rfl c) (fun _ => ⟨_, _, _, rfl, sm⟩)⟩
  · obtain ⟨y6, y10, y11, rfl, sm⟩ := hp
    exact q _ (s1.trans sm)
end
end K33
set_option maxHeartbeats 4000000
namespace K33
open PySem L2 Vk
/-- what holds ahead of turn i of the walk -/
structure MI (K : PySem.W.Frag) (C : Addr) (Hg : Hp) (r : Rows) (ns : List Nat) (cr f : Addr) (L ld i : Nat) (sp : Addr) (s : Spot) (H' : Hp) : Prop where
  sm : Same Hg H'
  cw : Crw K C H' cr r
  fd : Fd H' f
  st : StT H' sp s
  iv : Inv0 r ns s
  pt : i ≤ L ∨ gt s.d 1 = 1 ∨ pot r ns s ld + (i - L) + 1 ≤ ns.sum + 5 * r.N
def spLaw (K : PySem.W.Frag) : Sp := fun vs H Q _ => ∃ (a : Addr) (ns : List Int), vs = [.ref a] ∧ SqL K H a (ns.map V.int) ∧ ns.length ≤ 63 ∧ ∀ H', Q (.bl true) H'
section
variable {P : Program} {w : World} {K : PySem.W.Frag} {mg : Str → Option Value} {base : Heap}
theorem ok_law {f C : Addr} {fd : FuncData} {k : Nat} (F : Fun K "law" "law" s_law f fd) (O_law_rows : Ok P w K mg base k "_law_rows" P_law_rows spRows) (O_law_cell : Ok P w K mg base k "_law_cell" P_law_cell (spCellv K)) (mlen : mg "len" = none) (O_law_need_row : Ok P w K mg base k "_law_need_row" P_law_need_row spNeed) (O_law_groups : Ok P w K mg base k "_law_groups" P_law_groups spGroups) (O_law_some : Ok P w K mg base k "_law_some" P_law_some spSome) (O_law_feed : Ok P w K mg base k "_law_feed" P_law_feed spFeed) (O_law_take : Ok P w K mg base k "_law_take" P_law_take spTake) (NCrew : OkNew P w K mg base k C "Crew" P_Crew_init (spInit K C)) (mlist : mg "list" = none) (Ostart_standing : Ok P w K mg base k "start_standing" P_start_standing (spStart K C)) (mrange : mg "range" = none) (msum : mg "sum" = none) (O_law_late : Ok P w K mg base k "_law_late" P_law_late spLate) (Owalk_tick : Ok P w K mg base k "walk_tick" P_walk_tick (spTick K C)) (O_law_tick_holds : Ok P w K mg base k "_law_tick_holds" P_law_tick_holds (spHolds K C)) (O_law_end_holds : Ok P w K mg base k "_law_end_holds" P_law_end_holds (spEnd K C)) : FnOk P w K mg base CX0 (k + 1) f fd P_law (spLaw K) := by
  refine F.ok sc_law (fun vs H Q E h => ?_) (fun cdv A outer s H vs Q E hr h => ?_)
  · obtain ⟨a, zs, rfl, _⟩ := h
    rfl
  obtain ⟨a, zs, rfl, hS, hzs, q⟩ := h
  refine ⟨_, (pss_cons (ps_set (i := 1) sc_law.nd rfl (Or.inl rfl) (pe_c O_law_rows hr (by rfl) (pa_cons (pe_c O_law_cell hr (by rfl) (pa_cons (pv 0) (pa_cons pe_int pa_nil))) pa_nil)))
    (pss_cons (ps_set (i := 2) sc_law.nd rfl (Or.inl rfl) (pe_op op_add (pe_callB (r := rLenS K) call_lenK (by rfl) mlen (by decide +kernel) (pa_cons (pe_ix (r := rIxL K) ix_list (pe_ix (r := rIxL K) ix_list (pv 1) pe_int (fun _ _ => rfl)) pe_int (fun _ _ => rfl)) pa_nil)) pe_int))
    (pss_cons (ps_set (i := 3) sc_law.nd rfl (Or.inr rfl) (pe_callB (r := rLenS K) call_lenK (by rfl) mlen (by decide +kernel) (pa_cons (pe_ix (r := rIxL K) ix_list (pv 1) pe_int (fun _ _ => rfl)) pa_nil)))
    (pss_cons (ps_set (i := 4) sc_law.nd rfl (Or.inl rfl) (pe_c O_law_need_row hr (by rfl) (pa_cons (pe_c O_law_cell hr (by rfl) (pa_cons (pv 0) (pa_cons pe_int pa_nil))) (pa_cons (pv 2) pa_nil))))
    (pss_cons (ps_set (i := 5) sc_law.nd rfl (Or.inl rfl) (pe_op op_cat (pe_c O_law_groups hr (by rfl) (pa_cons (pe_c O_law_cell hr (by rfl) (pa_cons (pv 0) (pa_cons pe_int pa_nil))) (pa_cons (pv 3) pa_nil))) (pe_lc (own := [("cell", 6)]) (g := (gName 6)) (tt := tYes) rfl sc_law.nd (pi_list (pe_slice (r := rSlL K) sl_list (pv 0) (po_some pe_int) (po_some pe_int))) (blkOk_by (N := N_law) (sc := defScope s_law) (by decide +kernel)) (fun _ _ _ _ _ => (pg_name (i := 6) sc_law.nd rfl (Or.inl rfl))) (fun _ _ _ _ _ => pts_nil) (fun _ _ _ _ _ => (pe_c O_law_some hr (by rfl) (pa_cons (pe_c O_law_feed hr (by rfl) (pa_cons (pv 6) pa_nil)) (pa_cons (pv 3) pa_nil)))))))
    (pss_cons (ps_set (i := 7) sc_law.nd rfl (Or.inl rfl) (pe_c O_law_feed hr (by rfl) (pa_cons (pe_c O_law_cell hr (by rfl) (pa_cons (pv 0) (pa_cons pe_int pa_nil))) pa_nil)))
    (pss_cons (ps_set (i := 8) sc_law.nd rfl (Or.inl rfl) (pe_c O_law_take hr (by rfl) (pa_cons (pv 7) (pa_cons pe_int pa_nil))))
    (pss_cons (ps_set (i := 9) sc_law.nd rfl (Or.inl rfl) (pe_c O_law_take hr (by rfl) (pa_cons (pv 7) (pa_cons (pv 3) pa_nil))))
    (pss_cons (ps_set (i := 10) sc_law.nd rfl (Or.inl rfl) (pe_new NCrew hr (by rfl) (pa_cons (pe_ix (r := rIxL K) ix_list (pv 1) pe_int (fun _ _ => rfl)) (pa_cons (pe_callTy (r := rListOf K) call_listK (by rfl) mlist (by decide +kernel) (pa_cons (pe_ix (r := rIxL K) ix_list (pv 1) pe_int (fun _ _ => rfl)) pa_nil)) (pa_cons (pe_lc (own := [("row", 11)]) (g := (gName 11)) (tt := tYes) rfl sc_law.nd (pi_list (pe_ix (r := rIxL K) ix_list (pv 1) pe_int (fun _ _ => rfl))) (blkOk_by (N := N_law) (sc := defScope s_law) (by decide +kernel)) (fun _ _ _ _ _ => (pg_name (i := 11) sc_law.nd rfl (Or.inl rfl))) (fun _ _ _ _ _ => pts_nil) (fun _ _ _ _ _ => (pe_callTy (r := rListOf K) call_listK (by rfl) mlist (by decide +kernel) (pa_cons (pv 11) pa_nil)))) pa_nil)))))
    (pss_cons (ps_set (i := 12) sc_law.nd rfl (Or.inl rfl) (pe_c Ostart_standing hr (by rfl) (pa_cons (pv 10) pa_nil)))
    (pss_cons (ps_for PassesOwn.never rfl (pi_range1 (by rfl) mrange (pa_cons (pe_op op_add (pe_op op_add (pe_callB (r := rLenS K) call_lenK (by rfl) mlen (by decide +kernel) (pa_cons (pv 5) pa_nil)) (pe_callB (r := rSum K) (cr_sum rfl) (by rfl) msum (by decide +kernel) (pa_cons (pv 4) pa_nil))) (pe_op op_mul pe_int (pv 2))) pa_nil)) (pg_name (i := 13) sc_law.nd rfl (Or.inl rfl))
      (C8.pss_cut (ps_if (pt_cmpR op_lt (pv 13) (pe_callB (r := rLenS K) call_lenK (by rfl) mlen (by decide +kernel) (pa_cons (pv 5) pa_nil)) (nomark _))
        (pss_one (ps_set (i := 14) sc_law.nd rfl (Or.inl rfl) (pe_ix (r := rIxL K) ix_list (pv 5) (pv 13) (fun _ _ => rfl))))
        (pss_one (ps_if (pt_cmpR op_eq (pe_ix (r := rIxT K) ix_tup (pe_ix (r := rIxT K) ix_tup (pv 12) pe_int (fun _ _ => rfl)) pe_int (fun _ _ => rfl)) pe_int (nomark _))
          (pss_one ps_break)
          (pss_one (ps_set (i := 14) sc_law.nd rfl (Or.inl rfl) (pe_c O_law_late hr (by rfl) (pa_cons (pv 7) (pa_cons (pv 3) (pa_cons (pv 8) (pa_cons (pv 9) pa_nil))))))))))
      (pss_cons (ps_set (i := 15) sc_law.nd rfl (Or.inl rfl) (pe_c Owalk_tick hr (by rfl) (pa_cons (pv 10) (pa_cons (pe_callTy (r := rListOf K) call_listK (by rfl) mlist (by decide +kernel) (pa_cons (pv 4) pa_nil)) (pa_cons (pv 12) (pa_cons (pe_callTy (r := rListOf K) call_listK (by rfl) mlist (by decide +kernel) (pa_cons (pv 14) pa_nil)) pa_nil))))))
      (pss_cons (ps_if (pt_not (pt_val (pe_c O_law_tick_holds hr (by rfl) (pa_cons (pv 10) (pa_cons (pv 4) (pa_cons (pv 12) (pa_cons (pv 14) (pa_cons (pv 15) pa_nil))))))))
        (pss_one (ps_ret pe_bl))
        pss_nil)
      (pss_one (ps_set (i := 12) sc_law.nd rfl (Or.inl rfl) (pv 15)))))))
    (pss_one (ps_ret (pe_and (pe_cmpR op_eq (pe_ix (r := rIxT K) ix_tup (pe_ix (r := rIxT K) ix_tup (pv 12) pe_int (fun _ _ => rfl)) pe_int (fun _ _ => rfl)) pe_int (nomark _)) (pe_one (pe_c O_law_end_holds hr (by rfl) (pa_cons (pv 10) (pa_cons (pv 4) (pa_cons (pv 12) (pa_cons (pv 9) pa_nil)))))))))))))))))))), ?_⟩
  refine ⟨_, rfl, a, zs, 0, rfl, hS, by decide, by decide, fun z0 => ⟨z0, rfl, fun p1 H1 r s1 hr k => ?_⟩⟩
  refine leavesOf rfl hr k ?_
  have hN := k.pos
  have P1 : 1 ≤ r.P := k.s1
  have P16 : r.P ≤ 16 := k.s16
  have hr' := hr
  obtain ⟨sa, la, as, ob, se, le, ro⟩ := hr'
  refine ⟨_, rfl, _, _, _, _, rfl, rfl, SqL.of ob, atI_nat (j := 1) rfl, sa, _, rfl, .inl (SqL.of se), ?_⟩
  have hc : (ni r.seats).length = r.P := ni_len _
  rw [hc]
  refine ⟨_, rfl, a, zs, 1, rfl, s1.seq hS, by decide, by decide, fun z1 => ⟨_, rfl, z1, r.N, rfl, by omega, by omega, fun nl H2 ns s2 fn en ln hn => ?_⟩⟩
  have s02 := s1.trans s2
  refine ⟨_, rfl, a, zs, 2, rfl, s02.seq hS, by decide, by decide, fun z2 => ⟨_, rfl, z2, r.P, rfl, P1, P16, fun g1 H3 as1 gs1 s3 e3 L3 l40 G3 => ?_⟩⟩
  have s03 := s02.trans s3
  refine ⟨_, rfl, 4, rfl, 63, rfl, a, _, rfl, s03.seq hS, fun sl hsl => ⟨sl, rfl, ⟨_, SqL.of upd_same⟩, ?_⟩⟩
  have s3b := same_new hsl (.lst (cutV (zs.map V.int) (some 4) (some 63)))
  have lcut : (cutV (zs.map V.int) (some 4) (some 63)).length ≤ 63 := Nat.le_trans (cutV_length _ _ _) (by rw [List.length_map]; exact hzs)
  refine lc_map (n := (cutV (zs.map V.int) (some 4) (some 63)).length) wk_list Same (trSame _) (fun H4 t => SqL.of (t _ _ upd_same)) (by omega)
    (fun D i y H => ∃ b g, y = .ref b ∧ Good r.P g ∧ H b = some (.lst (ni g)) ∧ b ≠ D) (fun D i y H1 H2 _ _ t ⟨b, g, e1, e2, e3, e4⟩ => ⟨b, g, e1, e2, t _ _ e3, e4⟩)
    (fun D i y H1 acc o _ _ ⟨b, g, e1, e2, e3, e4⟩ => ⟨b, g, e1, e2, upd_keep e3 e4, e4⟩) (fun D i H4 Qe hi hD t ⟨acc, ea, _⟩ qe => ?_) (fun g2 H5 ys hg2 s5 e5 hys hP => ?_)
  · obtain ⟨v, ev⟩ := get_of_lt hi
    obtain ⟨z, rfl⟩ := cut_int ev
    rw [getD_of ev]
    refine ⟨_, rfl, z, rfl, fun f Hf sf nf ff => ⟨_, rfl, f, r.P, rfl, ff, P1, P16, fun l H' g st fl el Gg => ?_⟩⟩
    exact qe _ _ (Stp.fresh st sf nf) ⟨l, g, rfl, Gg, el, (ne_of_none (sf _ _ ea) fl).symm⟩
  obtain ⟨as2, rfl, has2⟩ := refs_of (P := fun i b => ∃ g, Good r.P g ∧ H5 b = some (.lst (ni g))) ys fun i y hy => by
    obtain ⟨b, g, e1, e2, e3, _⟩ := hP i y hy
    exact ⟨b, e1, g, e2, e3⟩
  obtain ⟨gs2, L2', G2⟩ : ∃ gs2 : List (List Nat), LL (fun b g => H5 b = some (.lst (ni g))) as2 gs2 ∧ ∀ g ∈ gs2, Good r.P g := by
    have : ∀ (l : List Addr), (∀ b ∈ l, ∃ g, Good r.P g ∧ H5 b = some (.lst (ni g))) → ∃ gs2 : List (List Nat), LL (fun b g => H5 b = some (.lst (ni g))) l gs2 ∧ ∀ g ∈ gs2, Good r.P g := by
      intro l
      induction l with
      | nil => exact fun _ => ⟨[], LL.nil, fun g hg => by cases hg⟩
      | cons b l ih =>
        intro h
        obtain ⟨g, hg, eg⟩ := h b (List.mem_cons_self ..)
        obtain ⟨gs, L, G⟩ := ih fun b hb => h b (List.mem_cons_of_mem _ hb)
        refine ⟨g :: gs, ⟨by rw [List.length_cons, List.length_cons, L.len], fun i a r ha hr => ?_⟩, fun x hx => ?_⟩
        · cases i with
          | zero => cases ha; cases hr; exact eg
          | succ i => exact L.at_ i a r ha hr
        · rcases List.mem_cons.mp hx with h | h
          · exact h ▸ hg
          · exact G x h
    exact this as2 fun b hb => by
      obtain ⟨i, hi⟩ := List.getElem?_of_mem hb
      exact has2 i b hi
  have s35 := s3b.trans s5
  have l2 : as2.length ≤ 63 := by rw [← rf_len as2, hys]; exact lcut
  have l1 : as1.length ≤ 40 := by rw [L3.len]; exact l40
  refine ⟨g1, g2, _, _, rfl, rfl, s35 _ _ e3, e5, by rw [rf_len, rf_len]; exact Nat.le_of_lt (line1000 (m := 1000) (by omega) (by decide)), fun gp hgp => ?_⟩
  have s6 := same_new hgp (.lst (rf as1 ++ rf as2))
  have egp : (upd H5 gp (.lst (rf as1 ++ rf as2))) gp = some (.lst (rf (as1 ++ as2))) := by rw [upd_same, rf_app]
  have LGS : LL (fun b g => (upd H5 gp (.lst (rf as1 ++ rf as2))) b = some (.lst (ni g))) (as1 ++ as2) (gs1 ++ gs2) := LL.app (L3.mono fun _ _ h => s6 _ _ (s35 _ _ h)) (L2'.mono fun _ _ h => s6 _ _ h)
  have GGS : ∀ g ∈ gs1 ++ gs2, Good r.P g := fun g hg => (List.mem_append.mp hg).elim (G3 g) (G2 g)
  have LL_ := LGS.len
  have ll100 : (as1 ++ as2).length ≤ 103 := by rw [List.length_append]; omega
  have sg : Same H2 (upd H5 gp (.lst (rf as1 ++ rf as2))) := s3.trans (s35.trans s6)
  have eng := sg _ _ en
  have hrg := hr.same (s2.trans sg)
  have sag := (s2.trans sg)
  have s0g := s1.trans sag
  generalize (upd H5 gp (.lst (rf as1 ++ rf as2))) = Hg at *
  generalize (as1 ++ as2) = gas at *
  generalize (gs1 ++ gs2) = ggs at *
  refine ⟨_, rfl, a, zs, 3, rfl, s0g.seq hS, by decide, by decide, fun z3 => ⟨z3, rfl, fun f H7 s7 nf ff => ?_⟩⟩
  refine rd_takeN rfl ff (by decide) (by decide) fun style H8 hst s8 => ?_
  refine rd_takeV rfl rfl s8.2 (by omega) (by omega) fun ld H9 hld s9 => ?_
  have hld' : ld < r.P := by omega
  have sg9 : Same Hg H9 := Stp.fresh (s8.trans s9) s7 nf
  have ff9 : Fd H9 f := s9.2
  have ob9 := sg9 _ _ (sag _ _ ob)
  have se9 := sg9 _ _ (sag _ _ se)
  have le9 := sg9 _ _ (sag _ _ le)
  have ro9 := ro.mono fun _ _ h => sg9 _ _ (sag _ _ h)
  -- the crew
  refine ⟨_, rfl, _, _, _, _, rfl, rfl, SqL.of ob9, atI_nat (j := 0) rfl, ?_⟩
  refine ⟨_, rfl, _, _, _, _, rfl, rfl, SqL.of ob9, atI_nat (j := 1) rfl, sa, _, rfl, .inl (SqL.of se9), fun ls hls => ?_⟩
  have tA := same_new hls (.lst (ni r.seats))
  refine ⟨_, rfl, _, _, _, _, rfl, rfl, SqL.of (tA _ _ ob9), atI_nat (j := 2) rfl, la, rfl, ⟨_, SqL.of (tA _ _ le9)⟩, ?_⟩
  have llr : r.lean.length ≤ 16 := by rw [k.ll]; exact P16
  refine lc_copy (as := as) (cs := r.lean.map ni) (wk_list (xs := rf as)) (fun H1 t => SqL.of (t _ _ (tA _ _ le9))) (by rw [ro.len]; omega) ⟨by rw [List.length_map]; exact ro.len, fun i x c hx hc => ?_⟩ (by show 11 < 16; decide) fun ll HA bs hll tB eB ndB hbB LB => ?_
  · rw [List.getElem?_map] at hc
    obtain ⟨row, er, hrow⟩ := ro9.getL hx
    rw [er] at hc
    cases hc
    exact .inl (SqL.of (tA _ _ hrow))
  have LB2 : LL (fun b row => HA b = some (.lst (ni row))) bs r.lean := ⟨by rw [LB.len, List.length_map], fun i b row hb hrow => LB.at_ i b (ni row) hb (by rw [List.getElem?_map, hrow]; rfl)⟩
  intro x dx hx hdx ne
  have sC : Same HA (upd (upd HA dx (.own x)) x (.ins C dx [])) := (same_new hdx _).trans (same_new (by rw [upd_ne ne.symm]; exact hx) _)
  refine ⟨x, dx, r, ls, ll, bs, rfl, upd_same, k, .inl (SqL.of (sC _ _ (tB _ _ upd_same))), .inl (SqL.of (sC _ _ eB)), LB2.mono fun _ _ h => .inl (SqL.of (sC _ _ h)), fun HC keep crw => ⟨rfl, ?_⟩⟩
  have uC : Same HA HC := fun b o e => keep b o (ne_of_none e hx) (sC b o e)
  have tAC : Same H9 HC := tA.trans (tB.trans uC)
  have ffC := ff9.same tAC
  have sgC := sg9.trans tAC
  generalize x = cr at crw ⊢
  refine ⟨_, rfl, cr, r, rfl, crw, k, fun sp0 HE tE hst0 => ?_⟩
  have hn' : ∀ x, x < r.N → 1 ≤ gt ns x ∧ gt ns x ≤ 16 := fun x hx => hn _ (gt_mem (by omega))
  have iv0 : Inv0 r ns (startF r) := start_inv k fun x hx => (hn' x hx).1
  have hf0 : Hg f = none := nf
  have sgE := sgC.trans tE
  refine ⟨_, rfl, gp, _, rfl, .inl (SqL.of (sgE _ _ egp)), _, rfl, nl, _, rfl, SqL.of (by rw [← ni_ints]; exact sgE _ _ eng), _, _, rfl, rfl, _, rfl, _, _, rfl, rfl, .inl ⟨by decide, by decide⟩, _, _, rfl, rfl, ?_⟩
  have esum : (((rf gas).length : Nat) : Int) + ((ns.map fun n : Nat => (n : Int)).sum) + 5 * ((r.N : Nat) : Int) = ((gas.length + (ns.sum + 5 * r.N) : Nat) : Int) := by
    rw [sum_cast, rf_len]
    omega
  have hsum : ns.sum ≤ 16 * 16 := by
    have : ∀ (l : List Nat), (∀ x ∈ l, 1 ≤ x ∧ x ≤ 16) → l.sum ≤ 16 * l.length := by
      intro l
      induction l with
      | nil => exact fun _ => Nat.le_refl _
      | cons x l ih =>
        intro h
        have h1 := ih fun y hy => h y (List.mem_cons_of_mem _ hy)
        have h2 := h x (List.mem_cons_self ..)
        rw [List.sum_cons, List.length_cons]
        omega
    have h2 := this ns hn
    omega
  refine ⟨((gas.length + (ns.sum + 5 * r.N) : Nat) : Int), congrArg (fun z => [V.int z]) esum, by omega, by omega, ?_⟩
  rw [Int.toNat_natCast]
  refine for_range0 (n := gas.length + (ns.sum + 5 * r.N)) (fun i σ H' => ∃ y6 y11 y13 y14 y15 sp s, σ = [some (.ref a), some (.ref p1), some (.int (r.N : Int)), some (.int (r.P : Int)), some (.ref nl), some (.ref gp), y6, some (.ref f), some (.int (style : Int)), some (.int (ld : Int)), some (.ref cr), y11, some (.ref sp), y13, y14, y15] ∧ MI K C Hg r ns cr f gas.length ld i sp s H')
    ⟨_, _, _, _, _, sp0, startF r, rfl, ⟨sgE, crw.same tE, ffC.same tE, hst0, iv0, .inl (Nat.zero_le _)⟩⟩ (fun i σ H' hi hp => ?_) (fun σ H' hp => ?_)
  · obtain ⟨y6, y11, y13, y14, y15, sp, s, rfl, M⟩ := hp
    obtain ⟨sm, cw, fd', st, iv, pt⟩ := M
    have egp' := sm _ _ egp
    have fx : ∀ {b o}, Hg b = some o → b ≠ f := fun {b o} e => ne_of_none e hf0
    refine ⟨fun σ' H2 => ∃ gr g, σ' = [some (.ref a), some (.ref p1), some (.int (r.N : Int)), some (.int (r.P : Int)), some (.ref nl), some (.ref gp), y6, some (.ref f), some (.int (style : Int)), some (.int (ld : Int)), some (.ref cr), y11, some (.ref sp), some (.int (i : Int)), some (.ref gr), y15] ∧ Stp f H' H2 ∧
      H2 gr = some (.lst (ni g)) ∧ Good r.P g ∧ (i < gas.length ∨ (gt s.d 1 ≠ 1 ∧ ld ∈ g)), ?_, fun σ' H2 hm => ?_⟩
    · refine ⟨_, rfl, _, rfl, gp, _, rfl, .inl (SqL.of egp'), _, _, rfl, rfl, _, rfl, itD (fun c => ?_) (fun c => ?_)⟩
      · rw [rf_len] at c
        obtain ⟨gr, egr⟩ := get_of_lt (xs := gas) (i := i) (by omega)
        obtain ⟨g, eg, hg⟩ := LGS.getL egr
        refine ⟨_, rfl, _, rfl, _, _, _, _, rfl, rfl, SqL.of egp', atI_nat (rf_get egr), ?_⟩
        exact ⟨gr, g, rfl, Stp.refl fd', sm _ _ hg, GGS g (mem_of_get eg), .inl (by omega)⟩
      · rw [rf_len] at c
        obtain ⟨x, y, z, h1, h2, h3, h4⟩ := id st
        refine ⟨_, rfl, _, _, _, _, rfl, rfl, SqT.of h1, atI_nat (j := 0) rfl, _, _, _, _, rfl, rfl, SqT.of h2, ni_atE (i := 1) rfl (gt_get (by have := iv.ok.ld; omega)), rfl, _, rfl, iteI (fun d => ?_) (fun d => ?_)⟩
        · have hd : gt s.d 1 = 1 := by omega
          obtain ⟨x, y, z, h1, h2, h3, h4⟩ := id st
          have ldd := iv.ok.ld
          refine ⟨_, rfl, _, _, _, _, rfl, rfl, SqT.of h1, atI_nat (j := 0) rfl, _, _, _, _, rfl, rfl, SqT.of h2, ni_atE (i := 1) rfl (gt_get (by omega)), rfl, _, rfl, iteI (fun _ => ?_) (fun c => absurd (congrArg Int.ofNat hd) c)⟩
          exact ⟨_, rfl, _, rfl, _, rfl, _, rfl, cr, nl, sp, ld, r, ns, s, rfl, cw, k, sm _ _ eng, ln, st, iv.ok, hd, hld', q⟩
        · refine ⟨_, rfl, _, rfl, _, rfl, _, rfl, f, r.P, style, ld, rfl, fd', P1, P16, hld', fun l H3 g st3 fl el Gg hm => ?_⟩
          exact ⟨l, g, rfl, st3, el, Gg, .inr ⟨fun e => d (by rw [e]; rfl), hm⟩⟩
    obtain ⟨gr, g, rfl, sF, egr, Gg, hph⟩ := hm
    have lg := Gg.len
    have sm2 : Same Hg H2 := fun b o e => sF.1 _ _ (fx e) (sm b o e)
    have cw2 := cw.stp fd' sF
    have st2 := st.stp fd' sF
    refine ⟨_, rfl, _, rfl, nl, _, rfl, .inl (SqL.of (sm2 _ _ eng)), fun m1 hm1 => ?_⟩
    have u1 := same_new hm1 (.lst (ni ns))
    refine ⟨_, rfl, _, rfl, gr, _, rfl, .inl (SqL.of (u1 _ _ egr)), fun m2 hm2 => ?_⟩
    have u2 := u1.trans (same_new hm2 (.lst (ni g)))
    refine ⟨cr, m1, sp, m2, r, ns, s, g, rfl, cw2.same u2, k, .inl (SqL.of (same_new hm2 _ _ _ upd_same)), ln, st2.same u2, iv.ok, .inl (SqL.of upd_same), Gg.lt, by omega, fun u H3 s3 hu => ?_⟩
    have u3 := u2.trans s3
    have TK := tk_all (ns := ns) k iv.ok Gg.lt
    generalize et : tickF r ns s g = t at TK hu
    refine ⟨_, rfl, _, rfl, _, rfl, _, rfl, _, rfl, cr, nl, sp, gr, u, r, ns, s, t, g, rfl, cw2.same u3, k, u3 _ _ (sm2 _ _ eng), ln, st2.same u3, hu, iv, u3 _ _ egr, Gg, et.symm, fun H4 s4 => ⟨_, rfl, iteF ?_⟩⟩
    have u4 := u3.trans s4
    refine ⟨_, rfl, _, _, _, _, _, u, t, rfl, ⟨sm2.trans u4, cw2.same u4, sF.2.same u4, hu.same s4, tk_inv k iv TK, ?_⟩⟩
    by_cases c : i + 1 ≤ gas.length
    · exact .inl c
    · right
      by_cases hd : gt s.d 1 = 1
      · exact .inl (d_stays k TK hd)
      · right
        rcases hph with h | h
        · omega
        · have dec := pot_dec k iv TK hd hld' h.2
          have bnd := pot_le (s := s) (w := ld) k ln
          rcases pt with h | h | h
          · omega
          · exact absurd h hd
          · omega
  · obtain ⟨y6, y11, y13, y14, y15, sp, s, rfl, M⟩ := hp
    obtain ⟨sm, cw, fd', st, iv, pt⟩ := M
    have hd : gt s.d 1 = 1 := by
      rcases pt with h | h | h
      · omega
      · exact h
      · omega
    obtain ⟨x, y, z, h1, h2, h3, h4⟩ := id st
    have ldd := iv.ok.ld
    refine ⟨_, rfl, _, _, _, _, rfl, rfl, SqT.of h1, atI_nat (j := 0) rfl, _, _, _, _, rfl, rfl, SqT.of h2, ni_atE (i := 1) rfl (gt_get (by omega)), rfl, _, rfl, iteI (fun _ => ?_) (fun c => absurd (congrArg Int.ofNat hd) c)⟩
    exact ⟨_, rfl, _, rfl, _, rfl, _, rfl, cr, nl, sp, ld, r, ns, s, rfl, cw, k, sm _ _ eng, ln, st, iv.ok, hd, hld', q⟩
end
end K33
namespace K33
open PySem L2 Vk
theorem none_ok' : True := trivial
set_option maxHeartbeats 0 in
theorem all_mk {l : PySem.W.OpenLaw} {w : World} {K : PySem.W.Frag} {h : Heap} {mg : Str → Option Value} {fa f0 f1 f2 f3 f4 f5 f6 f7 f8 f9 f10 f11 f12 f13 f14 f15 f16 f17 f18 f19 f20 f21 f22 f23 f24 f25 f26 f27 f28 CCrew p12 p13: Addr} (X : K.In h) (G : h.Ns mainGlobals mg) (hfa : mg "law" = some (.ref fa))
    {od0 an0 od1 an1 od2 an2 od3 an3 od4 an4 od5 an5 od6 an6 od7 an7 od8 an8 od9 an9 od10 an10 od11 an11 od12 an12 od13 an13 od14 an14 od15 an15 od16 an16 od17 an17 od18 an18 od19 an19 od20 an20 od21 an21 od22 an22 od23 an23 od24 an24 od25 an25 od26 an26 od27 an27 od28 an28 : Option Addr} {sl0 sl1 sl2 sl3 sl4 sl5 sl6 sl7 sl8 sl9 sl10 sl11 sl12 sl13 sl14 sl15 sl16 sl17 sl18 sl19 sl20 sl21 sl22 sl23 sl24 sl25 sl26 sl27 sl28 : Array (Option Value)} {oc0 kV0 dc0 pm0 cd0 ct0 oc1 kV1 dc1 pm1 cd1 ct1 oc2 kV2 dc2 pm2 cd2 ct2 oc3 kV3 dc3 pm3 cd3 ct3 oc4 kV4 dc4 pm4 cd4 ct4 oc5 kV5 dc5 pm5 cd5 ct5 oc6 kV6 dc6 pm6 cd6 ct6 oc7 kV7 dc7 pm7 cd7 ct7 oc8 kV8 dc8 pm8 cd8 ct8 oc9 kV9 dc9 pm9 cd9 ct9 oc10 kV10 dc10 pm10 cd10 ct10 oc11 kV11 dc11 pm11 cd11 ct11 oc12 kV12 dc12 pm12 cd12 ct12 oc13 kV13 dc13 pm13 cd13 ct13 oc14 kV14 dc14 pm14 cd14 ct14 oc15 kV15 dc15 pm15 cd15 ct15 oc16 kV16 dc16 pm16 cd16 ct16 oc17 kV17 dc17 pm17 cd17 ct17 oc18 kV18 dc18 pm18 cd18 ct18 oc19 kV19 dc19 pm19 cd19 ct19 oc20 kV20 dc20 pm20 cd20 ct20 oc21 kV21 dc21 pm21 cd21 ct21 oc22 kV22 dc22 pm22 cd22 ct22 oc23 kV23 dc23 pm23 cd23 ct23 oc24 kV24 dc24 pm24 cd24 ct24 oc25 kV25 dc25 pm25 cd25 ct25 oc26 kV26 dc26 pm26 cd26 ct26 oc27 kV27 dc27 pm27 cd27 ct27 oc28 kV28 dc28 pm28 cd28 ct28 : Value}
    {tMOST_HEIGHT tMOST_WORKERS : Tok}
    {rs12 rs13 : List Value}
    (aCCrew : PySem.W.nsIn K mainGlobals "Crew" = some (some (.ref CCrew)))
    (a0 : PySem.W.nsIn K mainGlobals "_law_feed" = some (some (.ref f0)))
    (l0 : K.lookup f0 = some ⟨oc0, od0, .func (PySem.W.fnOf "_law_feed" "_law_feed" (defArgs s_law_feed) (defBody s_law_feed) (defScope s_law_feed) .none kV0 dc0 pm0 an0 cd0 ct0), sl0⟩) (c0 : PySem.W.codeIn K cd0 "_law_feed" = true) (k0 : PySem.W.keepIn K (.ref f0) = true)
    (a1 : PySem.W.nsIn K mainGlobals "_law_take" = some (some (.ref f1)))
    (l1 : K.lookup f1 = some ⟨oc1, od1, .func (PySem.W.fnOf "_law_take" "_law_take" (defArgs s_law_take) (defBody s_law_take) (defScope s_law_take) .none kV1 dc1 pm1 an1 cd1 ct1), sl1⟩) (c1 : PySem.W.codeIn K cd1 "_law_take" = true) (k1 : PySem.W.keepIn K (.ref f1) = true)
    (a2 : PySem.W.nsIn K mainGlobals "_law_crew" = some (some (.ref f2)))
    (l2 : K.lookup f2 = some ⟨oc2, od2, .func (PySem.W.fnOf "_law_crew" "_law_crew" (defArgs s_law_crew) (defBody s_law_crew) (defScope s_law_crew) .none kV2 dc2 pm2 an2 cd2 ct2), sl2⟩) (c2 : PySem.W.codeIn K cd2 "_law_crew" = true) (k2 : PySem.W.keepIn K (.ref f2) = true)
    (a3 : PySem.W.nsIn K mainGlobals "_law_rows" = some (some (.ref f3)))
    (l3 : K.lookup f3 = some ⟨oc3, od3, .func (PySem.W.fnOf "_law_rows" "_law_rows" (defArgs s_law_rows) (defBody s_law_rows) (defScope s_law_rows) .none kV3 dc3 pm3 an3 cd3 ct3), sl3⟩) (c3 : PySem.W.codeIn K cd3 "_law_rows" = true) (k3 : PySem.W.keepIn K (.ref f3) = true)
    (a4 : PySem.W.nsIn K mainGlobals "_law_cell" = some (some (.ref f4)))
    (l4 : K.lookup f4 = some ⟨oc4, od4, .func (PySem.W.fnOf "_law_cell" "_law_cell" (defArgs s_law_cell) (defBody s_law_cell) (defScope s_law_cell) .none kV4 dc4 pm4 an4 cd4 ct4), sl4⟩) (c4 : PySem.W.codeIn K cd4 "_law_cell" = true) (k4 : PySem.W.keepIn K (.ref f4) = true)
    (a5 : PySem.W.nsIn K mainGlobals "_law_need_row" = some (some (.ref f5)))
    (l5 : K.lookup f5 = some ⟨oc5, od5, .func (PySem.W.fnOf "_law_need_row" "_law_need_row" (defArgs s_law_need_row) (defBody s_law_need_row) (defScope s_law_need_row) .none kV5 dc5 pm5 an5 cd5 ct5), sl5⟩) (c5 : PySem.W.codeIn K cd5 "_law_need_row" = true) (k5 : PySem.W.keepIn K (.ref f5) = true)
    (a6 : PySem.W.nsIn K mainGlobals "_law_some" = some (some (.ref f6)))
    (l6 : K.lookup f6 = some ⟨oc6, od6, .func (PySem.W.fnOf "_law_some" "_law_some" (defArgs s_law_some) (defBody s_law_some) (defScope s_law_some) .none kV6 dc6 pm6 an6 cd6 ct6), sl6⟩) (c6 : PySem.W.codeIn K cd6 "_law_some" = true) (k6 : PySem.W.keepIn K (.ref f6) = true)
    (a7 : PySem.W.nsIn K mainGlobals "_law_groups" = some (some (.ref f7)))
    (l7 : K.lookup f7 = some ⟨oc7, od7, .func (PySem.W.fnOf "_law_groups" "_law_groups" (defArgs s_law_groups) (defBody s_law_groups) (defScope s_law_groups) .none kV7 dc7 pm7 an7 cd7 ct7), sl7⟩) (c7 : PySem.W.codeIn K cd7 "_law_groups" = true) (k7 : PySem.W.keepIn K (.ref f7) = true)
    (a8 : PySem.W.nsIn K mainGlobals "_is_height" = some (some (.ref f8)))
    (l8 : K.lookup f8 = some ⟨oc8, od8, .func (PySem.W.fnOf "_is_height" "_is_height" (defArgs s_is_height) (defBody s_is_height) (defScope s_is_height) .none kV8 dc8 pm8 an8 cd8 ct8), sl8⟩) (c8 : PySem.W.codeIn K cd8 "_is_height" = true) (k8 : PySem.W.keepIn K (.ref f8) = true)
    (a9 : PySem.W.nsIn K mainGlobals "_are_seats" = some (some (.ref f9)))
    (l9 : K.lookup f9 = some ⟨oc9, od9, .func (PySem.W.fnOf "_are_seats" "_are_seats" (defArgs s_are_seats) (defBody s_are_seats) (defScope s_are_seats) .none kV9 dc9 pm9 an9 cd9 ct9), sl9⟩) (c9 : PySem.W.codeIn K cd9 "_are_seats" = true) (k9 : PySem.W.keepIn K (.ref f9) = true)
    (a10 : PySem.W.nsIn K mainGlobals "_are_leanings" = some (some (.ref f10)))
    (l10 : K.lookup f10 = some ⟨oc10, od10, .func (PySem.W.fnOf "_are_leanings" "_are_leanings" (defArgs s_are_leanings) (defBody s_are_leanings) (defScope s_are_leanings) .none kV10 dc10 pm10 an10 cd10 ct10), sl10⟩) (c10 : PySem.W.codeIn K cd10 "_are_leanings" = true) (k10 : PySem.W.keepIn K (.ref f10) = true)
    (a11 : PySem.W.findIn K (.ref CCrew) "__init__" = some (some (.ref f11))) (i11 : PySem.W.isFn K (.ref f11) = true) (mk11 : PySem.W.makesIn K CCrew = true) (kc11 : PySem.W.keepIn K (.ref CCrew) = true)
    (l11 : K.lookup f11 = some ⟨oc11, od11, .func (PySem.W.fnOf "__init__" "Crew.__init__" (defArgs s_Crew_init) (defBody s_Crew_init) (defScope s_Crew_init) .none kV11 dc11 pm11 an11 cd11 ct11), sl11⟩) (c11 : PySem.W.codeIn K cd11 "Crew.__init__" = true) (k11 : PySem.W.keepIn K (.ref f11) = true)
    (a12 : PySem.W.findIn K (.ref CCrew) "leaves" = some (some (.ref p12))) (g12 : PySem.W.specialIn K (.ref p12) "__get__" = some (some (.builtin "property.__get__"))) (h12 : PySem.W.takesIn K (.ref p12) = some true) (r12 : PySem.W.recIn K p12 "property" = some (.ref f12 :: rs12))
    (l12 : K.lookup f12 = some ⟨oc12, od12, .func (PySem.W.fnOf "leaves" "Crew.leaves" (defArgs s_Crew_leaves) (defBody s_Crew_leaves) (defScope s_Crew_leaves) .none kV12 dc12 pm12 an12 cd12 ct12), sl12⟩) (c12 : PySem.W.codeIn K cd12 "Crew.leaves" = true) (k12 : PySem.W.keepIn K (.ref f12) = true)
    (a13 : PySem.W.findIn K (.ref CCrew) "workers" = some (some (.ref p13))) (g13 : PySem.W.specialIn K (.ref p13) "__get__" = some (some (.builtin "property.__get__"))) (h13 : PySem.W.takesIn K (.ref p13) = some true) (r13 : PySem.W.recIn K p13 "property" = some (.ref f13 :: rs13))
    (l13 : K.lookup f13 = some ⟨oc13, od13, .func (PySem.W.fnOf "workers" "Crew.workers" (defArgs s_Crew_workers) (defBody s_Crew_workers) (defScope s_Crew_workers) .none kV13 dc13 pm13 an13 cd13 ct13), sl13⟩) (c13 : PySem.W.codeIn K cd13 "Crew.workers" = true) (k13 : PySem.W.keepIn K (.ref f13) = true)
    (a14 : PySem.W.nsIn K mainGlobals "start_standing" = some (some (.ref f14)))
    (l14 : K.lookup f14 = some ⟨oc14, od14, .func (PySem.W.fnOf "start_standing" "start_standing" (defArgs s_start_standing) (defBody s_start_standing) (defScope s_start_standing) .none kV14 dc14 pm14 an14 cd14 ct14), sl14⟩) (c14 : PySem.W.codeIn K cd14 "start_standing" = true) (k14 : PySem.W.keepIn K (.ref f14) = true)
    (a15 : PySem.W.nsIn K mainGlobals "_law_late" = some (some (.ref f15)))
    (l15 : K.lookup f15 = some ⟨oc15, od15, .func (PySem.W.fnOf "_law_late" "_law_late" (defArgs s_law_late) (defBody s_law_late) (defScope s_law_late) .none kV15 dc15 pm15 an15 cd15 ct15), sl15⟩) (c15 : PySem.W.codeIn K cd15 "_law_late" = true) (k15 : PySem.W.keepIn K (.ref f15) = true)
    (a16 : PySem.W.nsIn K mainGlobals "is_over" = some (some (.ref f16)))
    (l16 : K.lookup f16 = some ⟨oc16, od16, .func (PySem.W.fnOf "is_over" "is_over" (defArgs s_is_over) (defBody s_is_over) (defScope s_is_over) .none kV16 dc16 pm16 an16 cd16 ct16), sl16⟩) (c16 : PySem.W.codeIn K cd16 "is_over" = true) (k16 : PySem.W.keepIn K (.ref f16) = true)
    (a17 : PySem.W.nsIn K mainGlobals "seat_node" = some (some (.ref f17)))
    (l17 : K.lookup f17 = some ⟨oc17, od17, .func (PySem.W.fnOf "seat_node" "seat_node" (defArgs s_seat_node) (defBody s_seat_node) (defScope s_seat_node) .none kV17 dc17 pm17 an17 cd17 ct17), sl17⟩) (c17 : PySem.W.codeIn K cd17 "seat_node" = true) (k17 : PySem.W.keepIn K (.ref f17) = true)
    (a18 : PySem.W.nsIn K mainGlobals "leaning_child" = some (some (.ref f18)))
    (l18 : K.lookup f18 = some ⟨oc18, od18, .func (PySem.W.fnOf "leaning_child" "leaning_child" (defArgs s_leaning_child) (defBody s_leaning_child) (defScope s_leaning_child) .none kV18 dc18 pm18 an18 cd18 ct18), sl18⟩) (c18 : PySem.W.codeIn K cd18 "leaning_child" = true) (k18 : PySem.W.keepIn K (.ref f18) = true)
    (a19 : PySem.W.nsIn K mainGlobals "child_below" = some (some (.ref f19)))
    (l19 : K.lookup f19 = some ⟨oc19, od19, .func (PySem.W.fnOf "child_below" "child_below" (defArgs s_child_below) (defBody s_child_below) (defScope s_child_below) .none kV19 dc19 pm19 an19 cd19 ct19), sl19⟩) (c19 : PySem.W.codeIn K cd19 "child_below" = true) (k19 : PySem.W.keepIn K (.ref f19) = true)
    (a20 : PySem.W.nsIn K mainGlobals "walk_turn" = some (some (.ref f20)))
    (l20 : K.lookup f20 = some ⟨oc20, od20, .func (PySem.W.fnOf "walk_turn" "walk_turn" (defArgs s_walk_turn) (defBody s_walk_turn) (defScope s_walk_turn) .none kV20 dc20 pm20 an20 cd20 ct20), sl20⟩) (c20 : PySem.W.codeIn K cd20 "walk_turn" = true) (k20 : PySem.W.keepIn K (.ref f20) = true)
    (a21 : PySem.W.nsIn K mainGlobals "walk_tick" = some (some (.ref f21)))
    (l21 : K.lookup f21 = some ⟨oc21, od21, .func (PySem.W.fnOf "walk_tick" "walk_tick" (defArgs s_walk_tick) (defBody s_walk_tick) (defScope s_walk_tick) .none kV21 dc21 pm21 an21 cd21 ct21), sl21⟩) (c21 : PySem.W.codeIn K cd21 "walk_tick" = true) (k21 : PySem.W.keepIn K (.ref f21) = true)
    (a22 : PySem.W.nsIn K mainGlobals "_law_is_one_change" = some (some (.ref f22)))
    (l22 : K.lookup f22 = some ⟨oc22, od22, .func (PySem.W.fnOf "_law_is_one_change" "_law_is_one_change" (defArgs s_law_is_one_change) (defBody s_law_is_one_change) (defScope s_law_is_one_change) .none kV22 dc22 pm22 an22 cd22 ct22), sl22⟩) (c22 : PySem.W.codeIn K cd22 "_law_is_one_change" = true) (k22 : PySem.W.keepIn K (.ref f22) = true)
    (a23 : PySem.W.nsIn K mainGlobals "_law_is_joined" = some (some (.ref f23)))
    (l23 : K.lookup f23 = some ⟨oc23, od23, .func (PySem.W.fnOf "_law_is_joined" "_law_is_joined" (defArgs s_law_is_joined) (defBody s_law_is_joined) (defScope s_law_is_joined) .none kV23 dc23 pm23 an23 cd23 ct23), sl23⟩) (c23 : PySem.W.codeIn K cd23 "_law_is_joined" = true) (k23 : PySem.W.keepIn K (.ref f23) = true)
    (a24 : PySem.W.nsIn K mainGlobals "_law_whole" = some (some (.ref f24)))
    (l24 : K.lookup f24 = some ⟨oc24, od24, .func (PySem.W.fnOf "_law_whole" "_law_whole" (defArgs s_law_whole) (defBody s_law_whole) (defScope s_law_whole) .none kV24 dc24 pm24 an24 cd24 ct24), sl24⟩) (c24 : PySem.W.codeIn K cd24 "_law_whole" = true) (k24 : PySem.W.keepIn K (.ref f24) = true)
    (a25 : PySem.W.nsIn K mainGlobals "_law_marks_hold" = some (some (.ref f25)))
    (l25 : K.lookup f25 = some ⟨oc25, od25, .func (PySem.W.fnOf "_law_marks_hold" "_law_marks_hold" (defArgs s_law_marks_hold) (defBody s_law_marks_hold) (defScope s_law_marks_hold) .none kV25 dc25 pm25 an25 cd25 ct25), sl25⟩) (c25 : PySem.W.codeIn K cd25 "_law_marks_hold" = true) (k25 : PySem.W.keepIn K (.ref f25) = true)
    (a26 : PySem.W.nsIn K mainGlobals "_law_tick_holds" = some (some (.ref f26)))
    (l26 : K.lookup f26 = some ⟨oc26, od26, .func (PySem.W.fnOf "_law_tick_holds" "_law_tick_holds" (defArgs s_law_tick_holds) (defBody s_law_tick_holds) (defScope s_law_tick_holds) .none kV26 dc26 pm26 an26 cd26 ct26), sl26⟩) (c26 : PySem.W.codeIn K cd26 "_law_tick_holds" = true) (k26 : PySem.W.keepIn K (.ref f26) = true)
    (a27 : PySem.W.nsIn K mainGlobals "_law_end_holds" = some (some (.ref f27)))
    (l27 : K.lookup f27 = some ⟨oc27, od27, .func (PySem.W.fnOf "_law_end_holds" "_law_end_holds" (defArgs s_law_end_holds) (defBody s_law_end_holds) (defScope s_law_end_holds) .none kV27 dc27 pm27 an27 cd27 ct27), sl27⟩) (c27 : PySem.W.codeIn K cd27 "_law_end_holds" = true) (k27 : PySem.W.keepIn K (.ref f27) = true)
    (a28 : PySem.W.nsIn K mainGlobals "law" = some (some (.ref f28)))
    (l28 : K.lookup f28 = some ⟨oc28, od28, .func (PySem.W.fnOf "law" "law" (defArgs s_law) (defBody s_law) (defScope s_law) .none kV28 dc28 pm28 an28 cd28 ct28), sl28⟩) (c28 : PySem.W.codeIn K cd28 "law" = true) (k28 : PySem.W.keepIn K (.ref f28) = true)
    (pg : PySem.W.plainGet K CCrew Str.empty = true)
    (hd : PySem.W.hasDictIn K CCrew = true)
    (po : PySem.W.plainOver K CCrew = true)
    (sa : PySem.W.findIn K (.ref CCrew) "__setattr__" = some (some (.builtin "object.__setattr__")))
    (nH : PySem.W.findIn K (.ref CCrew) "height" = some none)
    (nS : PySem.W.findIn K (.ref CCrew) "seats" = some none)
    (nL : PySem.W.findIn K (.ref CCrew) "leanings" = some none)
    (qMOST_HEIGHT : PySem.W.nsIn K mainGlobals "MOST_HEIGHT" = some (some (.int 4 tMOST_HEIGHT)))
    (qMOST_WORKERS : PySem.W.nsIn K mainGlobals "MOST_WORKERS" = some (some (.int 16 tMOST_WORKERS)))
    (zint : PySem.W.nsIn K mainGlobals "int" = some none)
    (zmin : PySem.W.nsIn K mainGlobals "min" = some none)
    (zrange : PySem.W.nsIn K mainGlobals "range" = some none)
    (zlen : PySem.W.nsIn K mainGlobals "len" = some none)
    (zlist : PySem.W.nsIn K mainGlobals "list" = some none)
    (zall : PySem.W.nsIn K mainGlobals "all" = some none)
    (ztuple : PySem.W.nsIn K mainGlobals "tuple" = some none)
    (zmax : PySem.W.nsIn K mainGlobals "max" = some none)
    (zisinstance : PySem.W.nsIn K mainGlobals "isinstance" = some none)
    (zbool : PySem.W.nsIn K mainGlobals "bool" = some none)
    (zsum : PySem.W.nsIn K mainGlobals "sum" = some none) :
    ∃ fd : FuncData, (∀ (s : Shared) (v : Value), BindsTo s fd ⟨[v], []⟩ [("script", v)]) ∧ ∀ base : Heap, K.In base → base.Ns mainGlobals mg → FnOk l.prog w K mg base CX0 8 fa fd ["script"] (spLaw K) := by
  have e := hfa.symm.trans (PySem.W.mg_of X G a28)
  cases e
  have F_law_feed := fun_mk (st := s_law_feed) l0 c0 k0
  have b_law_feed := F_law_feed.binds (ps := P_law_feed) fun _ _ _ _ _ _ us hl => match us, hl with | [_], _ => rfl
  have m_law_feed := PySem.W.mg_of X G a0
  have F_law_take := fun_mk (st := s_law_take) l1 c1 k1
  have b_law_take := F_law_take.binds (ps := P_law_take) fun _ _ _ _ _ _ us hl => match us, hl with | [_, _], _ => rfl
  have m_law_take := PySem.W.mg_of X G a1
  have F_law_crew := fun_mk (st := s_law_crew) l2 c2 k2
  have b_law_crew := F_law_crew.binds (ps := P_law_crew) fun _ _ _ _ _ _ us hl => match us, hl with | [_, _, _], _ => rfl
  have m_law_crew := PySem.W.mg_of X G a2
  have F_law_rows := fun_mk (st := s_law_rows) l3 c3 k3
  have b_law_rows := F_law_rows.binds (ps := P_law_rows) fun _ _ _ _ _ _ us hl => match us, hl with | [_], _ => rfl
  have m_law_rows := PySem.W.mg_of X G a3
  have F_law_cell := fun_mk (st := s_law_cell) l4 c4 k4
  have b_law_cell := F_law_cell.binds (ps := P_law_cell) fun _ _ _ _ _ _ us hl => match us, hl with | [_, _], _ => rfl
  have m_law_cell := PySem.W.mg_of X G a4
  have F_law_need_row := fun_mk (st := s_law_need_row) l5 c5 k5
  have b_law_need_row := F_law_need_row.binds (ps := P_law_need_row) fun _ _ _ _ _ _ us hl => match us, hl with | [_, _], _ => rfl
  have m_law_need_row := PySem.W.mg_of X G a5
  have F_law_some := fun_mk (st := s_law_some) l6 c6 k6
  have b_law_some := F_law_some.binds (ps := P_law_some) fun _ _ _ _ _ _ us hl => match us, hl with | [_, _], _ => rfl
  have m_law_some := PySem.W.mg_of X G a6
  have F_law_groups := fun_mk (st := s_law_groups) l7 c7 k7
  have b_law_groups := F_law_groups.binds (ps := P_law_groups) fun _ _ _ _ _ _ us hl => match us, hl with | [_, _], _ => rfl
  have m_law_groups := PySem.W.mg_of X G a7
  have F_is_height := fun_mk (st := s_is_height) l8 c8 k8
  have b_is_height := F_is_height.binds (ps := P_is_height) fun _ _ _ _ _ _ us hl => match us, hl with | [_], _ => rfl
  have m_is_height := PySem.W.mg_of X G a8
  have F_are_seats := fun_mk (st := s_are_seats) l9 c9 k9
  have b_are_seats := F_are_seats.binds (ps := P_are_seats) fun _ _ _ _ _ _ us hl => match us, hl with | [_, _], _ => rfl
  have m_are_seats := PySem.W.mg_of X G a9
  have F_are_leanings := fun_mk (st := s_are_leanings) l10 c10 k10
  have b_are_leanings := F_are_leanings.binds (ps := P_are_leanings) fun _ _ _ _ _ _ us hl => match us, hl with | [_, _], _ => rfl
  have m_are_leanings := PySem.W.mg_of X G a10
  have F_Crew_init := fun_mk (st := s_Crew_init) l11 c11 k11
  have b_Crew_init := F_Crew_init.binds (ps := P_Crew_init) fun _ _ _ _ _ _ us hl => match us, hl with | [_, _, _, _], _ => rfl
  have F_Crew_leaves := fun_mk (st := s_Crew_leaves) l12 c12 k12
  have b_Crew_leaves := F_Crew_leaves.binds (ps := P_Crew_leaves) fun _ _ _ _ _ _ us hl => match us, hl with | [_], _ => rfl
  have F_Crew_workers := fun_mk (st := s_Crew_workers) l13 c13 k13
  have b_Crew_workers := F_Crew_workers.binds (ps := P_Crew_workers) fun _ _ _ _ _ _ us hl => match us, hl with | [_], _ => rfl
  have F_start_standing := fun_mk (st := s_start_standing) l14 c14 k14
  have b_start_standing := F_start_standing.binds (ps := P_start_standing) fun _ _ _ _ _ _ us hl => match us, hl with | [_], _ => rfl
  have m_start_standing := PySem.W.mg_of X G a14
  have F_law_late := fun_mk (st := s_law_late) l15 c15 k15
  have b_law_late := F_law_late.binds (ps := P_law_late) fun _ _ _ _ _ _ us hl => match us, hl with | [_, _, _, _], _ => rfl
  have m_law_late := PySem.W.mg_of X G a15
  have F_is_over := fun_mk (st := s_is_over) l16 c16 k16
  have b_is_over := F_is_over.binds (ps := P_is_over) fun _ _ _ _ _ _ us hl => match us, hl with | [_], _ => rfl
  have m_is_over := PySem.W.mg_of X G a16
  have F_seat_node := fun_mk (st := s_seat_node) l17 c17 k17
  have b_seat_node := F_seat_node.binds (ps := P_seat_node) fun _ _ _ _ _ _ us hl => match us, hl with | [_, _], _ => rfl
  have m_seat_node := PySem.W.mg_of X G a17
  have F_leaning_child := fun_mk (st := s_leaning_child) l18 c18 k18
  have b_leaning_child := F_leaning_child.binds (ps := P_leaning_child) fun _ _ _ _ _ _ us hl => match us, hl with | [_, _, _], _ => rfl
  have m_leaning_child := PySem.W.mg_of X G a18
  have F_child_below := fun_mk (st := s_child_below) l19 c19 k19
  have b_child_below := F_child_below.binds (ps := P_child_below) fun _ _ _ _ _ _ us hl => match us, hl with | [_, _, _, _, _], _ => rfl
  have m_child_below := PySem.W.mg_of X G a19
  have F_walk_turn := fun_mk (st := s_walk_turn) l20 c20 k20
  have b_walk_turn := F_walk_turn.binds (ps := P_walk_turn) fun _ _ _ _ _ _ us hl => match us, hl with | [_, _, _, _], _ => rfl
  have m_walk_turn := PySem.W.mg_of X G a20
  have F_walk_tick := fun_mk (st := s_walk_tick) l21 c21 k21
  have b_walk_tick := F_walk_tick.binds (ps := P_walk_tick) fun _ _ _ _ _ _ us hl => match us, hl with | [_, _, _, _], _ => rfl
  have m_walk_tick := PySem.W.mg_of X G a21
  have F_law_is_one_change := fun_mk (st := s_law_is_one_change) l22 c22 k22
  have b_law_is_one_change := F_law_is_one_change.binds (ps := P_law_is_one_change) fun _ _ _ _ _ _ us hl => match us, hl with | [_, _, _, _], _ => rfl
  have m_law_is_one_change := PySem.W.mg_of X G a22
  have F_law_is_joined := fun_mk (st := s_law_is_joined) l23 c23 k23
  have b_law_is_joined := F_law_is_joined.binds (ps := P_law_is_joined) fun _ _ _ _ _ _ us hl => match us, hl with | [_, _, _, _, _], _ => rfl
  have m_law_is_joined := PySem.W.mg_of X G a23
  have F_law_whole := fun_mk (st := s_law_whole) l24 c24 k24
  have b_law_whole := F_law_whole.binds (ps := P_law_whole) fun _ _ _ _ _ _ us hl => match us, hl with | [_], _ => rfl
  have m_law_whole := PySem.W.mg_of X G a24
  have F_law_marks_hold := fun_mk (st := s_law_marks_hold) l25 c25 k25
  have b_law_marks_hold := F_law_marks_hold.binds (ps := P_law_marks_hold) fun _ _ _ _ _ _ us hl => match us, hl with | [_, _, _], _ => rfl
  have m_law_marks_hold := PySem.W.mg_of X G a25
  have F_law_tick_holds := fun_mk (st := s_law_tick_holds) l26 c26 k26
  have b_law_tick_holds := F_law_tick_holds.binds (ps := P_law_tick_holds) fun _ _ _ _ _ _ us hl => match us, hl with | [_, _, _, _, _], _ => rfl
  have m_law_tick_holds := PySem.W.mg_of X G a26
  have F_law_end_holds := fun_mk (st := s_law_end_holds) l27 c27 k27
  have b_law_end_holds := F_law_end_holds.binds (ps := P_law_end_holds) fun _ _ _ _ _ _ us hl => match us, hl with | [_, _, _, _], _ => rfl
  have m_law_end_holds := PySem.W.mg_of X G a27
  have F_law := fun_mk (st := s_law) l28 c28 k28
  have b_law := F_law.binds (ps := P_law) fun _ _ _ _ _ _ us hl => match us, hl with | [_], _ => rfl
  have m_law := PySem.W.mg_of X G a28
  have mint := PySem.W.mg_none_of X G zint
  have mmin := PySem.W.mg_none_of X G zmin
  have mrange := PySem.W.mg_none_of X G zrange
  have mlen := PySem.W.mg_none_of X G zlen
  have mlist := PySem.W.mg_none_of X G zlist
  have mall := PySem.W.mg_none_of X G zall
  have mtuple := PySem.W.mg_none_of X G ztuple
  have mmax := PySem.W.mg_none_of X G zmax
  have misinstance := PySem.W.mg_none_of X G zisinstance
  have mbool := PySem.W.mg_none_of X G zbool
  have msum := PySem.W.mg_none_of X G zsum
  have mMOST_HEIGHT := PySem.W.mg_of X G qMOST_HEIGHT
  have mMOST_WORKERS := PySem.W.mg_of X G qMOST_WORKERS
  have mcCrew := PySem.W.mg_of X G aCCrew
  refine ⟨PySem.W.fnOf "law" "law" (defArgs s_law) (defBody s_law) (defScope s_law) .none kV28 dc28 pm28 an28 cd28 ct28, fun s v => .of_eq rfl, fun base _ _ => ?_⟩
  have T : CT K CCrew := ⟨⟨pg, hd, po, sa⟩, nH, nS, nL⟩
  have O_law_feed : Ok l.prog w K mg base 1 "_law_feed" P_law_feed spFeed := ⟨_, _, ok_law_feed (k := 0) F_law_feed mint, b_law_feed, k0, m_law_feed⟩
  have O_law_take : Ok l.prog w K mg base 1 "_law_take" P_law_take spTake := ⟨_, _, ok_law_take (k := 0) F_law_take mint, b_law_take, k1, m_law_take⟩
  have O_law_crew : Ok l.prog w K mg base 2 "_law_crew" P_law_crew spLCrew := ⟨_, _, ok_law_crew (k := 1) F_law_crew (O_law_take.mono (by decide)) mmin mrange, b_law_crew, k2, m_law_crew⟩
  have O_law_rows : Ok l.prog w K mg base 3 "_law_rows" P_law_rows spRows := ⟨_, _, ok_law_rows (k := 2) F_law_rows (O_law_feed.mono (by decide)) (O_law_take.mono (by decide)) (O_law_crew.mono (by decide)), b_law_rows, k3, m_law_rows⟩
  have O_law_cell : Ok l.prog w K mg base 1 "_law_cell" P_law_cell (spCellv K) := ⟨_, _, ok_law_cell (k := 0) F_law_cell mlen mint, b_law_cell, k4, m_law_cell⟩
  have O_law_need_row : Ok l.prog w K mg base 2 "_law_need_row" P_law_need_row spNeed := ⟨_, _, ok_law_need_row (k := 1) F_law_need_row (O_law_feed.mono (by decide)) (O_law_take.mono (by decide)) mrange, b_law_need_row, k5, m_law_need_row⟩
  have O_law_some : Ok l.prog w K mg base 2 "_law_some" P_law_some spSome := ⟨_, _, ok_law_some (k := 1) F_law_some (O_law_take.mono (by decide)) mrange mlen, b_law_some, k6, m_law_some⟩
  have O_law_groups : Ok l.prog w K mg base 3 "_law_groups" P_law_groups spGroups := ⟨_, _, ok_law_groups (k := 2) F_law_groups (O_law_feed.mono (by decide)) (O_law_take.mono (by decide)) mrange (O_law_some.mono (by decide)) mlist, b_law_groups, k7, m_law_groups⟩
  have O_is_height : Ok l.prog w K mg base 1 "_is_height" P_is_height spIsH := ⟨_, _, ok_is_height (k := 0) F_is_height mMOST_HEIGHT, b_is_height, k8, m_is_height⟩
  have O_are_seats : Ok l.prog w K mg base 1 "_are_seats" P_are_seats (spAreS K) := ⟨_, _, ok_are_seats (k := 0) F_are_seats mall mlen mMOST_WORKERS, b_are_seats, k9, m_are_seats⟩
  have O_are_leanings : Ok l.prog w K mg base 1 "_are_leanings" P_are_leanings (spAreL K) := ⟨_, _, ok_are_leanings (k := 0) F_are_leanings mall mlen, b_are_leanings, k10, m_are_leanings⟩
  have NCrew : OkNew l.prog w K mg base 3 CCrew "Crew" P_Crew_init (spInit K CCrew) := ⟨2, f11, _, by decide, ⟨mk11, a11, i11, kc11⟩, ok_Crew_init (k := 1) F_Crew_init (O_is_height.mono (by decide)) (O_are_seats.mono (by decide)) mall (O_are_leanings.mono (by decide)) mlen mtuple T, b_Crew_init, mcCrew⟩
  have OP_leaves : OkProp l.prog w K mg base 2 CCrew "leaves" (spLeaves K CCrew) := ⟨1, p12, f12, _, by decide, ⟨a12, g12, h12, ⟨rs12, r12⟩⟩, ok_Crew_leaves (k := 0) F_Crew_leaves T, b_Crew_leaves⟩
  have OP_workers : OkProp l.prog w K mg base 2 CCrew "workers" (spWorkers K CCrew) := ⟨1, p13, f13, _, by decide, ⟨a13, g13, h13, ⟨rs13, r13⟩⟩, ok_Crew_workers (k := 0) F_Crew_workers mlen T, b_Crew_workers⟩
  have Ostart_standing : Ok l.prog w K mg base 3 "start_standing" P_start_standing (spStart K CCrew) := ⟨_, _, ok_start_standing (k := 2) F_start_standing (OP_leaves.mono (by decide)) T (OP_workers.mono (by decide)), b_start_standing, k14, m_start_standing⟩
  have O_law_late : Ok l.prog w K mg base 3 "_law_late" P_law_late spLate := ⟨_, _, ok_law_late (k := 2) F_law_late mrange (O_law_some.mono (by decide)), b_law_late, k15, m_law_late⟩
  have Ois_over : Ok l.prog w K mg base 1 "is_over" P_is_over spOver := ⟨_, _, ok_is_over (k := 0) F_is_over , b_is_over, k16, m_is_over⟩
  have Oseat_node : Ok l.prog w K mg base 3 "seat_node" P_seat_node (spSeat K CCrew) := ⟨_, _, ok_seat_node (k := 2) F_seat_node (OP_leaves.mono (by decide)) T, b_seat_node, k17, m_seat_node⟩
  have Oleaning_child : Ok l.prog w K mg base 1 "leaning_child" P_leaning_child (spChild K CCrew) := ⟨_, _, ok_leaning_child (k := 0) F_leaning_child T, b_leaning_child, k18, m_leaning_child⟩
  have Ochild_below : Ok l.prog w K mg base 2 "child_below" P_child_below (spBelow K CCrew) := ⟨_, _, ok_child_below (k := 1) F_child_below (Oleaning_child.mono (by decide)), b_child_below, k19, m_child_below⟩
  have Owalk_turn : Ok l.prog w K mg base 4 "walk_turn" P_walk_turn (spTurn K CCrew) := ⟨_, _, ok_walk_turn (k := 3) F_walk_turn (Ois_over.mono (by decide)) (Oseat_node.mono (by decide)) (OP_leaves.mono (by decide)) T (Ochild_below.mono (by decide)), b_walk_turn, k20, m_walk_turn⟩
  have OKwalk_turn_kw_crew_works_standing_worker : OkK l.prog w K mg base 4 "walk_turn" P_walk_turn ["crew", "works", "standing", "worker"] kg_walk_turn_kw_crew_works_standing_worker kg_walk_turn_kw_crew_works_standing_worker (spTurn K CCrew) := ⟨_, _, ok_walk_turn (k := 3) F_walk_turn (Ois_over.mono (by decide)) (Oseat_node.mono (by decide)) (OP_leaves.mono (by decide)) T (Ochild_below.mono (by decide)), kb_walk_turn_kw_crew_works_standing_worker F_walk_turn, k20, m_walk_turn⟩
  have Owalk_tick : Ok l.prog w K mg base 5 "walk_tick" P_walk_tick (spTick K CCrew) := ⟨_, _, ok_walk_tick (k := 4) F_walk_tick (Ois_over.mono (by decide)) mlist (Owalk_turn.mono (by decide)) (OP_leaves.mono (by decide)) T mtuple, b_walk_tick, k21, m_walk_tick⟩
  have OKwalk_tick_kw_crew_works_standing_workers : OkK l.prog w K mg base 5 "walk_tick" P_walk_tick ["crew", "works", "standing", "workers"] kg_walk_tick_kw_crew_works_standing_workers kg_walk_tick_kw_crew_works_standing_workers (spTick K CCrew) := ⟨_, _, ok_walk_tick (k := 4) F_walk_tick (Ois_over.mono (by decide)) mlist (Owalk_turn.mono (by decide)) (OP_leaves.mono (by decide)) T mtuple, kb_walk_tick_kw_crew_works_standing_workers F_walk_tick, k21, m_walk_tick⟩
  have O_law_is_one_change : Ok l.prog w K mg base 1 "_law_is_one_change" P_law_is_one_change spOneC := ⟨_, _, ok_law_is_one_change (k := 0) F_law_is_one_change mrange mlen mint, b_law_is_one_change, k22, m_law_is_one_change⟩
  have O_law_is_joined : Ok l.prog w K mg base 6 "_law_is_joined" P_law_is_joined (spJoined K CCrew) := ⟨_, _, ok_law_is_joined (k := 5) F_law_is_joined (Owalk_tick.mono (by decide)) mlist mrange mlen (O_law_is_one_change.mono (by decide)) mmax, b_law_is_joined, k23, m_law_is_joined⟩
  have O_law_whole : Ok l.prog w K mg base 1 "_law_whole" P_law_whole spWhole := ⟨_, _, ok_law_whole (k := 0) F_law_whole misinstance mbool mint, b_law_whole, k24, m_law_whole⟩
  have O_law_marks_hold : Ok l.prog w K mg base 2 "_law_marks_hold" P_law_marks_hold spMarks := ⟨_, _, ok_law_marks_hold (k := 1) F_law_marks_hold mlen mrange (O_law_whole.mono (by decide)), b_law_marks_hold, k25, m_law_marks_hold⟩
  have O_law_tick_holds : Ok l.prog w K mg base 7 "_law_tick_holds" P_law_tick_holds (spHolds K CCrew) := ⟨_, _, ok_law_tick_holds (k := 6) F_law_tick_holds (OKwalk_tick_kw_crew_works_standing_workers.mono (by decide)) mtuple (O_law_is_joined.mono (by decide)) (O_law_marks_hold.mono (by decide)) mlen, b_law_tick_holds, k26, m_law_tick_holds⟩
  have O_law_end_holds : Ok l.prog w K mg base 6 "_law_end_holds" P_law_end_holds (spEnd K CCrew) := ⟨_, _, ok_law_end_holds (k := 5) F_law_end_holds mlen mrange (Owalk_tick.mono (by decide)) mlist (OKwalk_turn_kw_crew_works_standing_worker.mono (by decide)) mtuple, b_law_end_holds, k27, m_law_end_holds⟩
  exact ok_law (k := 7) F_law (O_law_rows.mono (by decide)) (O_law_cell.mono (by decide)) mlen (O_law_need_row.mono (by decide)) (O_law_groups.mono (by decide)) (O_law_some.mono (by decide)) (O_law_feed.mono (by decide)) (O_law_take.mono (by decide)) (NCrew.mono (by decide)) mlist (Ostart_standing.mono (by decide)) mrange msum (O_law_late.mono (by decide)) (Owalk_tick.mono (by decide)) (O_law_tick_holds.mono (by decide)) (O_law_end_holds.mono (by decide))
end K33
open PySem PySem.W PyProof.Rows
set_option maxRecDepth 100000 in
set_option maxHeartbeats 0 in
theorem PySem.Challenge.cw_stillinstep_k33_marks_stay_turns_move_holds : PySem.Challenge.rw_stillinstep_k33_marks_stay_turns_move.Holds := by
  w_on; o_law; k_head; (case hw => w_witness2)
  k_fill
  refine L2.walk_of (l := PySem.Challenge.rw_stillinstep_k33_marks_stay_turns_move) (n := 63) (k := 8) (x := "script") (CX := fun _ => L2.CX0) (sp := fun w => K33.spLaw _) rfl (by decide) rfl ⟨rfl, by decide, by decide⟩ (fun w h Y => PySem.W.kIn_of Y) ?F (fun _ _ a ns hl _ hS => ⟨a, ns, rfl, hS, hl, fun _ => rfl⟩) (fun _ _ _ _ _ h => h)
  case F =>
    intro w mg fa h KX G hmg
    refine' K33.all_mk KX G hmg ?aCCrew ?a0 ?l0 ?c0 ?k0 ?a1 ?l1 ?c1 ?k1 ?a2 ?l2 ?c2 ?k2 ?a3 ?l3 ?c3 ?k3 ?a4 ?l4 ?c4 ?k4 ?a5 ?l5 ?c5 ?k5 ?a6 ?l6 ?c6 ?k6 ?a7 ?l7 ?c7 ?k7 ?a8 ?l8 ?c8 ?k8 ?a9 ?l9 ?c9 ?k9 ?a10 ?l10 ?c10 ?k10 ?a11 ?i11 ?mk11 ?kc11 ?l11 ?c11 ?k11 ?a12 ?g12 ?h12 ?r12 ?l12 ?c12 ?k12 ?a13 ?g13 ?h13 ?r13 ?l13 ?c13 ?k13 ?a14 ?l14 ?c14 ?k14 ?a15 ?l15 ?c15 ?k15 ?a16 ?l16 ?c16 ?k16 ?a17 ?l17 ?c17 ?k17 ?a18 ?l18 ?c18 ?k18 ?a19 ?l19 ?c19 ?k19 ?a20 ?l20 ?c20 ?k20 ?a21 ?l21 ?c21 ?k21 ?a22 ?l22 ?c22 ?k22 ?a23 ?l23 ?c23 ?k23 ?a24 ?l24 ?c24 ?k24 ?a25 ?l25 ?c25 ?k25 ?a26 ?l26 ?c26 ?k26 ?a27 ?l27 ?c27 ?k27 ?a28 ?l28 ?c28 ?k28 ?pg ?hd ?po ?sa ?nH ?nS ?nL ?qMOST_HEIGHT ?qMOST_WORKERS ?zint ?zmin ?zrange ?zlen ?zlist ?zall ?ztuple ?zmax ?zisinstance ?zbool ?zsum
    (case aCCrew => k_is)
    (case a0 => k_is)
    (case l0 => k_is)
    (case c0 => k_is)
    (case k0 => k_is)
    (case a1 => k_is)
    (case l1 => k_is)
    (case c1 => k_is)
    (case k1 => k_is)
    (case a2 => k_is)
    (case l2 => k_is)
    (case c2 => k_is)
    (case k2 => k_is)
    (case a3 => k_is)
    (case l3 => k_is)
    (case c3 => k_is)
    (case k3 => k_is)
    (case a4 => k_is)
    (case l4 => k_is)
    (case c4 => k_is)
    (case k4 => k_is)
    (case a5 => k_is)
    (case l5 => k_is)
    (case c5 => k_is)
    (case k5 => k_is)
    (case a6 => k_is)
    (case l6 => k_is)
    (case c6 => k_is)
    (case k6 => k_is)
    (case a7 => k_is)
    (case l7 => k_is)
    (case c7 => k_is)
    (case k7 => k_is)
    (case a8 => k_is)
    (case l8 => k_is)
    (case c8 => k_is)
    (case k8 => k_is)
    (case a9 => k_is)
    (case l9 => k_is)
    (case c9 => k_is)
    (case k9 => k_is)
    (case a10 => k_is)
    (case l10 => k_is)
    (case c10 => k_is)
    (case k10 => k_is)
    (case a11 => k_is)
    (case i11 => k_is)
    (case mk11 => k_is)
    (case kc11 => k_is)
    (case l11 => k_is)
    (case c11 => k_is)
    (case k11 => k_is)
    (case a12 => k_is)
    (case g12 => k_is)
    (case h12 => k_is)
    (case r12 => k_is)
    (case l12 => k_is)
    (case c12 => k_is)
    (case k12 => k_is)
    (case a13 => k_is)
    (case g13 => k_is)
    (case h13 => k_is)
    (case r13 => k_is)
    (case l13 => k_is)
    (case c13 => k_is)
    (case k13 => k_is)
    (case a14 => k_is)
    (case l14 => k_is)
    (case c14 => k_is)
    (case k14 => k_is)
    (case a15 => k_is)
    (case l15 => k_is)
    (case c15 => k_is)
    (case k15 => k_is)
    (case a16 => k_is)
    (case l16 => k_is)
    (case c16 => k_is)
    (case k16 => k_is)
    (case a17 => k_is)
    (case l17 => k_is)
    (case c17 => k_is)
    (case k17 => k_is)
    (case a18 => k_is)
    (case l18 => k_is)
    (case c18 => k_is)
    (case k18 => k_is)
    (case a19 => k_is)
    (case l19 => k_is)
    (case c19 => k_is)
    (case k19 => k_is)
    (case a20 => k_is)
    (case l20 => k_is)
    (case c20 => k_is)
    (case k20 => k_is)
    (case a21 => k_is)
    (case l21 => k_is)
    (case c21 => k_is)
    (case k21 => k_is)
    (case a22 => k_is)
    (case l22 => k_is)
    (case c22 => k_is)
    (case k22 => k_is)
    (case a23 => k_is)
    (case l23 => k_is)
    (case c23 => k_is)
    (case k23 => k_is)
    (case a24 => k_is)
    (case l24 => k_is)
    (case c24 => k_is)
    (case k24 => k_is)
    (case a25 => k_is)
    (case l25 => k_is)
    (case c25 => k_is)
    (case k25 => k_is)
    (case a26 => k_is)
    (case l26 => k_is)
    (case c26 => k_is)
    (case k26 => k_is)
    (case a27 => k_is)
    (case l27 => k_is)
    (case c27 => k_is)
    (case k27 => k_is)
    (case a28 => k_is)
    (case l28 => k_is)
    (case c28 => k_is)
    (case k28 => k_is)
    (case pg => k_is)
    (case hd => k_is)
    (case po => k_is)
    (case sa => k_is)
    (case nH => k_is)
    (case nS => k_is)
    (case nL => k_is)
    (case qMOST_HEIGHT => k_is)
    (case qMOST_WORKERS => k_is)
    (case zint => k_is)
    (case zmin => k_is)
    (case zrange => k_is)
    (case zlen => k_is)
    (case zlist => k_is)
    (case zall => k_is)
    (case ztuple => k_is)
    (case zmax => k_is)
    (case zisinstance => k_is)
    (case zbool => k_is)
    (case zsum => k_is)
