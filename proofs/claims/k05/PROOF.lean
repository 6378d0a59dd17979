import PyProof.Rows.All
import Wide.All
import OpenK.AllK
import Wide.FinOn
import HandS.ForMost
import HandS.Wide
import HandS.IsInst
import HandS.SortInts
import HandS.Flow
import HandS.TupAny
import HandS.Defaults
import HandS.Text
import HandS.EndBits
import HandS.Evl
import PyProof.ReprRoads
import PyProof.StrLawsRepr
import PyProof.FitsInt
import HandS.Walk
import HandS.SetKeys
import HandS.Strs
import HandS.SetFor
import HandS.Zip
import PySem.Challenge.RW_markedways_k05_trees_judged
import PyProof.EqAt
import PyProof.EqKinds
import HandS.DictEq
set_option Elab.async false
set_option linter.all false
set_option maxRecDepth 100000
set_option maxHeartbeats 4000000
/-! ### draws: the state of a script's draws, and what else is known -/
namespace Mw
open PySem PySem.Spec PyProof.Rows L2

/-- where the state of the draws stands: its dict, its list of wide numbers, its list of cells -/
structure Wd where
  d : Addr
  w : Addr
  c : Addr
/-- what is known besides the state of the draws -/
def mk (W : Wd) (H : Hp) : Hp := fun a => if a = W.d ∨ a = W.w ∨ a = W.c then none else H a
theorem mk_le (W : Wd) (H : Hp) : Same (mk W H) H := fun a o h => by
  unfold mk at h
  split at h
  · cases h
  · exact h
theorem mk_of {W : Wd} {H : Hp} {a : Addr} {o : HO} (h : H a = some o) (hd : a ≠ W.d) (hw : a ≠ W.w) (hc : a ≠ W.c) : mk W H a = some o := by
  unfold mk
  rw [if_neg (fun z => z.elim hd fun z => z.elim hw hc)]
  exact h
theorem mk_d {W : Wd} {H : Hp} : mk W H W.d = none := by
  unfold mk
  rw [if_pos (Or.inl rfl)]
theorem mk_w {W : Wd} {H : Hp} : mk W H W.w = none := by
  unfold mk
  rw [if_pos (Or.inr (Or.inl rfl))]
theorem mk_c {W : Wd} {H : Hp} : mk W H W.c = none := by
  unfold mk
  rw [if_pos (Or.inr (Or.inr rfl))]
theorem mk_none {W : Wd} {H : Hp} {a : Addr} (h : H a = none) : mk W H a = none := by
  unfold mk
  split
  · rfl
  · exact h
theorem mk_same {W : Wd} {H H' : Hp} (e : Same H H') : Same (mk W H) (mk W H') := fun a o h => by
  unfold mk at h ⊢
  split at h
  · cases h
  · rename_i z
    rw [if_neg z]
    exact e a o h
/-- draws change nothing else -/
theorem mk_upd_d {W : Wd} {H : Hp} {o : HO} : mk W (upd H W.d o) = mk W H := by
  funext a
  unfold mk
  split
  · rfl
  · rename_i z
    rw [upd_ne (fun e => z (Or.inl e))]
theorem mk_upd_w {W : Wd} {H : Hp} {o : HO} : mk W (upd H W.w o) = mk W H := by
  funext a
  unfold mk
  split
  · rfl
  · rename_i z
    rw [upd_ne (fun e => z (Or.inr (Or.inl e)))]
def kvs0 (W : Wd) (r t : Int) : List (Key × V) := [(.inr "wide", .ref W.w), (.inr "cells", .ref W.c), (.inr "rest", .int r), (.inr "turn", .int t)]
theorem kv_wide (W : Wd) (r t : Int) : valV (kvs0 W r t) (.inr "wide" : Key) = some (.ref W.w) := by rfl
theorem kv_cells (W : Wd) (r t : Int) : valV (kvs0 W r t) (.inr "cells" : Key) = some (.ref W.c) := by rfl
theorem kv_rest (W : Wd) (r t : Int) : valV (kvs0 W r t) (.inr "rest" : Key) = some (.int r) := by rfl
theorem kv_turn (W : Wd) (r t : Int) : valV (kvs0 W r t) (.inr "turn" : Key) = some (.int t) := by rfl
theorem pk_rest (W : Wd) (r t r' : Int) : putK (kvs0 W r t) (.inr "rest" : Key) (.int r') = kvs0 W r' t := by rfl
theorem pk_turn (W : Wd) (r t t' : Int) : putK (kvs0 W r t) (.inr "turn" : Key) (.int t') = kvs0 W r t' := by rfl
structure StAt (W : Wd) (r t : Int) (ns cs : List Int) (H : Hp) : Prop where
  d : H W.d = some (.dK (kvs0 W r t))
  w : H W.w = some (.lst (ns.map V.int))
  c : H W.c = some (.lst (cs.map V.int))
  ne : W.c ≠ W.w
  cs : ∀ x ∈ cs, 0 ≤ x ∧ x < 2147483629
  t0 : 0 ≤ t
/-- the state stands, at most n more numbers were mixed -/
def StOk (W : Wd) (n : Nat) (H : Hp) : Prop := ∃ (r t : Int) (ns cs : List Int), StAt W r t ns cs H ∧ t ≤ n
theorem StAt.nwd {W : Wd} {r t : Int} {ns cs : List Int} {H : Hp} (S : StAt W r t ns cs H) : W.w ≠ W.d := ne_of S.w S.d (by intro z; cases z)
theorem StAt.ncd {W : Wd} {r t : Int} {ns cs : List Int} {H : Hp} (S : StAt W r t ns cs H) : W.c ≠ W.d := ne_of S.c S.d (by intro z; cases z)
theorem StOk.mono {W : Wd} {n m : Nat} {H : Hp} (h : StOk W n H) (l : n ≤ m) : StOk W m H := by
  obtain ⟨r, t, ns, cs, S, ht⟩ := h
  exact ⟨r, t, ns, cs, S, by omega⟩
theorem StOk.same {W : Wd} {n : Nat} {H H' : Hp} (h : StOk W n H) (e : Same H H') : StOk W n H' := by
  obtain ⟨r, t, ns, cs, S, ht⟩ := h
  exact ⟨r, t, ns, cs, ⟨e _ _ S.d, e _ _ S.w, e _ _ S.c, S.ne, S.cs, S.t0⟩, ht⟩
theorem StOk.nd {W : Wd} {n : Nat} {H : Hp} (h : StOk W n H) : H W.d ≠ none := by
  obtain ⟨r, t, ns, cs, S, ht⟩ := h
  rw [S.d]
  exact fun z => nomatch z
theorem StOk.nw {W : Wd} {n : Nat} {H : Hp} (h : StOk W n H) : H W.w ≠ none := by
  obtain ⟨r, t, ns, cs, S, ht⟩ := h
  rw [S.w]
  exact fun z => nomatch z
theorem StOk.nc {W : Wd} {n : Nat} {H : Hp} (h : StOk W n H) : H W.c ≠ none := by
  obtain ⟨r, t, ns, cs, S, ht⟩ := h
  rw [S.c]
  exact fun z => nomatch z
theorem same_upd {H : Hp} {p : Addr} {o : HO} (h : H p = none) : Same H (upd H p o) := fun b x e => by
  rw [upd_ne (ne_of_none e h)]
  exact e
/-- a new object -/
theorem new_at {W : Wd} {n : Nat} {H H1 : Hp} {p : Addr} {o : HO} (S : StOk W n H) (np : H p = none) (e : upd H p o = H1) : StOk W n H1 ∧ Same (mk W H) (mk W H1) ∧ mk W H1 p = some o ∧ mk W H p = none := by
  subst e
  refine ⟨S.same (same_upd np), mk_same (same_upd np), mk_of upd_same (fun z => ?_) (fun z => ?_) (fun z => ?_), mk_none np⟩
  · rw [z] at np
    exact S.nd np
  · rw [z] at np
    exact S.nw np
  · rw [z] at np
    exact S.nc np
/-- an object of one's own changes -/
theorem own_at {W : Wd} {n : Nat} {H H1 : Hp} {p : Addr} {o o' : HO} (S : StOk W n H) (hp : mk W H p = some o') (e : upd H p o = H1) :
    StOk W n H1 ∧ mk W H1 p = some o ∧ ∀ (a : Addr) (u : HO), a ≠ p → mk W H a = some u → mk W H1 a = some u := by
  subst e
  have nd : p ≠ W.d := fun z => by
    rw [z, mk_d] at hp
    cases hp
  have nw : p ≠ W.w := fun z => by
    rw [z, mk_w] at hp
    cases hp
  have nc : p ≠ W.c := fun z => by
    rw [z, mk_c] at hp
    cases hp
  obtain ⟨r, t, ns, cs, S, ht⟩ := S
  refine ⟨⟨r, t, ns, cs, ⟨?_, ?_, ?_, S.ne, S.cs, S.t0⟩, ht⟩, mk_of upd_same nd nw nc, fun a u na h1 => ?_⟩
  · rw [upd_ne nd.symm]
    exact S.d
  · rw [upd_ne nw.symm]
    exact S.w
  · rw [upd_ne nc.symm]
    exact S.c
  · unfold mk at h1 ⊢
    split at h1
    · cases h1
    · rename_i z
      rw [if_neg z, upd_ne na]
      exact h1
/-- what a def sees: what it knows of the heap, and a count of what was drawn -/
structure Wo where
  view : Hp → Hp
  ok : Nat → Hp → Prop
  le : ∀ H, Same (view H) H
  mono : ∀ {n m H}, ok n H → n ≤ m → ok m H
  new : ∀ {n H H1 p o}, ok n H → H p = none → upd H p o = H1 → ok n H1 ∧ Same (view H) (view H1) ∧ view H1 p = some o ∧ view H p = none
  own : ∀ {n H H1 p o o'}, ok n H → view H p = some o' → upd H p o = H1 → ok n H1 ∧ view H1 p = some o ∧ ∀ (a : Addr) (u : HO), a ≠ p → view H a = some u → view H1 a = some u
/-- the world of the draws -/
def wd (W : Wd) : Wo := ⟨mk W, StOk W, mk_le W, fun h l => h.mono l, new_at, own_at⟩
/-- an object of one's own changes: what was known before it was made stands -/
theorem Wo.keep (U : Wo) {H H1 M : Hp} {p : Addr} (o : ∀ (a : Addr) (u : HO), a ≠ p → U.view H a = some u → U.view H1 a = some u) (hM : M p = none) (e : Same M (U.view H)) : Same M (U.view H1) := fun a u h =>
  o a u (ne_of_none h hM) (e a u h)
/-- behind a def that changes nothing that was known -/
theorem adv_same {W : Wd} {n : Nat} {H H1 : Hp} (S : StOk W n H) (e : Same H H1) : StOk W n H1 ∧ Same (mk W H) (mk W H1) := ⟨S.same e, mk_same e⟩

/-! ### the same facts later -/
theorem sqL_at {K : PySem.W.Frag} {H H' : Hp} {a : Addr} {xs : List V} (h : H a = some (.lst xs)) (e : Same H H') : SqL K H' a xs := .inl (.inl (e _ _ h))
theorem sqT_at {K : PySem.W.Frag} {H H' : Hp} {a : Addr} {xs : List V} (h : H a = some (.tup xs)) (e : Same H H') : SqT K H' a xs := .inl (.inl (e _ _ h))
theorem seqT {K : PySem.W.Frag} {H H' : Hp} {a : Addr} {xs : List V} (e : Same H H') (h : SqT K H a xs) : SqT K H' a xs := by
  rcases h with (h | ⟨o, h⟩) | h
  · exact .inl (.inl (e _ _ h))
  · exact .inl (.inr ⟨o, e _ _ h⟩)
  · exact .inr h
end Mw
/-! ### defs that are called where no repr is under way -/
namespace Mw
open PySem PySem.Spec PyProof.Rows L2

/-- room for k calls, and nothing is being shown -/
structure Rm (k : Nat) (A : Around) : Prop where
  r : Room k A
  g : A.guards = some []
theorem Rm.mono {j k : Nat} {A : Around} (h : Rm k A) (l : j ≤ k) : Rm j A := ⟨h.r.mono l, h.g⟩
theorem guards_deeper (A : Around) (env : Env) : (A.deeper env).guards = A.guards := rfl
structure FnG (P : Program) (w : World) (K : PySem.W.Frag) (mg : Str → Option Value) (base : Heap) (k : Nat) (f : Addr) (fd : FuncData) (ps : List Str) (sp : Sp) : Prop where
  ln : ∀ vs H Q E, sp vs H Q E → vs.length = ps.length
  go : ∀ (A : Around) (outer : List Env) (s : Shared) (H : Hp) (args : Args) (us : List Value) (vs : List V) (Q : VK) (E : XK), Rm k A → Env0 P w K mg base A outer s H →
    BindsTo s fd args (ps.zip us) → Vals vs us → sp vs H Q E → codeAny (model P w) A (.call (.ref f) args) (CR CX0 outer P w H s Q E) s
section
variable {P : Program} {w : World} {K : PySem.W.Frag} {mg : Str → Option Value} {base : Heap}
theorem FnG.mono {j k : Nat} {f : Addr} {fd : FuncData} {ps : List Str} {sp : Sp} (F : FnG P w K mg base j f fd ps sp) (h : j ≤ k) : FnG P w K mg base k f fd ps sp :=
  ⟨F.ln, fun A outer s H args us vs Q E hr => F.go A outer s H args us vs Q E (hr.mono h)⟩
theorem FnG.of {k : Nat} {f : Addr} {fd : FuncData} {ps : List Str} {sp : Sp} (F : FnOk P w K mg base CX0 k f fd ps sp) : FnG P w K mg base k f fd ps sp :=
  ⟨F.len, fun A outer s H args us vs Q E hr => F.run A outer s H args us vs Q E hr.r⟩
/-- the end of a def's body -/
theorem body_end {X : Cx} {Q : VK} {fl : Flow} {s' : Shared} (h : SP X [] { nx := fun _ H' => Q .non H', rt := Q } fl s') :
    match (Except.ok fl : Result) with
    | .ok .next => ∃ v σ' H', Inv X [] σ' H' s' ∧ RelV v Value.none ∧ Q v H'
    | .ok (.ret u) => ∃ v σ' H', Inv X [] σ' H' s' ∧ RelV v u ∧ Q v H'
    | _ => False := by
  cases fl with
  | next =>
    obtain ⟨a, b, c, d⟩ := h
    exact ⟨.non, a, b, c, rfl, d⟩
  | ret u =>
    obtain ⟨v, a, b, c, r, d⟩ := h
    exact ⟨v, a, b, c, r, d⟩
  | brk =>
    obtain ⟨_, _, _, z⟩ := h
    exact z
  | cont =>
    obtain ⟨_, _, _, z⟩ := h
    exact z
theorem fnG {x qual : Str} {st : Stmt} {f : Addr} {fd : FuncData} {N ps : List Str} {k : Nat} {sp : Sp} (F : Fun K x qual st f fd) (S : FnScope N ps (defScope st)) (ln : ∀ vs H Q E, sp vs H Q E → vs.length = ps.length)
    (body : ∀ (cdv : Value) (A : Around) (outer : List Env) (s : Shared) (H : Hp) (vs : List V) (Q : VK) (E : XK), Rm k (A.deeper (envOfC qual (defScope st) s.heap.objs.size f cdv)) → sp vs H Q E →
      ∃ t, PSs (cxOf CX0 P w K mg base N qual (defScope st) f cdv A outer s H E).nox (defBody st) t ∧ t { nx := fun _ H' => Q .non H', rt := Q } (start N vs) H) : FnG P w K mg base (k + 1) f fd ps sp := by
  obtain ⟨oc, od, kV, doc, pm, an, cdv, ct, osl, rfl, look, code⟩ := F.ex
  refine ⟨ln, ?_⟩
  intro A outer s H args us vs Q E room e0 binds rel promise
  have stay : ∀ b o, base.get? b = some o → s.heap.get? b = some o := fun b o z => (e0.bs b o z).1
  have inK : K.In s.heap := e0.mod.kin.keeps stay
  have named : ∀ y ∈ ps.zip us, (defScope st).names.lookup y.1 = some .local ∨ ((defScope st).names.lookup y.1 = some .cell ∧ ((cellsFrom (s.heap.objs.size + 1) (defScope st).names []).lookup y.1).isSome = true) := by
    intro y hy
    have hp : y.1 ∈ ps := (List.of_mem_zip (a := y.1) (b := y.2) hy).1
    cases S.par y.1 hp with
    | inl z => exact .inl z
    | inr z => exact .inr ⟨z, PySem.W.cellsFrom_some _ _ _ (.inl z)⟩
  refine codeAny_call_function room.r.depth (inK _ _ look) rfl S.co S.gen rfl (PySem.W.codeRec_of inK code) (binds _ _ _ _ ?_)
  refine wpAny_newFunctionEnv_cells S.kind named ?_
  intro env same s1 began
  cases same
  refine ⟨(e0.mod.nolimit.keeps stay).keeps began.toInCall.keep, codeAny_func ?_⟩
  obtain ⟨t, ht, hq⟩ := body cdv A outer s H vs Q E ⟨room.r.deeper _, room.g⟩ promise
  have I := inv_start (CX := CX0) (E := E) (qual := qual) (N := N) S room.r.hd e0 (ln _ _ _ _ promise) rel began
  have leave : ∀ {σ' : L2.St} {H' : Hp} {v : V} {u : Value} {s' : Shared}, Inv (cxOf CX0 P w K mg base N qual (defScope st) f cdv A outer s H E) [] σ' H' s' → RelV v u → Q v H' → CE outer P w H s Q u s' := by
    intro σ' H' v u s' J rv q
    exact ⟨v, H', J.os, J.bare, J.base, J.hok, rv, q⟩
  refine wpAny_mono (ht.nox.run [] s1 (start N vs) H _ I hq) ?_ ?_
  · intro fl s' done
    have z := body_end done
    cases fl with
    | next =>
      obtain ⟨v, σ', H', J, r, q⟩ := z
      exact leave J r q
    | ret u =>
      obtain ⟨v, σ', H', J, r, q⟩ := z
      exact leave J r q
    | brk => exact z.elim
    | cont => exact z.elim
  · intro e s' z
    exact z
end
theorem passAny {X : Cx} {E : XK} : Passes CX0 X E := fun _ _ _ _ _ _ _ h => h.elim
/-- a def of the top that lets no error out: where it stands, how it binds, what it promises -/
structure Def (P : Program) (w : World) (K : PySem.W.Frag) (mg : Str → Option Value) (base : Heap) (x : Str) (k : Nat) (ps : List Str) (sp : Sp) : Prop where
  ex : ∃ (f : Addr) (fd : FuncData), mg x = some (.ref f) ∧ PySem.W.keepIn K (.ref f) = true ∧ Binds K fd ps [] ∧ FnG P w K mg base k f fd ps sp
section
variable {X : Cx} {k : Nat} {ps : List Str} {sp : Sp} {x : Str} {p pos : Pos} {e : Expr} {es : List Expr} {t : TA}
/-- behind a call of such a def -/
theorem callG {pins : List (Addr × Obj)} {σ : L2.St} {H : Hp} {s : Shared} {Q : VK} {f : Addr} {fd : FuncData} {args : Args} {us : List Value} {vs : List V} (F : FnG X.prog X.w X.K X.mg X.base k f fd ps sp) (hr : Rm k X.A)
    (hb : BindsTo s fd args (ps.zip us)) (I : Inv X pins σ H s) (r : Vals vs us) (h : sp vs H Q (fun _ _ _ => False)) : codeAny (model X.prog X.w) X.A (.call (.ref f) args) (fun r s' => match r with | .ok (.ret u) => EP X pins σ Q u s' | _ => False) s := by
  refine codeAny_mono (F.go X.A X.stack s H args us vs Q (fun _ _ _ => False) hr I.env0 hb r h) ?_
  intro res s' done
  cases res with
  | error e => exact (show False from done).elim
  | ok fl =>
    cases fl with
    | ret u => exact I.after done
    | next => exact done.elim
    | brk => exact done.elim
    | cont => exact done.elim
def tGo (sp : Sp) (t : TA) : TE := fun σ H Q => t σ H fun vs H1 => sp vs H1 Q (fun _ _ _ => False)
theorem pe_go (D : Def X.prog X.w X.K X.mg X.base x k ps sp) {j : Nat} (hr : Rm j X.A) (ha : PA X (e :: es) t) (hj : k ≤ j := by decide) (hg : Gl X x := by rfl) (hdb : (x == ("__debug__" : Str)) = false := by decide)
    (he : starEach (e :: es) X.env = (false, eval e X.env) :: starEach es X.env := by rfl) (hpl : (backTo pos (starEach es X.env)).any (·.1) = false := by rfl) :
    PE X (.Call (.Name x p) (e :: es) [] pos) (tGo sp t) := by
  obtain ⟨f, fd, g, kp, b, F⟩ := D.ex
  constructor
  intro pins s σ H Q I h
  refine wpAny_Call_Name_kw (ld_glob I hg g ?_ hdb)
  refine PySem.W.callWith_K (h₀ := X.base) I.ok.mod.kin kp (thn (ha.run pos pins s σ H _ I h) ?_) he hpl
  rintro us s1 ⟨vs, H1, I1, r, q⟩
  refine ⟨I1.kIn, wpAny_call (codeAny_mono (callG F (hr.mono hj) (us := us) ?_ I1 r q) ?_)⟩
  · have z := b s1 us I1.kIn (by rw [List.append_nil, ← r.length]; exact F.ln _ _ _ _ q)
    rwa [List.append_nil] at z
  · intro res s' z
    cases res with
    | error e => exact z.elim
    | ok fl =>
      cases fl with
      | ret u => exact z
      | next => exact z.elim
      | brk => exact z.elim
      | cont => exact z.elim
/-- a call by keywords alone -/
structure DefK (P : Program) (w : World) (K : PySem.W.Frag) (mg : Str → Option Value) (base : Heap) (x : Str) (k : Nat) (ps ks : List Str) (gV : List V → List V) (sp : Sp) : Prop where
  ex : ∃ (f : Addr) (fd : FuncData) (g : List Value → List Value → List Value), mg x = some (.ref f) ∧ PySem.W.keepIn K (.ref f) = true ∧ KBn K fd ps 0 ks g (fun _ zs => gV zs) ∧ FnG P w K mg base k f fd ps sp
def tGoK (n : Nat) (sp : Sp) (gV : List V → List V) (tk : TA) : TE := fun σ H Q => tk σ H fun zs H1 => zs.length = n ∧ sp (gV zs) H1 Q (fun _ _ _ => False)
theorem pe_goK {kws : List Keyword} {ks : List Str} {gV : List V → List V} {tk : TA} (D : DefK X.prog X.w X.K X.mg X.base x k ps ks gV sp) {j : Nat} (hr : Rm j X.A) (hkw : PK X kws tk) (hj : k ≤ j := by decide) (hg : Gl X x := by rfl)
    (hall : (backToKw pos (keywordEach kws X.env)).all (·.1.isSome) = true := by rfl) (hks : (backToKw pos (keywordEach kws X.env)).filterMap (·.1) = ks := by rfl) (hdb : (x == ("__debug__" : Str)) = false := by decide)
    (plain : ((backTo pos (starEach [] X.env)).any (·.1) || (backToKw pos (keywordEach kws X.env)).any (·.1.isNone)) = false := by rfl) :
    PE X (.Call (.Name x p) [] kws pos) (tGoK ks.length sp gV tk) := by
  obtain ⟨f, fd, g, hm, kp, b, F⟩ := D.ex
  constructor
  intro pins s σ H Q I h
  refine wpAny_Call_Name_kw (ld_glob I hg hm ?_ hdb)
  refine PySem.W.callWith_KW0 (h₀ := X.base) I.ok.mod.kin kp hall ?_ plain
  refine thn (hkw.run pos pins s σ H _ I h) ?_
  rintro ws s2 ⟨zs, H2, I2, rz, l2, q2⟩
  refine ⟨I2.kIn, ?_⟩
  rw [hks]
  have rel : Vals (gV zs) (g [] ws) := b.rel (vs := []) .nil rz
  refine wpAny_call (codeAny_mono (callG F (hr.mono hj) (us := g [] ws) (b.to s2 [] ws I2.kIn rfl (rz.length.symm.trans l2)) I2 rel q2) ?_)
  intro res s' z
  cases res with
  | error e => exact z.elim
  | ok fl =>
    cases fl with
    | ret u => exact z
    | next => exact z.elim
    | brk => exact z.elim
    | cont => exact z.elim
end

/-! ### the law's own call -/
section
variable {P : Program} {w : World} {K : PySem.W.Frag} {mg mb : Str → Option Value}
theorem law_at {k : Nat} {fa a : Addr} {fd : FuncData} {x : Str} {sp : Sp} {s₁ : Shared} {vs : List Value} {ns : List Int} {H : Hp}
    (inK : K.In s₁.heap) (G : s₁.heap.Ns mainGlobals mg) (B : s₁.heap.Ns builtinsNs mb) (B2 : ∀ x : Str, x ≠ "__name__" → mb x = bootBuiltins x) (lim : s₁.heap.NoLimit) (gens : s₁.gens = #[])
    (list : ∃ u n, s₁.heap.get? a = some { cls := .type "list", data := .seq u n }) (room : Rm k callerA)
    (F : ∀ base : Heap, K.In base → base.Ns mainGlobals mg → (∃ m, base.Ns sysModules m) → FnG P w K mg base k fa fd [x] sp) (sysm : ∃ m, s₁.heap.Ns sysModules m) (binds : ∀ (s : Shared) (u : Value), BindsTo s fd ⟨[u], []⟩ [(x, u)])
    (sp0 : sp [.ref a] H (fun v _ => v = .bl true) fun _ _ _ => False) (only : Only H) (ok : HOk P w H s₁.heap) (alone : ∀ b, H b ≠ none → b = a) (mine : H a ≠ none → K.lookup a = none) :
    codeAny (model P w) callerA (.call (.ref fa) ⟨[.ref a], []⟩) (fun r s' => r = .ok (.ret (.bool true)) ∧ OldK s₁.heap s'.heap ∧ s'.os = s₁.os ∧ AllBare s'.gens) s₁ := by
  obtain ⟨lu, ln, la⟩ := list
  have free : ∀ {b : Addr} {o : Obj} {es : Array DictEntry} {ep : Nat}, s₁.heap.get? b = some o → o.data = .dict es ep → H b = none := by
    intro b o es ep e d
    apply Classical.byContradiction
    intro z
    rw [alone b z, la] at e
    cases e
    cases d
  have ns : ∀ {b : Addr} {m : Str → Option Value}, s₁.heap.Ns b m → (hidT s₁.heap H).Ns b m := by
    rintro b m ⟨o, es, ep, e, d, r⟩
    exact ⟨o, es, ep, hidT_get e (free e d), d, r⟩
  have baseK : K.In (hidT s₁.heap H) := by
    intro b o e
    refine hidT_get (inK b o e) ?_
    apply Classical.byContradiction
    intro z
    have eb := alone b z
    rw [eb] at e z
    rw [mine z] at e
    cases e
  have M : Mod K mg (hidT s₁.heap H) := by
    refine ⟨baseK, ns G, ⟨mb, ns B, B2⟩, ?_⟩
    obtain ⟨mc, h1, h2⟩ := lim
    exact ⟨mc, ns h1, h2⟩
  have e0 : Env0 P w K mg (hidT s₁.heap H) callerA [] s₁ H := by
    refine ⟨rfl, M, fun b o e => of_hidT e, Nat.le_of_eq (hidT_size _ _), trivial, ?_, ok, .of_eq gens⟩
    intro b hb
    cases hb
  refine codeAny_mono ((F _ baseK (ns G) (sysm.elim fun m z => ⟨m, ns z⟩)).go callerA [] s₁ H ⟨[.ref a], []⟩ [.ref a] [.ref a] _ _ room e0 (binds s₁ (.ref a)) (.cons rfl .nil) sp0) ?_
  intro res s' done
  cases res with
  | error e => exact (show False from done).elim
  | ok fl =>
    cases fl with
    | next => exact done.elim
    | brk => exact done.elim
    | cont => exact done.elim
    | ret u =>
      obtain ⟨v, H', os, bare, un, ok', rel, q⟩ := done
      obtain rfl : v = .bl true := q
      obtain rfl : u = Value.bool true := rel
      refine ⟨rfl, OldK.of_keep ?_, os, bare⟩
      intro b o e
      cases z : H b with
      | none => exact un.keep b o e z (fun y => nomatch y) (fun y => nomatch y)
      | some u =>
        cases only b with
        | inl y =>
          rw [z] at y
          cases y
        | inr y =>
          obtain ⟨ob, xs, y⟩ := y
          obtain ⟨e1, _⟩ := ok b _ y
          obtain ⟨e2, _⟩ := ok' b _ (un.frzs b ob _ y)
          rw [e] at e1
          cases e1
          exact e2
theorem law_callG {k : Nat} {fa a : Addr} {fd : FuncData} {x : Str} {sp : Sp} {s₁ : Shared} {vs : List Value} {ns : List Int}
    (inK : K.In s₁.heap) (G : s₁.heap.Ns mainGlobals mg) (B : s₁.heap.Ns builtinsNs mb) (B2 : ∀ x : Str, x ≠ "__name__" → mb x = bootBuiltins x) (lim : s₁.heap.NoLimit) (gens : s₁.gens = #[])
    (ha : s₁.heap.get? a = some { cls := .type "list", data := .seq vs.toArray }) (isInts : IntsAre vs ns) (size : ns.length ≤ sizeLine) (room : Rm k callerA)
    (F : ∀ base : Heap, K.In base → base.Ns mainGlobals mg → (∃ m, base.Ns sysModules m) → FnG P w K mg base k fa fd [x] sp) (sysm : ∃ m, s₁.heap.Ns sysModules m) (binds : ∀ (s : Shared) (u : Value), BindsTo s fd ⟨[u], []⟩ [(x, u)])
    (hsp : ∀ H : Hp, Only H → SqL K H a (ns.map V.int) → sp [.ref a] H (fun v _ => v = .bl true) fun _ _ _ => False) :
    codeAny (model P w) callerA (.call (.ref fa) ⟨[.ref a], []⟩) (fun r s' => r = .ok (.ret (.bool true)) ∧ OldK s₁.heap s'.heap ∧ s'.os = s₁.os ∧ AllBare s'.gens) s₁ := by
  have rv := vals_ints isInts
  have len := isInts.length
  cases hk : K.lookup a with
  | some o =>
    have e := inK a o hk
    rw [ha] at e
    cases e
    have only : Only (fun _ => none) := fun _ => .inl rfl
    have seq : SqL K (fun _ => none) a (ns.map V.int) := .inr ⟨_, vs.toArray, _, hk, rfl, rfl, rfl, by rw [List.size_toArray, len]; exact size, by simpa using rv⟩
    exact law_at inK G B B2 lim gens ⟨_, _, ha⟩ room F sysm binds (hsp _ only seq) only (fun b u z => nomatch z) (fun b z => absurd rfl z) (fun z => absurd rfl z) (vs := vs) (ns := ns)
  | none =>
    let script : Hp := upd (fun _ => none) a (.frz { cls := .type "list", data := .seq vs.toArray } (.lst (ns.map V.int)))
    have at_ : script a = some (.frz { cls := .type "list", data := .seq vs.toArray } (.lst (ns.map V.int))) := upd_same
    have off : ∀ b, b ≠ a → script b = none := fun b hb => upd_ne hb
    have only : Only script := by
      intro b
      by_cases hb : b = a
      · subst hb
        exact .inr ⟨_, _, at_⟩
      · exact .inl (off b hb)
    refine law_at (H := script) inK G B B2 lim gens ⟨_, _, ha⟩ room F sysm binds (hsp _ only (.inl (.inr ⟨_, at_⟩))) only ?_ ?_ (fun _ => hk) (vs := vs) (ns := ns)
    · intro b u z
      by_cases hb : b = a
      · subst hb
        rw [at_] at z
        cases z
        refine ⟨ha, ?_, vs, _, rv, ha⟩
        rw [List.length_map]
        exact size
      · rw [off b hb] at z
        cases z
    · intro b z
      apply Classical.byContradiction
      intro hb
      exact z (off b hb)
end
theorem walk_G {l : PySem.W.OpenLaw} {n k : Nat} {q : Program} {loose : List Str} {XP : (Str → Option Value) → Heap → Prop} {YP : World → Heap → Prop} {d : DefRec} {K : Params → PySem.W.Frag} {sp : PySem.W.Frag → Sp} {x : Str}
    (most : l.most = some n) (small : n ≤ sizeLine) (plain : d.params.defaults = []) (room : Rm k callerA) (bare : importsNone q = true) (hY : ∀ (w : World) (h : Heap), YP w h → (K w.params).In h)
    (F : ∀ (w : World) (mg : Str → Option Value) (fa : Addr) (h : Heap), (K w.params).In h → h.Ns mainGlobals mg → mg d.name = some (.ref fa) →
      ∃ fd : FuncData, (∀ (s : Shared) (u : Value), BindsTo s fd ⟨[u], []⟩ [(x, u)]) ∧ ∀ base : Heap, (K w.params).In base → base.Ns mainGlobals mg → (∃ m, base.Ns sysModules m) → FnG l.prog w (K w.params) mg base k fa fd [x] (sp (K w.params)))
    (hsp : ∀ (K : PySem.W.Frag) (H : Hp) (a : Addr) (ns : List Int), ns.length ≤ n → (∀ z ∈ ns, Builtin.Int.intBits z ≤ 1048576) → Only H → SqL K H a (ns.map V.int) → sp K [.ref a] H (fun v _ => v = .bl true) fun _ _ _ => False) :
    PySem.W.WalkO q loose XP YP l.row.toRowW d [] (fun f vs => PySem.call f vs) := by
  refine Att.attach_callB most plain ?_
  intro w s₀ s₁ mg mb fa o pm cd doc a vs ns G Y ho hd hcd hmg hobj hints hlen hbits hg
  have inK := hY w _ Y
  obtain ⟨fd, hb, hF⟩ := F w mg fa _ inK G.T.g hmg
  refine law_callG inK G.T.g G.T.b G.T.builtins G.T.nolimit hg hobj hints (Nat.le_trans hlen small) room hF ((G.T.seer bare).mods.elim fun m z => ⟨m, z.1⟩) hb ?_
  intro H hO hS
  exact hsp _ H a ns hlen hbits hO hS
end Mw
namespace Mw
open PySem PySem.Spec PyProof.Rows L2
/-! ### readings, a step at a time -/
section
variable {σ : L2.St} {H : Hp} {Q : VK} {QA : List V → Hp → Prop} {D : Ends} {ta tb te : TE} {t : TA} {i : Nat} {v x y : V} {K : PySem.W.Frag}
theorem rd_var (h : σ[i]? = some (some v)) (q : Q v H) : tVar i σ H Q := ⟨v, h, q⟩
theorem rd_c (q : Q v H) : tC v σ H Q := q
theorem rd_op {r : R2} (q : ta σ H fun x H1 => tb σ H1 fun y H2 => r x y H2 Q) : tOp r ta tb σ H Q := q
theorem rd_un {r : V → Hp → VK → Prop} (q : ta σ H fun x H1 => r x H1 Q) : tUn r ta σ H Q := q
theorem rd_I0 {g : Int → Int → V} {a b : Int} (q : Q (g a b) H) : rI0 g (.int a) (.int b) H Q := ⟨a, b, rfl, rfl, q⟩
theorem rd_U {g : Int → V} {a : Int} (q : Q (g a) H) : rU g (.int a) H Q := ⟨a, rfl, q⟩
theorem rd_nil (q : QA [] H) : tNil σ H QA := q
theorem rd_cons (q : ta σ H fun x H1 => t σ H1 fun xs H2 => QA (x :: xs) H2) : tCons ta t σ H QA := q
theorem rd_go {sp : Sp} (q : t σ H fun vs H1 => sp vs H1 Q (fun _ _ _ => False)) : tGo sp t σ H Q := q
theorem rd_cb {r : List V → Hp → VK → Prop} (q : t σ H fun vs H1 => r vs H1 Q) : tCB r t σ H Q := q
theorem rd_dget {k : Key} {a : Addr} {kvs : List (Key × V)} {td ty : TE} (q : td σ H fun x H1 => ty σ H1 fun y H2 => ∃ a v, x = .ref a ∧ DGet H2 a y (some v) ∧ Q v H2) : tDGet td ty σ H Q := q
theorem rd_tup (q : t σ H fun xs H1 => xs.length ≤ sizeLine ∧ ∀ p, H1 p = none → Q (.ref p) (upd H1 p (.tup xs))) : tTup t σ H Q := q
theorem rd_lst (q : t σ H fun xs H1 => xs.length ≤ sizeLine ∧ ∀ p, H1 p = none → Q (.ref p) (upd H1 p (.lst xs))) : tLst t σ H Q := q
theorem rd_asg {g : TG} (q : te σ H fun x H1 => g x σ H1 D.nx) : tAsg te g D σ H := q
theorem rd_name {N : L2.St → Hp → Prop} (q : N (σ.set i (some v)) H) : gName i v σ H N := q
theorem rd_seq {t u : TS} (q : t { D with nx := u D } σ H) : tSeq t u D σ H := q
theorem rd_ret (q : te σ H D.rt) : tRet te D σ H := q
theorem rd_drop (q : te σ H fun _ H1 => D.nx σ H1) : tDrop te D σ H := q
theorem rd_par {j : Nat} (q : t σ H fun vs H1 => ∃ v w, vs = [v, w] ∧ D.nx ((σ.set i (some v)).set j (some w)) H1) : tPar i j t D σ H := q
theorem rd_if {tc : TT} {t u : TS} (q : tc σ H fun b H1 => if b = true then t D σ H1 else u D σ H1) : tIfS tc t u D σ H := q
theorem rd_next (q : D.nx σ H) : tNext D σ H := q
theorem rd_test {QT : Bool → Hp → Prop} (q : te σ H fun x H1 => ∃ k, x = .bl k ∧ QT k H1) : tTest te σ H QT := q
theorem rd_bm {r : V → List V → Hp → VK → Prop} {T : String} (q : ta σ H fun x H1 => tyV K T x H1 ∧ t σ H1 fun xs H2 => r x xs H2 Q) : tBM K T r ta t σ H Q := q
theorem rd_bm0 {r : V → List V → Hp → VK → Prop} {T : String} (q : ta σ H fun x H1 => tyV K T x H1 ∧ r x [] H1 Q) : tBM0 K T r ta σ H Q := q
theorem rd_ife {tt : TT} (q : tt σ H fun c H1 => if c = true then ta σ H1 Q else tb σ H1 Q) : tIf tt ta tb σ H Q := q
theorem rd_not {tt : TT} {QT : Bool → Hp → Prop} (q : tt σ H fun c H1 => QT (!c) H1) : tNot tt σ H QT := q
theorem rd_and {t1 t2 : TT} {QT : Bool → Hp → Prop} (q : t1 σ H fun c H1 => if c = true then t2 σ H1 QT else QT false H1) : tAnd t1 t2 σ H QT := q
theorem rd_or {t1 t2 : TT} {QT : Bool → Hp → Prop} (q : t1 σ H fun c H1 => if c = true then QT true H1 else t2 σ H1 QT) : tOr t1 t2 σ H QT := q
theorem rd_B {QT : Bool → Hp → Prop} (q : te σ H fun x H1 => ∃ c, x = .bl c ∧ QT c H1) : tB te σ H QT := q
theorem rd_andV (q : ta σ H fun x H1 => ∃ c, x = .bl c ∧ if c = true then tb σ H1 Q else Q (.bl false) H1) : tAndV ta tb σ H Q := q
theorem rd_orV (q : ta σ H fun x H1 => ∃ c, x = .bl c ∧ if c = true then Q (.bl true) H1 else tb σ H1 Q) : tOrV ta tb σ H Q := q
theorem rd_notV (q : ta σ H fun x H1 => ∃ c, x = .bl c ∧ Q (.bl (!c)) H1) : tNotV ta σ H Q := q
theorem rd_bl {b : Bool} {N : Bool → Prop} (q : N b) : ∃ k, V.bl b = .bl k ∧ N k := ⟨b, rfl, q⟩
theorem rd_ppc {tk tv : TE} {r : List (TE × TE)} {QP : List (V × V) → Hp → Prop} (q : tk σ H fun x H1 => tv σ H1 fun y H2 => tPairs r σ H2 fun ps H3 => QP ((x, y) :: ps) H3) : tPairs ((tk, tv) :: r) σ H QP := q
theorem rd_ppn {QP : List (V × V) → Hp → Prop} (q : QP [] H) : tPairs [] σ H QP := q
theorem rd_i1 {a : Int} {N : Int → Prop} (q : N a) : ∃ i, [V.int a] = [V.int i] ∧ N i := ⟨a, rfl, q⟩
theorem rd_int1 {a : Int} {N : Int → Prop} {R : Prop} (q : N a) : (∃ i, [V.int a] = [V.int i] ∧ N i) ∨ R := .inl ⟨a, rfl, q⟩
theorem rd_I {C : Int → Int → Prop} {g : Int → Int → V} {a b : Int} (c : C a b) (q : Q (g a b) H) : rI C g (.int a) (.int b) H Q := ⟨a, b, rfl, rfl, c, q⟩
theorem int_at {ns : List Int} {i : Nat} {x : V} (h : (ns.map V.int)[i]? = some x) : ∃ z, ns[i]? = some z ∧ x = .int z := by
  rw [List.getElem?_map] at h
  cases e : ns[i]? with
  | none =>
    rw [e] at h
    cases h
  | some z =>
    rw [e] at h
    exact ⟨z, rfl, (Option.some.inj h).symm⟩
theorem rd_yes {QT : Bool → Hp → Prop} (q : QT true H) : tYes σ H QT := q
theorem snoc_int (ms : List Int) (z : Int) : ms.map V.int ++ [V.int z] = (ms ++ [z]).map V.int := by rw [List.map_append] <;> rfl
theorem rd_two {N : V → V → Prop} (q : N x y) : ∃ v w, [x, y] = [v, w] ∧ N v w := ⟨x, y, rfl, q⟩
end
end Mw
/-! ### data -/
namespace Mw
open PySem PySem.Spec PyProof.Rows L2
section
variable {K : PySem.W.Frag} {H H' : Hp}
mutual
theorem dp_same (e : Same H H') : ∀ (d : PyData) (v : V), Dp K H v d → Dp K H' v d
  | .none, _, h => by
    cases h
    exact .non
  | .bool b, _, h => by
    cases h
    exact .bl b
  | .int i, _, h => by
    cases h
    exact .int i
  | .str x, _, h => by
    cases h
    exact .str x
  | .list ds, _, h => by
    cases h with
    | lst hs ha => exact .lst (e.seq hs) (dps_same e ds _ ha)
  | .tuple ds, _, h => by
    cases h with
    | tup hs ha => exact .tup (seqT e hs) (dps_same e ds _ ha)
  | .dict _, _, h => by cases h
theorem dps_same (e : Same H H') : ∀ (ds : List PyData) (vs : List V), DpAll K H vs ds → DpAll K H' vs ds
  | [], _, h => by
    cases h
    exact .nil
  | d :: ds, _, h => by
    cases h with
    | cons h1 h2 => exact .cons (dp_same e d _ h1) (dps_same e ds _ h2)
end
/-- data that == can be asked of -/
def Good (K : PySem.W.Frag) (H : Hp) (v : V) : Prop := ∃ d, Dp K H v d ∧ d.canLay0 = true ∧ d.depth ≤ 60
theorem Good.same {v : V} (g : Good K H v) (e : Same H H') : Good K H' v := by
  obtain ⟨d, h1, h2, h3⟩ := g
  exact ⟨d, dp_same e d v h1, h2, h3⟩
theorem good_all : ∀ {xs : List V}, (∀ x ∈ xs, Good K H x) → ∃ ds, DpAll K H xs ds ∧ PyData.canLayAll0 ds = true ∧ PyData.depthAll ds ≤ 60 ∧ ds.length = xs.length
  | [], _ => ⟨[], .nil, by simp [PyData.canLayAll0], by simp [PyData.depthAll], rfl⟩
  | x :: xs, h => by
    obtain ⟨d, h1, h2, h3⟩ := h x (List.mem_cons_self ..)
    obtain ⟨ds, k1, k2, k3, k4⟩ := good_all (xs := xs) fun y hy => h y (List.mem_cons_of_mem _ hy)
    refine ⟨d :: ds, .cons h1 k1, by simp [PyData.canLayAll0, h2, k2], ?_, by rw [List.length_cons, List.length_cons, k4]⟩
    simp only [PyData.depthAll]
    omega
theorem eqv_empty (ds : List PyData) : PyData.eqv (.list ds) (.list []) = ds.isEmpty := by
  cases ds with
  | nil => simp [PyData.eqv, PyData.eqvAll]
  | cons d ds => simp [PyData.eqv, PyData.eqvAll]
theorem shaped_nil : SeqAt.shaped (.list []) = true := by
  simp [SeqAt.shaped, PyData.canLay0, PyData.canLayAll0, PyData.depth, PyData.depthAll]
/-- xs != [], == [] where xs holds data -/
theorem ne_nil {Q : VK} {a b : Addr} {xs : List V} (ha : SqL K H a xs) (hb : SqL K H b []) (g : ∀ x ∈ xs, Good K H x) (q : Q (.bl (!xs.isEmpty)) H) : rNeD K (.ref a) (.ref b) H Q := by
  obtain ⟨ds, h1, h2, h3, h4⟩ := good_all g
  refine ⟨.list ds, .list [], .lst ha h1, .lst hb .nil, ?_, shaped_nil, ?_⟩
  · show ((PyData.list ds).canLay0 && decide ((PyData.list ds).depth ≤ 64)) = true
    rw [Bool.and_eq_true]
    refine ⟨by simp only [PyData.canLay0]; exact h2, decide_eq_true ?_⟩
    simp only [PyData.depth]
    omega
  · rw [eqv_empty, show ds.isEmpty = xs.isEmpty by cases ds <;> cases xs <;> first | rfl | (simp at h4)]
    exact q
theorem eq_nil {Q : VK} {a b : Addr} {xs : List V} (ha : SqL K H a xs) (hb : SqL K H b []) (g : ∀ x ∈ xs, Good K H x) (q : Q (.bl xs.isEmpty) H) : rEqD K (.ref a) (.ref b) H Q := by
  obtain ⟨ds, h1, h2, h3, h4⟩ := good_all g
  refine ⟨.list ds, .list [], .lst ha h1, .lst hb .nil, ?_, shaped_nil, ?_⟩
  · show ((PyData.list ds).canLay0 && decide ((PyData.list ds).depth ≤ 64)) = true
    rw [Bool.and_eq_true]
    refine ⟨by simp only [PyData.canLay0]; exact h2, decide_eq_true ?_⟩
    simp only [PyData.depth]
    omega
  · rw [eqv_empty, show ds.isEmpty = xs.isEmpty by cases ds <;> cases xs <;> first | rfl | (simp at h4)]
    exact q
theorem good_int (i : Int) : Good K H (.int i) := ⟨_, .int i, rfl, by simp [PyData.depth]⟩
theorem good_str {x : Str} (h : PyData.strOk x = true) : Good K H (.str x) := ⟨_, .str x, by simpa [PyData.canLay0] using h, by simp [PyData.depth]⟩
end
theorem hu64 {A : Around} {k : Nat} (hr : Room k A) : A.units + 64 < cLine := by
  have := hr.un
  omega
end Mw
/-! ### data with dicts, and how it is shown -/
namespace Mw
open PySem PySem.Spec PyProof.Rows L2
mutual
/-- data of any depth, dicts by ints and texts too -/
inductive Dd (K : PySem.W.Frag) (H : Hp) : V → PyData → Prop
  | non : Dd K H .non .none
  | bl (b : Bool) : Dd K H (.bl b) (.bool b)
  | int (i : Int) : Dd K H (.int i) (.int i)
  | str (x : Str) : Dd K H (.str x) (.str x)
  | lst {a : Addr} {xs : List V} {ds : List PyData} : H a = some (.lst xs) → DdAll K H xs ds → Dd K H (.ref a) (.list ds)
  | tup {a : Addr} {xs : List V} {ds : List PyData} : SqT K H a xs → DdAll K H xs ds → Dd K H (.ref a) (.tuple ds)
  | dic {a : Addr} {kvs : List (Key × V)} {ps : List (PyData × PyData)} : H a = some (.dK kvs) → DdAll K H (kvs.map fun p => kV p.1) (ps.map (·.1)) → DdAll K H (kvs.map (·.2)) (ps.map (·.2)) → Dd K H (.ref a) (.dict ps)
inductive DdAll (K : PySem.W.Frag) (H : Hp) : List V → List PyData → Prop
  | nil : DdAll K H [] []
  | cons {v : V} {vs : List V} {d : PyData} {ds : List PyData} : Dd K H v d → DdAll K H vs ds → DdAll K H (v :: vs) (d :: ds)
end
section
variable {K : PySem.W.Frag} {H H' : Hp}
mutual
theorem Dd.same (e : Same H H') : ∀ {v : V} {d : PyData}, Dd K H v d → Dd K H' v d
  | _, _, .non => .non
  | _, _, .bl b => .bl b
  | _, _, .int i => .int i
  | _, _, .str x => .str x
  | _, _, .lst h a => .lst (e _ _ h) (DdAll.same e a)
  | _, _, .tup h a => .tup (seqT e h) (DdAll.same e a)
  | _, _, .dic h a b => .dic (e _ _ h) (DdAll.same e a) (DdAll.same e b)
theorem DdAll.same (e : Same H H') : ∀ {vs : List V} {ds : List PyData}, DdAll K H vs ds → DdAll K H' vs ds
  | _, _, .nil => .nil
  | _, _, .cons h a => .cons (Dd.same e h) (DdAll.same e a)
end
theorem DdAll.len : ∀ {vs : List V} {ds : List PyData}, DdAll K H vs ds → vs.length = ds.length
  | _, _, .nil => rfl
  | _, _, .cons _ a => congrArg Nat.succ (DdAll.len a)
theorem DdAll.at : ∀ {vs : List V} {ds : List PyData} {i : Nat} {v : V}, DdAll K H vs ds → vs[i]? = some v → ∃ d, ds[i]? = some d ∧ Dd K H v d
  | _, _, _, _, .nil, h => by simp at h
  | _, _, 0, _, .cons a _, h => by
    cases h
    exact ⟨_, rfl, a⟩
  | _, _, i + 1, _, .cons _ t, h => DdAll.at (i := i) t h
theorem DdAll.app : ∀ {vs ws : List V} {ds es : List PyData}, DdAll K H vs ds → DdAll K H ws es → DdAll K H (vs ++ ws) (ds ++ es)
  | _, _, _, _, .nil, b => b
  | _, _, _, _, .cons h a, b => .cons h (DdAll.app a b)
theorem DdAll.drop : ∀ {vs : List V} {ds : List PyData} (k : Nat), DdAll K H vs ds → DdAll K H (vs.drop k) (ds.drop k)
  | _, _, 0, a => a
  | _, _, _ + 1, .nil => .nil
  | _, _, k + 1, .cons _ a => DdAll.drop k a
theorem DdAll.take : ∀ {vs : List V} {ds : List PyData} (k : Nat), DdAll K H vs ds → DdAll K H (vs.take k) (ds.take k)
  | _, _, 0, _ => .nil
  | _, _, _ + 1, .nil => .nil
  | _, _, k + 1, .cons h a => .cons h (DdAll.take k a)
/-- flat data is its value -/
def flatD : PyData → Bool
  | .none => true
  | .bool _ => true
  | .int _ => true
  | .str _ => true
  | _ => false
def valD : PyData → V
  | .none => .non
  | .bool b => .bl b
  | .int i => .int i
  | .str x => .str x
  | _ => .non
theorem Dd.flat {v : V} {d : PyData} (h : Dd K H v d) (f : flatD d = true) : v = valD d := by
  cases h <;> first | rfl | cases f
theorem DdAll.flat : ∀ {vs : List V} {ds : List PyData}, DdAll K H vs ds → ds.all flatD = true → vs = ds.map valD
  | _, _, .nil, _ => rfl
  | _, _, .cons h a, f => by
    rw [List.all_cons, Bool.and_eq_true] at f
    rw [List.map_cons, ← h.flat f.1, ← a.flat f.2]
theorem flat_val : ∀ {d : PyData}, flatD d = true → flatV (valD d) = true
  | .none, _ => rfl
  | .bool _, _ => rfl
  | .int _, _ => rfl
  | .str _, _ => rfl
theorem flats_val : ∀ {ds : List PyData}, ds.all flatD = true → (ds.map valD).all flatV = true
  | [], _ => rfl
  | d :: ds, f => by
    rw [List.all_cons, Bool.and_eq_true] at f
    rw [List.map_cons, List.all_cons, flat_val f.1, flats_val f.2] <;> rfl
theorem eqV_val {d e : PyData} (h : flatD d = true) (g : flatD e = true) : eqV (valD d) (valD e) = PyData.eqv d e := by
  cases d <;> cases e <;> first | (exact Bool.noConfusion h) | (exact Bool.noConfusion g) | (simp only [valD, eqV, PyData.eqv])
theorem inV_val {d : PyData} (g : flatD d = true) : ∀ {ds : List PyData}, ds.all flatD = true → inV (valD d) (ds.map valD) = ds.any fun e => PyData.eqv e d
  | [], _ => rfl
  | e :: ds, f => by
    rw [List.all_cons, Bool.and_eq_true] at f
    have ih := inV_val g f.2
    unfold inV at ih ⊢
    rw [List.map_cons, List.any_cons, List.any_cons, eqV_val f.1 g, ih]
/-- without dicts: what == reads -/
theorem canLayAll_cons {d : PyData} {ds : List PyData} (h : PyData.canLayAll0 (d :: ds) = true) : d.canLay0 = true ∧ PyData.canLayAll0 ds = true := by
  simpa [PyData.canLayAll0] using h
mutual
theorem Dd.dp : ∀ {v : V} {d : PyData}, Dd K H v d → d.canLay0 = true → Dp K H v d
  | _, _, .non, _ => .non
  | _, _, .bl b, _ => .bl b
  | _, _, .int i, _ => .int i
  | _, _, .str x, _ => .str x
  | _, _, .lst h a, c => .lst (.inl (.inl h)) (DdAll.dp a (by simpa [PyData.canLay0] using c))
  | _, _, .tup h a, c => .tup h (DdAll.dp a (by simpa [PyData.canLay0] using c))
  | _, _, .dic _ _ _, c => by simp [PyData.canLay0] at c
theorem DdAll.dp : ∀ {vs : List V} {ds : List PyData}, DdAll K H vs ds → PyData.canLayAll0 ds = true → DpAll K H vs ds
  | _, _, .nil, _ => .nil
  | _, _, .cons h a, c => .cons (Dd.dp h (canLayAll_cons c).1) (DdAll.dp a (canLayAll_cons c).2)
end
end
section
variable {X : Cx} {pins : List (Addr × Obj)} {σ : L2.St} {H : Hp} {s : Shared}
theorem keyIs_rel {P : Program} {w : World} {k : Key} {u : Value} (h : (mixKind P w).is k u = true) : RelV (kV k) u := by
  have h' : keyIs k u = true := h
  rcases keyIs_shape h' with ⟨i, t, rfl, rfl⟩ | ⟨x, t, rfl, rfl⟩
  · exact ⟨t, rfl⟩
  · exact ⟨t, rfl⟩
theorem pairs_rel {P : Program} {w : World} : ∀ {es : List DictEntry} {vs : List (Key × Value)} {kvs : List (Key × V)}, Pairs (mixKind P w) es vs → KV kvs vs →
    Vals (kvs.map fun p => kV p.1) (es.map (·.key)) ∧ Vals (kvs.map (·.2)) (es.map (·.val))
  | _, _, _, .nil, .nil => ⟨.nil, .nil⟩
  | _, _, _, .cons h1 h2 t, .cons ⟨e, r⟩ q => by
    obtain ⟨a, b⟩ := pairs_rel t q
    refine ⟨.cons ?_ a, .cons ?_ b⟩
    · show RelV (kV _) _
      rw [e]
      exact keyIs_rel h1
    · show RelV _ (DictEntry.val _)
      rw [h2]
      exact r
theorem sys_dict (I : Inv X pins σ H s) (hs : ∃ m, X.base.Ns sysModules m) : ∃ ob es ep, s.heap.get? sysModules = some ob ∧ ob.data = .dict es ep := by
  obtain ⟨m, ob, es, ep, q, d, _⟩ := hs
  exact ⟨ob, es, ep, I.bk _ _ q, d⟩
theorem not_sys (I : Inv X pins σ H s) (hs : ∃ m, X.base.Ns sysModules m) {a : Addr} {o : Obj} {vs : Array Value} {n : Nat} (h : s.heap.get? a = some o) (hd : o.data = .seq vs n) : a ≠ sysModules := by
  rintro rfl
  obtain ⟨ob, es, ep, q, d⟩ := sys_dict I hs
  rw [h] at q
  cases q
  rw [hd] at d
  cases d
mutual
theorem Dd.reads (I : Inv X pins σ H s) (hs : ∃ m, X.base.Ns sysModules m) : ∀ {v : V} {d : PyData} {u : Value}, Dd X.K H v d → RelV v u → ∃ as, Reads s.heap u d as ∧ sysModules ∉ as
  | _, _, _, .non, r => by
    cases r
    exact ⟨_, Reads.none, by simp⟩
  | _, _, _, .bl b, r => by
    cases r
    exact ⟨_, Reads.bool b, by simp⟩
  | _, _, _, .int i, r => by
    obtain ⟨t, rfl⟩ := r
    exact ⟨_, Reads.int i t, by simp⟩
  | _, _, _, .str x, r => by
    obtain ⟨t, rfl⟩ := r
    exact ⟨_, Reads.str x t, by simp⟩
  | _, _, _, .lst hl ha, r => by
    cases r
    obtain ⟨its, rv, ⟨o, n, ho, hc, _, hd⟩, _⟩ := I.list (.inl (.inl hl))
    obtain ⟨as, hr, no⟩ := DdAll.reads I hs ha rv
    refine ⟨_, Reads.list ho hc hd hr, ?_⟩
    rintro (_ | ⟨_, z⟩)
    · exact not_sys I hs ho hd rfl
    · exact no z
  | _, _, _, .tup hl ha, r => by
    cases r
    obtain ⟨its, rv, ⟨o, ho, hc, n, hd⟩, _⟩ := I.tuple hl
    obtain ⟨as, hr, no⟩ := DdAll.reads I hs ha rv
    exact ⟨_, Reads.tuple ho hc hd hr, no⟩
  | _, _, _, .dic hl h1 h2, r => by
    cases r
    obtain ⟨_, ns, vs, kv, o, es, ep, ho, hx, hd, _, hp, _⟩ := dk_of I.hok hl
    obtain ⟨r1, r2⟩ := pairs_rel hp kv
    obtain ⟨as, ha, n1⟩ := DdAll.reads I hs h1 r1
    obtain ⟨bs, hb, n2⟩ := DdAll.reads I hs h2 r2
    refine ⟨_, Reads.dict ho hx.1 hd ha hb, ?_⟩
    intro z
    rcases List.mem_append.mp z with z | z
    · rcases List.mem_cons.mp z with z | z
      · rw [← z] at ns
        cases ns
      · exact n1 z
    · exact n2 z
theorem DdAll.reads (I : Inv X pins σ H s) (hs : ∃ m, X.base.Ns sysModules m) : ∀ {vs : List V} {ds : List PyData} {us : List Value}, DdAll X.K H vs ds → Vals vs us → ∃ as, ReadsAll s.heap us ds as ∧ sysModules ∉ as
  | _, _, _, .nil, r => by
    cases r
    exact ⟨_, ReadsAll.nil, by simp⟩
  | _, _, _, .cons h t, r => by
    cases r with
    | cons r1 r2 =>
      obtain ⟨as, q1, n1⟩ := Dd.reads I hs h r1
      obtain ⟨bs, q2, n2⟩ := DdAll.reads I hs t r2
      refine ⟨_, ReadsAll.cons q1 q2, fun z => ?_⟩
      rcases List.mem_append.mp z with z | z
      · exact n1 z
      · exact n2 z
end
end
/-- what may be shown -/
def Fit (d : PyData) : Prop := d.showable = true ∧ d.depth ≤ 60 ∧ d.shown.length ≤ sizeLine
theorem call_repr {X : Cx} {k : Nat} (hr : Rm k X.A) (hs : ∃ m, X.base.Ns sysModules m) : CallR X (.builtin "repr") (fun xs H Q => ∃ v d, xs = [v] ∧ Dd X.K H v d ∧ Fit d ∧ Q (.str d.shown) H) := by
  intro pins s σ H xs us Q I r h
  obtain ⟨v, d, rfl, hd, ⟨f1, f2, f3⟩, q⟩ := h
  cases r with
  | cons rv rn =>
    cases rn
    have out : ∀ tk, EP X pins σ Q (.str d.shown tk) { s with toks := tk + 1 } := fun tk => ⟨.str d.shown, H, I.tok _, ⟨_, rfl⟩, q⟩
    have hu := hr.r.un
    cases hd with
    | non =>
      cases rv
      exact PySem.P.repr_of_none (out _)
    | bl b =>
      cases rv
      have z := out s.toks
      simp only [PyData.shown] at z
      exact PySem.P.repr_of_bool z
    | int i =>
      obtain ⟨t, rfl⟩ := rv
      have z := out s.toks
      simp only [PyData.shown] at z
      exact PySem.P.repr_of_int (of_decide_eq_true (by simpa only [PyData.showable] using f1)) z
    | str x =>
      obtain ⟨t, rfl⟩ := rv
      have z := out s.toks
      simp only [PyData.shown] at z f3
      exact PySem.P.repr_of_str z f3
    | lst hl ha =>
      obtain ⟨as, hR, no⟩ := Dd.reads I hs (.lst hl ha) rv
      cases rv
      refine repr_of_reads' hR f1 (fun _ => no) hr.g (by omega) (fun b o e => e) (fun h' u tk keep => ?_) f3
      exact ⟨.str _, H, I.kept keep, ⟨_, rfl⟩, q⟩
    | tup hl ha =>
      obtain ⟨as, hR, no⟩ := Dd.reads I hs (.tup hl ha) rv
      cases rv
      refine repr_of_reads' hR f1 (fun _ => no) hr.g (by omega) (fun b o e => e) (fun h' u tk keep => ?_) f3
      exact ⟨.str _, H, I.kept keep, ⟨_, rfl⟩, q⟩
    | dic hl h1 h2 =>
      obtain ⟨as, hR, no⟩ := Dd.reads I hs (.dic hl h1 h2) rv
      cases rv
      refine repr_of_reads' hR f1 (fun _ => no) hr.g (by omega) (fun b o e => e) (fun h' u tk keep => ?_) f3
      exact ⟨.str _, H, I.kept keep, ⟨_, rfl⟩, q⟩
end Mw
/-! ### what an expression yields, as data -/
namespace Mw
open PySem PySem.Spec PyProof.Rows L2
/-- the most numbers that are ever mixed -/
abbrev most : Nat := 1000000000
/-- the world without draws -/
def wq : Wo := ⟨fun H => H, fun _ _ => True, fun H => Same.refl H, fun _ _ => trivial, fun _ np e => by subst e; exact ⟨trivial, same_upd np, upd_same, np⟩, fun _ _ e => by
  subst e
  exact ⟨trivial, upd_same, fun a u na h => by rw [upd_ne na]; exact h⟩⟩
/-- one object out of sight -/
def hideV (D : Addr) (H : Hp) : Hp := fun a => if a = D then none else H a
theorem hide_le (D : Addr) (H : Hp) : Same (hideV D H) H := fun a o h => by
  unfold hideV at h
  split at h
  · cases h
  · exact h
theorem hide_at {D : Addr} {H : Hp} {a : Addr} {o : HO} (h : H a = some o) (n : a ≠ D) : hideV D H a = some o := by
  unfold hideV
  rw [if_neg n]
  exact h
theorem hide_of {D : Addr} {H : Hp} {a : Addr} {o : HO} (h : hideV D H a = some o) : a ≠ D ∧ H a = some o := by
  unfold hideV at h
  split at h
  · cases h
  · rename_i n
    exact ⟨n, h⟩
theorem hide_same {D : Addr} {H H' : Hp} (e : Same H H') : Same (hideV D H) (hideV D H') := fun a o h =>
  hide_at (e a o (hide_of h).2) (hide_of h).1
/-- the same world, D (which holds o) out of sight -/
def Wo.hide (U : Wo) (D : Addr) (o : HO) : Wo where
  view := fun H => hideV D (U.view H)
  ok := fun n H => U.ok n H ∧ U.view H D = some o
  le := fun H => (hide_le D _).trans (U.le H)
  mono := fun h l => ⟨U.mono h.1 l, h.2⟩
  new := by
    intro n H H1 p o' h np e
    obtain ⟨x, y, z, w⟩ := U.new h.1 np e
    have pD : p ≠ D := fun q => by
      rw [q, U.le _ _ _ h.2] at np
      cases np
    refine ⟨⟨x, y _ _ h.2⟩, hide_same y, hide_at z pD, ?_⟩
    unfold hideV
    rw [if_neg pD]
    exact w
  own := by
    intro n H H1 p o1 o2 h hp e
    obtain ⟨pD, hp⟩ := hide_of hp
    obtain ⟨x, y, z⟩ := U.own h.1 hp e
    exact ⟨⟨x, z _ _ pD.symm h.2⟩, hide_at y pD, fun a u n q => hide_at (z a u n (hide_of q).2) (hide_of q).1⟩
structure At (U : Wo) (n : Nat) (M H : Hp) : Prop where
  ok : U.ok n H
  up : Same M (U.view H)
theorem thousand {n : Nat} (h : n ≤ 100000) : n ≤ sizeLine := Nat.le_trans h (by decide)
section
variable {K : PySem.W.Frag} {U : Wo} {M : Hp} {σ : L2.St} {n c c1 c2 : Nat} {te ta tb : TE} {t : TA} {tt tu : TT}
theorem At.step {H H' : Hp} (a : At U n M H) (ok : U.ok n H') (s : Same (U.view H) (U.view H')) : At U n M H' := ⟨ok, a.up.trans s⟩
theorem At.here {H : Hp} (ok : U.ok n H) : At U n (U.view H) H := ⟨ok, Same.refl _⟩
/-- te yields the data d -/
def E1 (K : PySem.W.Frag) (U : Wo) (M : Hp) (te : TE) (σ : L2.St) (d : PyData) : Prop := ∀ n H, At U n M H → ∀ Q : VK, (∀ v H', U.ok n H' → Same (U.view H) (U.view H') → Dd K (U.view H') v d → Q v H') → te σ H Q
def A1 (K : PySem.W.Frag) (U : Wo) (M : Hp) (t : TA) (σ : L2.St) (ds : List PyData) : Prop := ∀ n H, At U n M H → ∀ Q : List V → Hp → Prop, (∀ vs H', U.ok n H' → Same (U.view H) (U.view H') → DdAll K (U.view H') vs ds → Q vs H') → t σ H Q
def T1 (U : Wo) (M : Hp) (tt : TT) (σ : L2.St) (b : Bool) : Prop := ∀ n H, At U n M H → ∀ Q : Bool → Hp → Prop, (∀ H', U.ok n H' → Same (U.view H) (U.view H') → Q b H') → tt σ H Q
theorem E1.mono {M' : Hp} {d : PyData} (h : E1 K U M te σ d) (e : Same M M') : E1 K U M' te σ d := fun n H a => h n H ⟨a.ok, e.trans a.up⟩
theorem E1.is {d e : PyData} (h : E1 K U M te σ d) (z : d = e) : E1 K U M te σ e := z ▸ h
theorem T1.is {b b' : Bool} (h : T1 U M tt σ b) (z : b = b') : T1 U M tt σ b' := z ▸ h
theorem e1_var {i : Nat} {v : V} {d : PyData} (h : σ[i]? = some (some v)) (hd : Dd K M v d) : E1 K U M (tVar i) σ d := fun n H a Q q => ⟨v, h, q v H a.ok (Same.refl _) (hd.same a.up)⟩
theorem e1_int {i : Int} : E1 K U M (tC (.int i)) σ (.int i) := fun n H a Q q => q _ H a.ok (Same.refl _) (.int i)
theorem e1_str {x : Str} : E1 K U M (tC (.str x)) σ (.str x) := fun n H a Q q => q _ H a.ok (Same.refl _) (.str x)
theorem e1_bl {b : Bool} : E1 K U M (tC (.bl b)) σ (.bool b) := fun n H a Q q => q _ H a.ok (Same.refl _) (.bl b)
theorem e1_non : E1 K U M (tC .non) σ .none := fun n H a Q q => q _ H a.ok (Same.refl _) .non
/-- a tuple that the module wrote -/
theorem e1_kt {a : Addr} {d : PyData} (h : ∀ H, Dd K H (.ref a) d) : E1 K U M (tC (.ref a)) σ d := fun n H at_ Q q => q _ H at_.ok (Same.refl _) (h _)
theorem a1_nil : A1 K U M tNil σ [] := fun n H a Q q => q _ H a.ok (Same.refl _) .nil
theorem a1_cons {d : PyData} {ds : List PyData} (h : E1 K U M te σ d) (hs : A1 K U M t σ ds) : A1 K U M (tCons te t) σ (d :: ds) := fun n H a Q q =>
  h n H a _ fun v H1 ok1 s1 d1 => hs n H1 (a.step ok1 s1) _ fun vs H2 ok2 s2 d2 => q _ H2 ok2 (s1.trans s2) (.cons (d1.same s2) d2)
theorem e1_tup {ds : List PyData} (h : A1 K U M t σ ds) (z : ds.length ≤ 100000) : E1 K U M (tTup t) σ (.tuple ds) := fun n H a Q q =>
  h n H a _ fun vs H1 ok1 s1 d1 => ⟨thousand (d1.len ▸ z), fun p np => by
    obtain ⟨ok2, s2, f2, _⟩ := U.new (o := .tup vs) ok1 np rfl
    exact q _ _ ok2 (s1.trans s2) (.tup (.inl (.inl f2)) (d1.same s2))⟩
theorem e1_lst {ds : List PyData} (h : A1 K U M t σ ds) (z : ds.length ≤ 100000) : E1 K U M (tLst t) σ (.list ds) := fun n H a Q q =>
  h n H a _ fun vs H1 ok1 s1 d1 => ⟨thousand (d1.len ▸ z), fun p np => by
    obtain ⟨ok2, s2, f2, _⟩ := U.new (o := .lst vs) ok1 np rfl
    exact q _ _ ok2 (s1.trans s2) (.lst f2 (d1.same s2))⟩
/-- an operator's rule on data -/
def R1 (K : PySem.W.Frag) (U : Wo) (r : R2) (d1 d2 d : PyData) : Prop := ∀ n H x y, U.ok n H → Dd K (U.view H) x d1 → Dd K (U.view H) y d2 → ∀ Q : VK, (∀ v H', U.ok n H' → Same (U.view H) (U.view H') → Dd K (U.view H') v d → Q v H') → r x y H Q
theorem e1_op {r : R2} {d1 d2 d : PyData} (ha : E1 K U M ta σ d1) (hb : E1 K U M tb σ d2) (hr : R1 K U r d1 d2 d) : E1 K U M (tOp r ta tb) σ d := fun n H a Q q =>
  ha n H a _ fun x H1 ok1 s1 e1 => hb n H1 (a.step ok1 s1) _ fun y H2 ok2 s2 e2 => hr n H2 x y ok2 (e1.same s2) e2 Q fun v H3 ok3 s3 e3 => q v H3 ok3 ((s1.trans s2).trans s3) e3
theorem r1_int {f : Int → Int → Int} {a b : Int} : R1 K U (rI0 fun i j => .int (f i j)) (.int a) (.int b) (.int (f a b)) := fun n H x y ok h1 h2 Q q => by
  cases h1
  cases h2
  exact ⟨a, b, rfl, rfl, q _ H ok (Same.refl _) (.int _)⟩
theorem r1_cmp {f : Int → Int → Bool} {a b : Int} : R1 K U (rI0 fun i j => .bl (f i j)) (.int a) (.int b) (.bool (f a b)) := fun n H x y ok h1 h2 Q q => by
  cases h1
  cases h2
  exact ⟨a, b, rfl, rfl, q _ H ok (Same.refl _) (.bl _)⟩
theorem r1_I {C : Int → Int → Prop} {f : Int → Int → Int} {a b : Int} (hc : C a b) : R1 K U (rI C fun i j => .int (f i j)) (.int a) (.int b) (.int (f a b)) := fun n H x y ok h1 h2 Q q => by
  cases h1
  cases h2
  exact ⟨a, b, rfl, rfl, hc, q _ H ok (Same.refl _) (.int _)⟩
theorem r1_cat {xs ys : List PyData} (z : xs.length + ys.length ≤ 100000) : R1 K U rCat (.list xs) (.list ys) (.list (xs ++ ys)) := fun n H x y ok h1 h2 Q q => by
  cases h1 with
  | lst f1 a1 =>
    cases h2 with
    | lst f2 a2 =>
      refine ⟨_, _, _, _, rfl, rfl, U.le _ _ _ f1, U.le _ _ _ f2, thousand (by rw [a1.len, a2.len]; exact z), fun p np => ?_⟩
      obtain ⟨ok2, s2, f2, _⟩ := U.new (o := .lst _) ok np rfl
      exact q _ _ ok2 s2 (.lst f2 ((a1.app a2).same s2))
theorem r1_eqI {a b : Int} : R1 K U rEq (.int a) (.int b) (.bool (decide (a = b))) := fun n H x y ok h1 h2 Q q => by
  cases h1
  cases h2
  refine ⟨rfl, ?_⟩
  rw [show decide (V.int a = V.int b) = decide (a = b) from decide_eq_decide.mpr ⟨V.int.inj, fun e => e ▸ rfl⟩]
  exact q _ H ok (Same.refl _) (.bl _)
theorem r1_neI {a b : Int} : R1 K U rNe (.int a) (.int b) (.bool (!decide (a = b))) := fun n H x y ok h1 h2 Q q => by
  cases h1
  cases h2
  refine ⟨rfl, ?_⟩
  rw [show decide (V.int a = V.int b) = decide (a = b) from decide_eq_decide.mpr ⟨V.int.inj, fun e => e ▸ rfl⟩]
  exact q _ H ok (Same.refl _) (.bl _)
theorem r1_eqS {a b : Str} : R1 K U rEq (.str a) (.str b) (.bool (decide (a = b))) := fun n H x y ok h1 h2 Q q => by
  cases h1
  cases h2
  refine ⟨rfl, ?_⟩
  rw [show decide (V.str a = V.str b) = decide (a = b) from decide_eq_decide.mpr ⟨V.str.inj, fun e => e ▸ rfl⟩]
  exact q _ H ok (Same.refl _) (.bl _)
theorem r1_neS {a b : Str} : R1 K U rNe (.str a) (.str b) (.bool (!decide (a = b))) := fun n H x y ok h1 h2 Q q => by
  cases h1
  cases h2
  refine ⟨rfl, ?_⟩
  rw [show decide (V.str a = V.str b) = decide (a = b) from decide_eq_decide.mpr ⟨V.str.inj, fun e => e ▸ rfl⟩]
  exact q _ H ok (Same.refl _) (.bl _)
/-- x in (a, b, ..), not in: flat data -/
theorem r1_inT {neg : Bool} {d : PyData} {ds : List PyData} (f : flatD d = true) (g : ds.all flatD = true) : R1 K U (rIn K neg) d (.tuple ds) (.bool (if neg then !ds.any fun e => PyData.eqv e d else ds.any fun e => PyData.eqv e d)) := fun n H x y ok h1 h2 Q q => by
  have e1 := h1.flat f
  subst e1
  cases h2 with
  | tup hq ha =>
    have e2 := ha.flat g
    subst e2
    refine ⟨_, _, rfl, .inr (seqT (U.le _) hq), flat_val f, flats_val g, ?_⟩
    rw [inV_val f g]
    cases neg <;> exact q _ H ok (Same.refl _) (.bl _)
theorem r1_inL {neg : Bool} {d : PyData} {ds : List PyData} (f : flatD d = true) (g : ds.all flatD = true) : R1 K U (rIn K neg) d (.list ds) (.bool (if neg then !ds.any fun e => PyData.eqv e d else ds.any fun e => PyData.eqv e d)) := fun n H x y ok h1 h2 Q q => by
  have e1 := h1.flat f
  subst e1
  cases h2 with
  | lst hq ha =>
    have e2 := ha.flat g
    subst e2
    refine ⟨_, _, rfl, .inl (.inl (.inl (U.le _ _ _ hq))), flat_val f, flats_val g, ?_⟩
    rw [inV_val f g]
    cases neg <;> exact q _ H ok (Same.refl _) (.bl _)
theorem r1_eqD {d e : PyData} (s1 : SeqAt.shaped d = true) (s2 : SeqAt.shaped e = true) : R1 K U (rEqD K) d e (.bool (PyData.eqv d e)) := fun n H x y ok h1 h2 Q q =>
  ⟨d, e, (h1.same (U.le _)).dp (SeqAt.canLay_of_shaped s1), (h2.same (U.le _)).dp (SeqAt.canLay_of_shaped s2), s1, s2, q _ H ok (Same.refl _) (.bl _)⟩
theorem r1_neD {d e : PyData} (s1 : SeqAt.shaped d = true) (s2 : SeqAt.shaped e = true) : R1 K U (rNeD K) d e (.bool (!PyData.eqv d e)) := fun n H x y ok h1 h2 Q q =>
  ⟨d, e, (h1.same (U.le _)).dp (SeqAt.canLay_of_shaped s1), (h2.same (U.le _)).dp (SeqAt.canLay_of_shaped s2), s1, s2, q _ H ok (Same.refl _) (.bl _)⟩
theorem e1_neg {i : Int} (h : E1 K U M ta σ (.int i)) : E1 K U M (tUn (rU fun i => .int (-i)) ta) σ (.int (-i)) := fun n H a Q q => h n H a _ fun v H1 ok1 s1 d1 => by
  cases d1
  exact ⟨i, rfl, q _ H1 ok1 s1 (.int _)⟩
/-! tests -/
theorem t1_val {b : Bool} (h : E1 K U M te σ (.bool b)) : T1 U M (tB te) σ b := fun n H a Q q => h n H a _ fun v H1 ok1 s1 d1 => by
  cases d1
  exact ⟨b, rfl, q H1 ok1 s1⟩
theorem t1_test {b : Bool} (h : E1 K U M te σ (.bool b)) : T1 U M (tTest te) σ b := fun n H a Q q => h n H a _ fun v H1 ok1 s1 d1 => by
  cases d1
  exact ⟨b, rfl, q H1 ok1 s1⟩
theorem t1_not {b : Bool} (h : T1 U M tt σ b) : T1 U M (tNot tt) σ (!b) := fun n H a Q q => h n H a _ fun H1 ok1 s1 => q H1 ok1 s1
theorem t1_yes : T1 U M tYes σ true := fun n H a Q q => q H a.ok (Same.refl _)
theorem t1_and {a b : Bool} (h1 : T1 U M tt σ a) (h2 : a = true → T1 U M tu σ b) : T1 U M (tAnd tt tu) σ (a && b) := fun n H at_ Q q => h1 n H at_ _ fun H1 ok1 s1 => by
  cases a with
  | true => exact iteT (h2 rfl n H1 (at_.step ok1 s1) Q fun H2 ok2 s2 => q H2 ok2 (s1.trans s2))
  | false => exact iteF (q H1 ok1 s1)
theorem t1_or {a b : Bool} (h1 : T1 U M tt σ a) (h2 : a = false → T1 U M tu σ b) : T1 U M (tOr tt tu) σ (a || b) := fun n H at_ Q q => h1 n H at_ _ fun H1 ok1 s1 => by
  cases a with
  | true => exact iteT (q H1 ok1 s1)
  | false => exact iteF (h2 rfl n H1 (at_.step ok1 s1) Q fun H2 ok2 s2 => q H2 ok2 (s1.trans s2))
theorem e1_and {a b : Bool} (h1 : E1 K U M ta σ (.bool a)) (h2 : a = true → E1 K U M tb σ (.bool b)) : E1 K U M (tAndV ta tb) σ (.bool (a && b)) := fun n H at_ Q q => h1 n H at_ _ fun v H1 ok1 s1 d1 => by
  cases d1
  refine ⟨a, rfl, ?_⟩
  cases a with
  | true => exact iteT (h2 rfl n H1 (at_.step ok1 s1) Q fun v H2 ok2 s2 d2 => q v H2 ok2 (s1.trans s2) d2)
  | false => exact iteF (q _ H1 ok1 s1 (.bl _))
theorem e1_or {a b : Bool} (h1 : E1 K U M ta σ (.bool a)) (h2 : a = false → E1 K U M tb σ (.bool b)) : E1 K U M (tOrV ta tb) σ (.bool (a || b)) := fun n H at_ Q q => h1 n H at_ _ fun v H1 ok1 s1 d1 => by
  cases d1
  refine ⟨a, rfl, ?_⟩
  cases a with
  | true => exact iteT (q _ H1 ok1 s1 (.bl _))
  | false => exact iteF (h2 rfl n H1 (at_.step ok1 s1) Q fun v H2 ok2 s2 d2 => q v H2 ok2 (s1.trans s2) d2)
theorem e1_not {a : Bool} (h : E1 K U M ta σ (.bool a)) : E1 K U M (tNotV ta) σ (.bool (!a)) := fun n H at_ Q q => h n H at_ _ fun v H1 ok1 s1 d1 => by
  cases d1
  exact ⟨a, rfl, q _ H1 ok1 s1 (.bl _)⟩
theorem e1_if {b : Bool} {d : PyData} (h : T1 U M tt σ b) (h1 : b = true → E1 K U M ta σ d) (h2 : b = false → E1 K U M tb σ d) : E1 K U M (tIf tt ta tb) σ d := fun n H at_ Q q => h n H at_ _ fun H1 ok1 s1 => by
  cases b with
  | true => exact iteT (h1 rfl n H1 (at_.step ok1 s1) Q fun v H2 ok2 s2 d2 => q v H2 ok2 (s1.trans s2) d2)
  | false => exact iteF (h2 rfl n H1 (at_.step ok1 s1) Q fun v H2 ok2 s2 d2 => q v H2 ok2 (s1.trans s2) d2)
/-- a <= b <= c -/
theorem t1_chain {r r' : R2} {tc : TE} {d1 d2 d3 : PyData} {a b : Bool} (ha : E1 K U M ta σ d1) (hb : E1 K U M tb σ d2) (hr : R1 K U r d1 d2 (.bool a)) (hc : a = true → E1 K U M tc σ d3) (hr' : a = true → R1 K U r' d2 d3 (.bool b)) :
    T1 U M (tTest (tChain r r' ta tb tc)) σ (a && b) := fun n H at_ Q q => ha n H at_ _ fun x H1 ok1 s1 e1 => hb n H1 (at_.step ok1 s1) _ fun y H2 ok2 s2 e2 => hr n H2 x y ok2 (e1.same s2) e2 _ fun v H3 ok3 s3 e3 => by
  cases e3
  refine ⟨a, rfl, ?_⟩
  have st := (s1.trans s2).trans s3
  cases a with
  | true =>
    refine iteT (hc rfl n H3 (at_.step ok3 st) _ fun w H4 ok4 s4 e4 => hr' rfl n H4 y w ok4 (e2.same (s3.trans s4)) e4 _ fun u H5 ok5 s5 e5 => ?_)
    cases e5
    exact ⟨b, rfl, q H5 ok5 ((st.trans s4).trans s5)⟩
  | false => exact iteF ⟨false, rfl, q H3 ok3 st⟩
/-! built-ins -/
def tyD : PyData → String
  | .none => "NoneType"
  | .bool _ => "bool"
  | .int _ => "int"
  | .str _ => "str"
  | .list _ => "list"
  | .tuple _ => "tuple"
  | .dict _ => "dict"
theorem Dd.ty {H : Hp} {v : V} {d : PyData} (h : Dd K H v d) : TyX K H v (.type (tyD d)) := by
  cases h with
  | non => exact .base .non
  | bl b => exact .base (.bl b)
  | int i => exact .base (.int i)
  | str x => exact .base (.str x)
  | lst h _ => exact .base (.lst h)
  | tup h _ =>
    rcases h with (h | ⟨o, h⟩) | ⟨o, its, m, h, hc, _⟩
    · exact .base (.tup h)
    · exact .fTuple h
    · exact .kTuple h hc
  | dic h _ _ => exact .base (.dK h)
theorem e1_isi {T : String} {d : PyData} {b : Bool} (h : E1 K U M te σ d) (hb : kitB (tyD d) T = some b) : E1 K U M (tCB (rIsi K) (tCons te (tCons (tC (.ty T)) tNil))) σ (.bool b) := fun n H a Q q => h n H a _ fun v H1 ok1 s1 d1 =>
  ⟨v, .ty T, _, _, b, rfl, .ty T, (d1.same (U.le _)).ty, kit_ty hb, q _ H1 ok1 s1 (.bl b)⟩
def isiAny (d : PyData) : List String → Option Bool
  | [] => some false
  | T :: r => match kitB (tyD d) T with
    | some true => some true
    | some false => isiAny d r
    | none => none
theorem kit_any {d : PyData} : ∀ {Ts : List String} {b : Bool}, isiAny d Ts = some b → PySem.W.kitAny K (.type (tyD d)) (Ts.map Value.type) = some b
  | [], b, h => h
  | T :: r, b, h => by
    unfold isiAny at h
    cases e : kitB (tyD d) T with
    | none =>
      rw [e] at h
      cases h
    | some x =>
      rw [e] at h
      refine kitAny_cons (kit_ty e) (fun z => ?_) (fun z => ?_)
      · subst z
        exact kit_any h
      · subst z
        exact (Option.some.inj h).symm
theorem e1_isi2 {A B : String} {d : PyData} {b : Bool} (h : E1 K U M te σ d) (hb : isiAny d [A, B] = some b) : E1 K U M (tCB (rIsiT K) (tCons te (tCons (tTup (tCons (tC (.ty A)) (tCons (tC (.ty B)) tNil))) tNil))) σ (.bool b) := fun n H a Q q => h n H a _ fun v H1 ok1 s1 d1 =>
  ⟨(show 2 ≤ sizeLine by decide), fun p np => by
    obtain ⟨ok2, s2, f2, _⟩ := U.new (o := .tup [.ty A, .ty B]) ok1 np rfl
    exact ⟨v, p, [.ty A, .ty B], _, [.type A, .type B], b, rfl, upd_same, .cons (.ty A) (.cons (.ty B) .nil), ((d1.same s2).same (U.le _)).ty, kit_any (Ts := [A, B]) hb, q _ _ ok2 (s1.trans s2) (.bl b)⟩⟩
def lenD : PyData → Option Nat
  | .str x => some x.length
  | .list xs => some xs.length
  | .tuple xs => some xs.length
  | _ => none
theorem e1_len {d : PyData} {m : Nat} (h : E1 K U M te σ d) (hm : lenD d = some m) (z : m ≤ 100000) : E1 K U M (tCB (fun xs H Q => ∃ x n, xs = [x] ∧ LenV K x H n ∧ Q (.int n) H) (tCons te tNil)) σ (.int m) := fun n H a Q q => h n H a _ fun v H1 ok1 s1 d1 => by
  refine ⟨v, m, rfl, ?_, q _ H1 ok1 s1 (.int _)⟩
  cases d1 with
  | str x =>
    cases hm
    exact ⟨thousand z, rfl⟩
  | lst hq ha =>
    cases hm
    exact .inl ⟨_, .inl (.inl (U.le _ _ _ hq)), ha.len.symm⟩
  | tup hq ha =>
    cases hm
    exact .inr ⟨_, seqT (U.le _) hq, ha.len.symm⟩
  | non => cases hm
  | bl b => cases hm
  | int i => cases hm
  | dic _ _ _ => cases hm
theorem bools {H : Hp} : ∀ {bs : List Bool} {vs : List V}, DdAll K H vs (bs.map .bool) → vs = bs.map V.bl
  | [], _, .nil => rfl
  | b :: bs, _, .cons h a => by
    cases h
    rw [List.map_cons, ← bools a]
theorem e1_all {bs : List Bool} (h : E1 K U M te σ (.list (bs.map .bool))) : E1 K U M (tCB (rAll K) (tCons te tNil)) σ (.bool (bs.all id)) := fun n H a Q q => h n H a _ fun v H1 ok1 s1 d1 => by
  cases d1 with
  | lst hq ha =>
    have e := bools ha
    subst e
    exact ⟨_, bs, rfl, .inl (.inl (U.le _ _ _ hq)), q _ H1 ok1 s1 (.bl _)⟩
theorem e1_tuple {d : PyData} {ds : List PyData} (h : E1 K U M te σ d) (hd : d = .list ds ∨ d = .tuple ds) : E1 K U M (tCB (fun xs H Q => ∃ p ys, xs = [.ref p] ∧ ((SqL K H p ys ∧ ∀ l, H l = none → Q (.ref l) (upd H l (.tup ys))) ∨ (SqT K H p ys ∧ Q (.ref p) H))) (tCons te tNil)) σ (.tuple ds) := fun n H a Q q => h n H a _ fun v H1 ok1 s1 d1 => by
  rcases hd with rfl | rfl
  · cases d1 with
    | lst hq ha =>
      refine ⟨_, _, rfl, .inl ⟨.inl (.inl (U.le _ _ _ hq)), fun l nl => ?_⟩⟩
      obtain ⟨ok2, s2, f2, _⟩ := U.new (o := .tup _) ok1 nl rfl
      exact q _ _ ok2 (s1.trans s2) (.tup (.inl (.inl f2)) (ha.same s2))
  · cases d1 with
    | tup hq ha => exact ⟨_, _, rfl, .inr ⟨seqT (U.le _) hq, q _ H1 ok1 s1 (.tup hq ha)⟩⟩
/-! what is walked -/
def I1 (K : PySem.W.Frag) (U : Wo) (M : Hp) (wi : TI) (σ : L2.St) (ds : List PyData) : Prop := ∀ n H, At U n M H → ∀ R : It → Hp → Prop, (∀ J H', U.ok n H' → Same (U.view H) (U.view H') →
  Walk J ds.length (fun H2 => Same (U.view H') (U.view H2)) (fun i H2 v H3 => H3 = H2 ∧ ∃ d, ds[i]? = some d ∧ Dd K (U.view H') v d) → R J H') → wi σ H R
theorem i1_list {ds : List PyData} (h : E1 K U M te σ (.list ds)) : I1 K U M (iList K te) σ ds := fun n H a R r => h n H a _ fun v H1 ok1 s1 d1 => by
  cases d1 with
  | lst hq ha =>
    have hs : SqL K H1 _ _ := .inl (.inl (U.le _ _ _ hq))
    refine ⟨_, rfl, ⟨_, hs⟩, r _ H1 ok1 s1 ?_⟩
    rw [← ha.len]
    refine walk_list.mono (fun H2 z => .inl (.inl (U.le _ _ _ (z _ _ hq)))) (fun i H2 x H3 hi z y => ⟨y.1, ?_⟩)
    exact ha.at y.2
theorem i1_tup {ds : List PyData} (h : E1 K U M te σ (.tuple ds)) : I1 K U M (iTup K te) σ ds := fun n H a R r => h n H a _ fun v H1 ok1 s1 d1 => by
  cases d1 with
  | tup hq ha =>
    refine ⟨_, rfl, ⟨_, seqT (U.le _) hq⟩, r _ H1 ok1 s1 ?_⟩
    rw [← ha.len]
    refine walk_tup.mono (fun H2 z => seqT (U.le _) (seqT z hq)) (fun i H2 x H3 hi z y => ⟨y.1, ?_⟩)
    exact ha.at y.2
/-- the signs of a text -/
def signs (x : Str) : List PyData := x.cps.toList.map fun c => .str ⟨#[c]⟩
theorem i1_str {x : Str} (h : E1 K U M te σ (.str x)) : I1 K U M (iStr te) σ (signs x) := fun n H a R r => h n H a _ fun v H1 ok1 s1 d1 => by
  cases d1
  refine ⟨x, rfl, r _ H1 ok1 s1 ?_⟩
  have e : (signs x).length = x.cps.size := by
    unfold signs
    rw [List.length_map, Array.length_toList]
  rw [e]
  refine walk_str.mono (fun H2 z => trivial) (fun i H2 v H3 hi z y => ⟨y.1, ?_⟩)
  obtain ⟨c, hc, rfl⟩ := y.2
  refine ⟨.str ⟨#[c]⟩, ?_, .str _⟩
  unfold signs
  rw [List.getElem?_map, Array.getElem?_toList, hc] <;> rfl
theorem filter_snoc {α β : Type} {p : α → Bool} {f : α → β} {l : List α} {i : Nat} {d : α} (h : l[i]? = some d) : ((l.take (i + 1)).filter p).map f = ((l.take i).filter p).map f ++ (if p d = true then [f d] else []) := by
  rw [List.take_add_one, h]
  show (((l.take i) ++ [d]).filter p).map f = _
  rw [List.filter_append, List.map_append, List.filter_cons]
  split <;> rfl
/-- [e for x in xs if t] -/
theorem e1_lc {wi : TI} {j : Nat} {vs : List Nat} {ds : List PyData} {p : PyData → Bool} {f : PyData → PyData} (h : I1 K U M wi σ ds) (z : ds.length ≤ 100000) (hw : ∀ x, wipe ((wipe σ vs).set j (some x)) vs = wipe σ vs)
    (ht : ∀ (U' : Wo) M' v d, Same M M' → d ∈ ds → Dd K M' v d → T1 U' M' tt ((wipe σ vs).set j (some v)) (p d)) (he : ∀ (U' : Wo) M' v d, Same M M' → d ∈ ds → p d = true → Dd K M' v d → E1 K U' M' te ((wipe σ vs).set j (some v)) (f d)) :
    E1 K U M (tLc wi (gName j) tt te vs) σ (.list ((ds.filter p).map f)) := fun n H a Q q => h n H a _ fun J H1 ok1 s1 w => by
  intro D nD
  have a1 : At U n M H1 := a.step ok1 s1
  have nD0 : U.view H1 D = none := by
    cases e : U.view H1 D with
    | none => rfl
    | some o =>
      rw [U.le _ _ _ e] at nD
      cases nD
  have off : Same (U.view H1) (hideV D (U.view H1)) := fun b o e => hide_at e (fun q => by
    rw [q, nD0] at e
    cases e)
  refine lc_it w (fun i H' => U.ok n H' ∧ Same (U.view H1) (hideV D (U.view H')) ∧ ∃ acc, U.view H' D = some (.lst acc) ∧ DdAll K (hideV D (U.view H')) acc (((ds.take i).filter p).map f)) ?_ (fun i H' _ z => z.2.1.trans (hide_le _ _)) ?_ ?_
  · obtain ⟨ok2, s2, f2, _⟩ := U.new (o := .lst []) ok1 nD rfl
    exact ⟨ok2, off.trans (hide_same s2), [], f2, .nil⟩
  · rintro i x H2 H3 hi ⟨ok2, s2, acc, f2, da⟩ ⟨rfl, d, hd, dx⟩
    have hm : d ∈ ds := List.mem_of_getElem? hd
    refine ⟨hw x, ht (U.hide D (.lst acc)) (U.view H1) x d (a1.up) hm dx n _ ⟨⟨ok2, f2⟩, s2⟩ _ fun H4 ok4 s4 => ?_⟩
    have st : ((ds.take (i + 1)).filter p).map f = ((ds.take i).filter p).map f ++ (if p d = true then [f d] else []) := filter_snoc hd
    cases hp : p d with
    | false =>
      refine iteF ⟨ok4.1, s2.trans s4, acc, ok4.2, ?_⟩
      rw [st, hp, if_neg Bool.false_ne_true, List.append_nil]
      exact da.same s4
    | true =>
      refine iteT (he (U.hide D (.lst acc)) (U.view H1) x d (a1.up) hm hp dx n H4 ⟨ok4, s2.trans s4⟩ _ fun y H5 ok5 s5 dy => ?_)
      have hl : acc.length ≤ 100000 := by
        rw [da.len, List.length_map]
        refine Nat.le_trans (List.length_filter_le _ _) (Nat.le_trans ?_ z)
        rw [List.length_take]
        exact Nat.min_le_right _ _
      refine ⟨acc, U.le _ _ _ ok5.2, Nat.lt_of_le_of_lt hl (by decide), ?_⟩
      obtain ⟨ok6, f6, o6⟩ := U.own (o := .lst (acc ++ [y])) ok5.1 ok5.2 rfl
      have k6 : Same (hideV D (U.view H5)) (hideV D (U.view (upd H5 D (.lst (acc ++ [y]))))) := fun b u e => hide_at (o6 b u (hide_of e).1 (hide_of e).2) (hide_of e).1
      refine ⟨ok6, ((s2.trans s4).trans s5).trans k6, _, f6, ?_⟩
      rw [st, hp, if_pos rfl]
      exact ((da.same s4).same (s5.trans k6)).app (.cons (dy.same k6) .nil)
  · rintro H2 ⟨ok2, s2, acc, f2, da⟩
    rw [List.take_length] at da
    exact q _ _ ok2 (s1.trans (s2.trans (hide_le _ _))) (.lst f2 (da.same (hide_le _ _)))
/-! calls, statements -/
/-- a def that changes nothing: it yields f of its data, where pre holds of it -/
def spF (K : PySem.W.Frag) (m : Nat) (pre : List PyData → Prop) (f : List PyData → PyData) : Sp := fun vs H Q _ => ∃ (U : Wo) (n : Nat) (ds : List PyData), U.ok n H ∧ DdAll K (U.view H) vs ds ∧ ds.length = m ∧ pre ds ∧
  ∀ v H', U.ok n H' → Same (U.view H) (U.view H') → Dd K (U.view H') v (f ds) → Q v H'
theorem spF_len {m : Nat} {pre : List PyData → Prop} {f : List PyData → PyData} {vs : List V} {H : Hp} {Q : VK} {E : XK} (h : spF K m pre f vs H Q E) : vs.length = m := by
  obtain ⟨U, n, ds, _, hd, e, _⟩ := h
  rw [hd.len, e]
theorem e1_go {m : Nat} {pre : List PyData → Prop} {f : List PyData → PyData} {ds : List PyData} (h : A1 K U M t σ ds) (hm : ds.length = m) (hp : pre ds) : E1 K U M (tGo (spF K m pre f) t) σ (f ds) := fun n H a Q q =>
  h n H a _ fun vs H1 ok1 s1 d1 => ⟨U, n, ds, ok1, d1, hm, hp, fun v H2 ok2 s2 d2 => q v H2 ok2 (s1.trans s2) d2⟩
variable {D : Ends} {H : Hp}
theorem s1_ret {d : PyData} (a : At U n M H) (h : E1 K U M te σ d) (q : ∀ v H', At U n M H' → Same (U.view H) (U.view H') → Dd K (U.view H') v d → D.rt v H') : tRet te D σ H :=
  h n H a _ fun v H1 ok1 s1 d1 => q v H1 (a.step ok1 s1) s1 d1
theorem s1_asg {i : Nat} {d : PyData} (a : At U n M H) (h : E1 K U M te σ d) (q : ∀ v H', At U n (U.view H') H' → Same (U.view H) (U.view H') → Dd K (U.view H') v d → D.nx (σ.set i (some v)) H') : tAsg te (gName i) D σ H :=
  h n H a _ fun v H1 ok1 s1 d1 => q v H1 (At.here ok1) s1 d1
theorem s1_if {b : Bool} {t u : TS} (a : At U n M H) (h : T1 U M tt σ b) (q1 : b = true → ∀ H', At U n M H' → Same (U.view H) (U.view H') → t D σ H') (q2 : b = false → ∀ H', At U n M H' → Same (U.view H) (U.view H') → u D σ H') : tIfS tt t u D σ H :=
  h n H a _ fun H1 ok1 s1 => by
    cases b with
    | true => exact iteT (q1 rfl H1 (a.step ok1 s1) s1)
    | false => exact iteF (q2 rfl H1 (a.step ok1 s1) s1)
/-- the start of such a def's body -/
theorem spF_go {m : Nat} {pre : List PyData → Prop} {f : List PyData → PyData} {vs : List V} {Q : VK} {E : XK} (h : spF K m pre f vs H Q E) : ∃ (U : Wo) (n : Nat) (ds : List PyData), At U n (U.view H) H ∧ DdAll K (U.view H) vs ds ∧ ds.length = m ∧ pre ds ∧
    ∀ v H', U.ok n H' → Same (U.view H) (U.view H') → Dd K (U.view H') v (f ds) → Q v H' := by
  obtain ⟨U, n, ds, ok, hd, e, hp, q⟩ := h
  exact ⟨U, n, ds, At.here ok, hd, e, hp, q⟩
end
end Mw
/-! ### set(list or tuple of ints and texts), and how many it holds -/
namespace Mw
open PySem PySem.Spec PyProof.Rows L2
def hasK (ks : List Key) (k : Key) : Bool := ks.any fun x => decide (x = k)
theorem hasK_iff {ks : List Key} {k : Key} : hasK ks k = true ↔ k ∈ ks := by
  unfold hasK
  rw [List.any_eq_true]
  constructor
  · rintro ⟨x, hx, e⟩
    rw [← of_decide_eq_true e]
    exact hx
  · intro h
    exact ⟨k, h, decide_eq_true rfl⟩
/-- how many there are among the first i -/
def kinds (ks : List Key) : Nat → Nat
  | 0 => 0
  | i + 1 => if hasK (ks.take i) (ks.getD i (.inl 0)) = true then kinds ks i else kinds ks i + 1
theorem kinds_le (ks : List Key) : ∀ i, kinds ks i ≤ i
  | 0 => Nat.le_refl 0
  | i + 1 => by
    have h := kinds_le ks i
    unfold kinds
    split <;> omega
theorem take_more {ks : List Key} {i : Nat} (h : i < ks.length) : ks.take (i + 1) = ks.take i ++ [ks.getD i (.inl 0)] := by
  rw [List.take_add_one, List.getD_eq_getElem?_getD, List.getElem?_eq_getElem h] <;> rfl
theorem kinds_all {ks : List Key} (h : ks.Nodup) : ∀ i, i ≤ ks.length → kinds ks i = i
  | 0, _ => rfl
  | i + 1, hi => by
    have ih := kinds_all h i (by omega)
    have no : hasK (ks.take i) (ks.getD i (.inl 0)) = false := by
      cases e : hasK (ks.take i) (ks.getD i (.inl 0)) with
      | false => rfl
      | true =>
        have m := hasK_iff.mp e
        have h2 : (ks.take (i + 1)).Nodup := h.sublist (List.take_sublist _ _)
        rw [take_more (by omega)] at h2
        have h3 := (List.nodup_append.mp h2).2.2 _ m _ (List.mem_singleton.mpr rfl)
        exact absurd rfl h3
    unfold kinds
    rw [no, if_neg Bool.false_ne_true, ih]
theorem all_kinds {ks : List Key} : ∀ i, i ≤ ks.length → kinds ks i = i → (ks.take i).Nodup
  | 0, _, _ => by simp
  | i + 1, hi, h => by
    have hl := kinds_le ks i
    unfold kinds at h
    split at h
    · omega
    · rename_i no
      have ih := all_kinds (ks := ks) i (by omega) (by omega)
      rw [take_more (by omega), List.nodup_append]
      refine ⟨ih, by simp, fun a ha b hb e => ?_⟩
      rw [List.mem_singleton.mp hb] at e
      rw [e] at ha
      exact no (hasK_iff.mpr ha)
/-- the keys that values are -/
def KeysAre (prog : Program) (w : World) (vs : List Value) (ks : List Key) : Prop := Paired (fun v k => (mixKind prog w).is k v = true) vs ks
theorem keys_of {prog : Program} {w : World} : ∀ {ks : List Key} {us : List Value}, Vals (ks.map kV) us → KeysAre prog w us ks
  | [], _, .nil => .nil
  | .inl i :: ks, _, .cons r t => by
    obtain ⟨k, rfl⟩ := r
    exact .cons (mixKind_int _ _ i k) (keys_of t)
  | .inr x :: ks, _, .cons r t => by
    obtain ⟨k, rfl⟩ := r
    exact .cons (mixKind_str _ _ x k) (keys_of t)
theorem KeysAre.len {prog : Program} {w : World} {vs : List Value} {ks : List Key} (h : KeysAre prog w vs ks) : vs.length = ks.length := Paired.length h
theorem KeysAre.at {prog : Program} {w : World} : ∀ {vs : List Value} {ks : List Key}, KeysAre prog w vs ks → ∀ (i : Nat) (v : Value), vs[i]? = some v → (mixKind prog w).is (ks.getD i (.inl 0)) v = true
  | _, _, .nil, i, v, h => by simp at h
  | _, _, .cons r t, 0, v, h => by
    cases h
    exact r
  | _, _, .cons r t, i + 1, v, h => KeysAre.at t i v (by simpa using h)
theorem scan_key {prog : Program} {w : World} {k : Key} {v : Value} (h : (mixKind prog w).is k v = true) : v.scannable = true := by
  rcases keyIs_shape (show keyIs k v = true from h) with ⟨i, t, _, rfl⟩ | ⟨x, t, _, rfl⟩ <;> rfl
section
variable {prog : Program} {w : World} {A : Around} {R : Result → Shared → Prop} {I : Addr} {fp wr : List Addr} {G : Array GenState → Array GenState → Prop} {n : Nat} {P : Nat → Value → Prop} {St : Nat → Shared → Prop}
/-- the set at S holds the first i of ks -/
abbrev Held (prog : Program) (w : World) (ks : List Key) (S : Addr) (i : Nat) (h : Heap) : Prop := h.SetOf (mixKind prog w) S (hasK (ks.take i)) (kinds ks i)
theorem Held.to {ks : List Key} {S : Addr} {i : Nat} {h h' : Heap} (x : Held prog w ks S i h) (e : ∀ o, h.get? S = some o → h'.get? S = some o) : Held prog w ks S i h' := by
  obtain ⟨o, es, ep, t, ho, rest⟩ := x
  exact ⟨o, es, ep, t, e o ho, rest⟩
theorem held_is {h : Heap} {a : Addr} {S S' : Key → Bool} {m m' : Nat} (x : h.SetOf (mixKind prog w) a S m) (e : ∀ k, S k = S' k) (em : m = m') : h.SetOf (mixKind prog w) a S' m' := by
  obtain rfl : S = S' := funext e
  obtain rfl := em
  exact x
theorem fill_loop {ks : List Key} (W : WalksS prog w A.in1 I fp wr G n P St) (S : Addr) (out : S ∉ fp) (size : n = ks.length) (are : ∀ i v, P i v → (mixKind prog w).is (ks.getD i (.inl 0)) v = true) (room : n + 1 < scanBound) :
    ∀ (left i : Nat) (s : Shared), i + left = n → St i s → Held prog w ks S i s.heap →
      (∀ s', Moved (S :: wr) G s s' → Held prog w ks S n s'.heap → R (.ok (.ret .none)) s') → codeAny (model prog w) A (.builtin "set.update.loop" ⟨[.ref S, .ref I], []⟩) R s := by
  have notW : S ∉ wr := fun z => out (W.sub _ z)
  have wide : ∀ b ∈ wr, b ∈ S :: wr := fun b z => List.mem_cons_of_mem _ z
  intro left
  induction left with
  | zero =>
    intro i s hi st held fin
    obtain rfl : i = n := by omega
    refine codeAny_builtin PyProof.Rows.F.entry_set_update_loop ?_
    rw [Around.under_plainId PyProof.Rows.F.plain_set_update_loop _]
    change wpAny _ A.in1 (pyNext (.ref I) >>= _) _ _ s
    refine wpAny_bind (W.done s _ _ st ?_)
    intro s' moved
    change wpAny _ A.in1 (ret Value.none) _ _ s'
    exact wpAny_pure (fin s' (moved.mono wide) (held.to fun o e => moved.heap S o notW e))
  | succ left again =>
    intro i s hi st held fin
    have below : i < n := by omega
    refine codeAny_builtin PyProof.Rows.F.entry_set_update_loop ?_
    rw [Around.under_plainId PyProof.Rows.F.plain_set_update_loop _]
    change wpAny _ A.in1 (pyNext (.ref I) >>= _) _ _ s
    refine wpAny_bind (W.item i s _ _ below st ?_)
    intro v s1 pv st1 moved
    have isK := are i v pv
    have held1 : Held prog w ks S i s1.heap := held.to fun o e => moved.heap S o notW e
    change wpAny _ A.in1 (holding [v] (setAdd S v) >>= _) _ _ s1
    refine wpAny_bind (wpAny_holding ?_)
    unfold setAdd
    refine wpAny_holding (wpAny_bind ((mixKind prog w).pyHash isK ?_))
    refine wpAny_setAddHashed_of (s := { s1 with toks := s1.toks + 1 }) isK (scan_key isK) held1 (by have := kinds_le ks i; omega) ?_
    intro h2 only added
    have held2 : Held prog w ks S (i + 1) h2 := by
      refine held_is added ?_ ?_
      · intro k
        rw [take_more (show i < ks.length by omega)]
        unfold hasK
        rw [List.any_append]
        congr 1
        show decide (k = ks.getD i (.inl 0)) = (decide (ks.getD i (.inl 0) = k) || false)
        rw [Bool.or_false]
        exact decide_eq_decide.mpr ⟨fun z => z.symm, fun z => z.symm⟩
      · show _ = kinds ks (i + 1)
        rw [kinds]
    refine wpAny_pure ⟨plainId_quiet PyProof.Rows.F.plain_set_update_loop _, again (i + 1) _ (by omega) (W.frame _ s1 _ _ st1 (Nat.le_succ _) ?_) held2 ?_⟩
    · intro b hb o e
      rw [only.2 b (fun z => out (by rw [← z]; exact hb))]
      exact e
    · intro s3 moved3 held3
      refine fin s3 (Moved.trans W.gtrans ((moved.mono wide).then_heap (Nat.le_succ _) ?_) moved3) held3
      intro b o hb e
      rw [only.2 b (fun z => hb (by rw [z]; exact List.mem_cons_self))]
      exact e
end
/-- a new set -/
def set0 (led : Bool) : Obj := { cls := .type "set", dict := none, data := .set #[] 0 (.fresh 0 0 led) }
section
variable {prog : Program} {w : World} {A : Around} {E : Value → Shared → Prop} {s : Shared}
theorem set_seq {l : Addr} {items : Array Value} {ks : List Key} {Q : Value → Shared → Prop} (calm : A.handled = none) (seq : s.heap.IsList l items ∨ s.heap.IsTuple l items) (are : KeysAre prog w items.toList ks) (room : ks.length + 1 < scanBound)
    (out : ∀ (h' : Heap) (tk : Nat), Held prog w ks s.heap.objs.size ks.length h' → (∀ b o, b < s.heap.objs.size → s.heap.get? b = some o → h'.get? b = some o) → Q (.ref s.heap.objs.size) { s with heap := h', toks := tk }) :
    wpAny (model prog w) A (call (.type "set") [.ref l]) Q E s := by
  have size : items.size = ks.length := by rw [← are.len, Array.length_toList]
  obtain ⟨c, tl, hmro⟩ := PySem.F.called_set.mro
  have made := PySem.F.called_set.made
  have sub := PySem.F.called_set.sub
  have noType := PySem.F.called_set.notType
  have creates := PySem.F.called_set.canCreate
  have checked := PySem.F.typeCall_set_1 (.ref l)
  refine wpAny_call (codeAny_of_tree ?_)
  change wpAny _ _ (callAny (.type "set") _) _ _ _
  refine wpAny_pure ⟨Code.quiet_builtin _ (by decide +kernel), codeAny_builtin PySem.F.entry_type_call ?_⟩
  rw [Around.under_plain (weight_type_call_type "set" [.ref l] []) rfl]
  repeat (any_goals (first | assumption | wp_step))
  refine codeAny_mono (code_set_new_1 (.ref l) (E := E) (Q₁ := fun obj s₁ => ∃ led : Bool, obj = .ref s.heap.objs.size ∧ s₁ = { s with heap := s.heap.push (set0 led) }) (fun led => ⟨led, rfl, rfl⟩)) ?_
  intro r s₁ hr
  cases r with
  | error e => exact hr
  | ok fl =>
    cases fl with
    | next => exact hr.elim
    | brk => exact hr.elim
    | cont => exact hr.elim
    | ret obj =>
      obtain ⟨led, rfl, rfl⟩ := hr
      have atS : (s.heap.push (set0 led)).get? s.heap.objs.size = some (set0 led) := Heap.get?_push_size _ rfl
      have isSet : Shared.TypeIs { s with heap := s.heap.push (set0 led) } (.ref s.heap.objs.size) "set" := ⟨_, atS, rfl⟩
      have found := PySem.F.called_set.init.lookup
      have bound := PySem.F.called_set.init.bind (.ref s.heap.objs.size)
      repeat (any_goals (first | assumption | wp_step))
      refine codeAny_mono (codeAny_call_builtin (R := wants (fun r s₂ => r = .none ∧ ∃ h' tk, s₂ = { s with heap := h', toks := tk } ∧ Held prog w ks s.heap.objs.size ks.length h' ∧ (∀ b o, b < s.heap.objs.size → s.heap.get? b = some o → h'.get? b = some o)) E)
        PySem.F.called_set.init.plain PySem.F.entry_set_init (check_set_init_1 isSet ?_)) ?_
      · have before : s.heap.objs.size ≠ (s.heap.push (set0 led)).objs.size := by
          rw [Heap.size_push]
          exact Nat.ne_of_lt (Nat.lt_succ_self _)
        have calm3 : A.in1.in1.in1.handled = none := by simp [calm]
        have start : ∀ it : Obj, Held prog w ks s.heap.objs.size 0 ((s.heap.push (set0 led)).push it) := by
          intro it
          exact ⟨set0 led, #[], 0, .fresh 0 0 led, Heap.get?_push_of_some _ atS, ⟨rfl, rfl, rfl⟩, rfl, fun e he => by simp at he, fun k => by simp [hasK], by unfold scanBound; decide, by rfl, rfl⟩
        have close : ∀ (it : Obj) (s' : Shared), Moved (s.heap.objs.size :: [(s.heap.push (set0 led)).objs.size]) (fun a b => b = a) { s with heap := (s.heap.push (set0 led)).push it } s' → Held prog w ks s.heap.objs.size items.size s'.heap →
            ∃ h' tk, s' = { s with heap := h', toks := tk } ∧ Held prog w ks s.heap.objs.size ks.length h' ∧ (∀ b o, b < s.heap.objs.size → s.heap.get? b = some o → h'.get? b = some o) := by
          intro it s' moved held
          rw [size] at held
          obtain ⟨h', g', d', tk', os'⟩ := s'
          have eg : g' = s.gens := moved.gens
          have ed : d' = s.drawn := moved.drawn
          have eo : os' = s.os := moved.os
          subst eg ed eo
          refine ⟨h', tk', rfl, held, ?_⟩
          intro b o hb e
          refine moved.heap b o ?_ (Heap.get?_push_of_some _ (Heap.get?_push_of_some _ e))
          intro z
          have sz : (s.heap.push (set0 led)).objs.size = s.heap.objs.size + 1 := Heap.size_push _ _
          rcases List.mem_cons.mp z with z | z
          · exact Nat.ne_of_lt hb z
          · have z' := List.mem_singleton.mp z
            rw [sz] at z'
            exact Nat.ne_of_lt (Nat.lt_succ_of_lt hb) z'
        have val : ∀ (i : Nat) (v : Value), items[i]? = some v → (mixKind prog w).is (ks.getD i (.inl 0)) v = true := by
          intro i v hv
          exact are.at i v (by rw [Array.getElem?_toList]; exact hv)
        rcases seq with list | tuple
        · obtain ⟨⟨ocls, odict, odata, oslots⟩, hol, hcl, nl, hdl⟩ := list
          simp only at hcl hdl
          subst hcl hdl
          have low : l < s.heap.objs.size := Heap.lt_size hol
          have lAt := Heap.get?_push_of_some (set0 led) hol
          have lIs : (s.heap.push (set0 led)).IsList l items := ⟨_, lAt, rfl, nl, rfl⟩
          have no1 := PySem.F.sub_list_set
          have no2 := PySem.F.sub_list_frozenset
          have no3 : (Value.type "list" == Value.type "dict") = false := by decide
          have apart : l ≠ (s.heap.push (set0 led)).objs.size := by
            rw [Heap.size_push]
            exact Nat.ne_of_lt (Nat.lt_succ_of_lt low)
          have outside : s.heap.objs.size ∉ [(s.heap.push (set0 led)).objs.size, l] := by
            intro z
            rcases List.mem_cons.mp z with z | z
            · exact before z
            · exact Nat.ne_of_gt low (List.mem_singleton.mp z)
          unfold Builtin.«set.__init__» noKeywords Builtin.Frozenset.updateFrom
          generalize hPI : pyIter = PI
          wp_walk
          subst hPI
          refine wpAny_pyIter_list lIs (wpAny_bind (wpAny_runValue ?_))
          refine fill_loop ((Walks.list calm3 _ l apart items).toS) s.heap.objs.size outside size val (by rw [size]; exact room) items.size 0 _ (by omega) ⟨⟨_, Heap.get?_push_size _ rfl, rfl, rfl⟩, (lIs.push _)⟩ (start _) ?_
          intro s' moved held
          obtain ⟨h', tk, rfl, x, y⟩ := close _ s' moved held
          change wpAny _ _ _ _ _ _
          refine wpAny_pure ?_
          change wpAny _ _ (ret Value.none) _ _ _
          exact wpAny_pure ⟨rfl, h', tk, rfl, x, y⟩
        · obtain ⟨⟨ocls, odict, odata, oslots⟩, hol, hcl, nl, hdl⟩ := tuple
          simp only at hcl hdl
          subst hcl hdl
          have low : l < s.heap.objs.size := Heap.lt_size hol
          have lAt := Heap.get?_push_of_some (set0 led) hol
          have lIs : (s.heap.push (set0 led)).IsTuple l items := ⟨_, lAt, rfl, nl, rfl⟩
          have no1 := PySem.F.sub_tuple_set
          have no2 := PySem.F.sub_tuple_frozenset
          have no3 : (Value.type "tuple" == Value.type "dict") = false := by decide
          have apart : l ≠ (s.heap.push (set0 led)).objs.size := by
            rw [Heap.size_push]
            exact Nat.ne_of_lt (Nat.lt_succ_of_lt low)
          have outside : s.heap.objs.size ∉ [(s.heap.push (set0 led)).objs.size, l] := by
            intro z
            rcases List.mem_cons.mp z with z | z
            · exact before z
            · exact Nat.ne_of_gt low (List.mem_singleton.mp z)
          unfold Builtin.«set.__init__» noKeywords Builtin.Frozenset.updateFrom
          generalize hPI : pyIter = PI
          wp_walk
          subst hPI
          refine wpAny_pyIter_tuple lIs (wpAny_bind (wpAny_runValue ?_))
          refine fill_loop ((Walks.tuple calm3 _ l apart items).toS) s.heap.objs.size outside size val (by rw [size]; exact room) items.size 0 _ (by omega) ⟨⟨_, Heap.get?_push_size _ rfl, rfl, rfl⟩, (lIs.push _)⟩ (start _) ?_
          intro s' moved held
          obtain ⟨h', tk, rfl, x, y⟩ := close _ s' moved held
          change wpAny _ _ _ _ _ _
          refine wpAny_pure ?_
          change wpAny _ _ (ret Value.none) _ _ _
          exact wpAny_pure ⟨rfl, h', tk, rfl, x, y⟩
      · intro r₂ s₂ hr₂
        cases r₂ with
        | error e => exact hr₂
        | ok fl₂ =>
          cases fl₂ with
          | next => exact hr₂.elim
          | brk => exact hr₂.elim
          | cont => exact hr₂.elim
          | ret r =>
            obtain ⟨rfl, h', tk, rfl, held, keep⟩ := hr₂
            repeat (any_goals (first | assumption | wp_step))
            exact out _ _ held keep
end
end Mw
namespace Mw
open PySem PySem.Spec PyProof.Rows L2
def tLenK (K : PySem.W.Frag) (ta : TE) : TE := fun σ H Q => ta σ H fun x H1 => ∃ (l : Addr) (ks : List Key), x = .ref l ∧ (SqL K H1 l (ks.map kV) ∨ SqT K H1 l (ks.map kV)) ∧ ks.length ≤ 1000 ∧ Q (.int (kinds ks ks.length : Nat)) H1
theorem pe_lenK {X : Cx} {a : Expr} {ta : TE} {p p2 q pos : Pos} (ha : PE X a ta) (m1 : X.mg "len" = none) (m2 : X.mg "set" = none) (g1 : Gl X "len" := by rfl) (g2 : Gl X "set" := by rfl) (hc : X.calm = true := by rfl)
    (na : starEach [a] X.env = (false, eval a X.env) :: starEach [] X.env := by rfl) : PE X (.Call (.Name "len" p) [.Call (.Name "set" p2) [a] [] q] [] pos) (tLenK X.K ta) := by
  constructor
  intro pins s σ H Q I h
  refine Call_ (ld_blt I g1 m1 boot_len ?_)
  refine PyProof.Rows.callWith_builtin1 (PyProof.Rows.args_cons ?_ rfl) rfl rfl
  refine Call_ (ld_blt I g2 m2 boot_set ?_)
  refine PyProof.Rows.callWith_type1 (PyProof.Rows.args_cons (thn (ha.run pins s σ H _ I h) ?_) na) na rfl
  rintro v s1 ⟨x, H1, I1, r1, l, ks, rfl, seq, size, q1⟩
  refine PyProof.Rows.args_nil ?_
  cases r1
  have small : ks.length + 1 < scanBound := by unfold scanBound; omega
  have fin : ∀ (h' : Heap) (tk : Nat), Held X.prog X.w ks s1.heap.objs.size ks.length h' → (∀ b o, b < s1.heap.objs.size → s1.heap.get? b = some o → h'.get? b = some o) →
      wpAny (model X.prog X.w) X.A (spliced (backTo pos (starEach [] X.env))) (fun vs s₂ => wpAny (model X.prog X.w) X.A (call (.builtin "len") (Value.ref s1.heap.objs.size :: vs)) (EP X pins σ Q) X.xe s₂) X.xe { s1 with heap := h', toks := tk } := by
    rintro h' tk ⟨o, es, ep, t, ho, hx, hd, _, _, _, hf, hn⟩ keep
    refine PyProof.Rows.args_nil ?_
    have I2 : Inv X pins σ H1 { s1 with heap := h', toks := tk } := I1.kept fun b o e => keep b o (Heap.lt_size e) e
    have := kinds_le ks ks.length
    exact call_len_set ho hx hd hf (by rw [hn]; omega) ⟨.int (kinds ks ks.length : Nat), H1, I2.tok _, ⟨_, by rw [hn]⟩, q1⟩
  rcases seq with seq | seq
  · obtain ⟨its, r, pl, _⟩ := I1.list seq
    exact set_seq (ks := ks) (I1.ok.hd hc) (.inl pl.isList) (by simpa using keys_of r) small fin
  · obtain ⟨its, r, pl, _⟩ := I1.tuple seq
    exact set_seq (ks := ks) (I1.ok.hd hc) (.inr pl) (by simpa using keys_of r) small fin
def keyD : Key → PyData
  | .inl i => .int i
  | .inr x => .str x
theorem key_vals {K : PySem.W.Frag} {H : Hp} : ∀ {ks : List Key} {vs : List V}, DdAll K H vs (ks.map keyD) → vs = ks.map kV
  | [], _, .nil => rfl
  | .inl i :: ks, _, .cons h a => by
    cases h
    rw [List.map_cons, ← key_vals a] <;> rfl
  | .inr x :: ks, _, .cons h a => by
    cases h
    rw [List.map_cons, ← key_vals a] <;> rfl
theorem e1_lenK {K : PySem.W.Frag} {U : Wo} {M : Hp} {σ : L2.St} {te : TE} {d : PyData} {ks : List Key} (h : E1 K U M te σ d) (hd : d = .list (ks.map keyD) ∨ d = .tuple (ks.map keyD)) (z : ks.length ≤ 1000) :
    E1 K U M (tLenK K te) σ (.int (kinds ks ks.length : Nat)) := fun n H a Q q => h n H a _ fun v H1 ok1 s1 d1 => by
  rcases hd with rfl | rfl
  · cases d1 with
    | lst hq ha =>
      have e := key_vals ha
      subst e
      exact ⟨_, ks, rfl, .inl (.inl (.inl (U.le _ _ _ hq))), z, q _ H1 ok1 s1 (.int _)⟩
  · cases d1 with
    | tup hq ha =>
      have e := key_vals ha
      subst e
      exact ⟨_, ks, rfl, .inr (seqT (U.le _) hq), z, q _ H1 ok1 s1 (.int _)⟩
end Mw
/-! ### sorted of a tuple of texts -/
namespace Mw
open PySem PySem.Spec PyProof PyProof.Rows L2
section
variable {prog : Program} {w : World} {A : Around} {E : Value → Shared → Prop} {s : Shared}
theorem collect_tupM {l : Addr} {vs : List Value} {Q : List Value → Shared → Prop} (hl : s.heap.IsTuple l vs.toArray)
    (h : Q vs { s with heap := (s.heap.push (seqObj "list" #[] 0)).update s.heap.objs.size (Obj.mapSeq (· ++ vs.toArray)) }) (small : vs.length ≤ sizeLine) :
    wpAny (model prog w) A (collect (.ref l)) Q E s := by
  obtain ⟨o, ho, hc, n, hd⟩ := id hl
  unfold collect
  refine wpAny_bind (wpAny_runValue ( codeAny_builtin entry_proto_collect' ?_))
  show wpAny _ _ ( do again (.builtin "list.__iadd__" ⟨[← newList [], .ref l], []⟩)) _ _ s
  refine wpAny_bind (wpAny_newList ( wpAny_pure ⟨Code.quiet_builtin _ (by decide +kernel), codeAny_builtin entry_list_iadd' ?_⟩))
  show wpAny _ _ ( Builtin.List.listExtendWith (.ref s.heap.objs.size) (.ref l) (.ref s.heap.objs.size)) _ _ { s with heap := s.heap.push (seqObj "list" #[] 0) }
  unfold Builtin.List.listExtendWith
  have keep : (s.heap.push (seqObj "list" #[] 0)).get? l = some o := Heap.get?_push_of_some _ ho
  refine wpAny_bind (wpAny_typeOf (T := "tuple") ⟨o, keep, hc⟩ ?_)
  have yes : (Value.type "tuple" == Value.type "tuple") = true := by rfl
  rw [if_pos (by rw [yes]; simp)]
  refine wpAny_bind (listItems_at keep hd ?_)
  refine wpAny_bind (listItems_at (xs := #[]) (n := 0) ( Heap.get?_push_size _ rfl) rfl ?_)
  rw [if_neg (by simp)]
  refine wpAny_bind (listUpdate_at (xs := #[]) (n := 0) ( Heap.get?_push_size _ rfl) rfl ?_ (Nat.zero_le _) (by show (#[] ++ vs.toArray).size ≤ sizeLine + 1; simp only [Array.size_append, List.size_toArray, List.length_nil]; omega))
  refine wpAny_pure ?_
  show wpAny (model prog w) A (do
      let z ← load s.heap.objs.size
      match z.data with
      | .seq xs _ => pure xs.toList
      | _ => unsupported "internal:collect") Q E { s with heap := (s.heap.push (seqObj "list" #[] 0)).update s.heap.objs.size (Obj.mapSeq (· ++ vs.toArray)) }
  refine wpAny_bind (wpAny_load (get?_update_seq ( Heap.get?_push_size _ rfl) _) ?_)
  show wpAny _ _ ( pure ((#[] : Array Value) ++ vs.toArray).toList) Q E _
  rw [show ((#[] : Array Value) ++ vs.toArray).toList = vs by simp]
  exact wpAny_pure h
theorem sorted_tupM {l : Addr} {vs : List Value} {ss : List Str} {Q : Value → Shared → Prop} (hl : s.heap.IsTuple l vs.toArray) (hS : StrsAre vs ss) (h64 : vs.length < 64)
    (h : ∀ (out : Array Value) (ys : List Str), StrsAre out.toList ys → ys.Perm ss → sortedS ys = true → Q (.ref (s.heap.objs.size + 1)) { s with heap := sortedAll s.heap vs out }) :
    wpAny (model prog w) A (call (.builtin "sorted") [.ref l]) Q E s := by
  refine Calls.call_function_entry kind_sorted plain_sorted entry_sorted ( args_sorted1 _) ?_
  unfold Builtin.«sorted»
  refine wpAny_bind (m := checkCount "sorted" 1 1 _) ( wpAny_pure ?_)
  refine wpAny_bind (collect_tupM hl ?_ (by have : (64 : Nat) ≤ sizeLine := (by decide); omega))
  refine wpAny_bind (wpAny_newList ?_)
  have size : ((s.heap.push (seqObj "list" #[] 0)).update s.heap.objs.size (Obj.mapSeq (· ++ vs.toArray))).objs.size = s.heap.objs.size + 1 := by
    rw [Heap.size_update, size_push']
  have here : (((s.heap.push (seqObj "list" #[] 0)).update s.heap.objs.size (Obj.mapSeq (· ++ vs.toArray))).push (seqObj "list" vs.toArray 0)).get? (s.heap.objs.size + 1) = some (seqObj "list" vs.toArray 0) := by
    rw [← size]
    exact Heap.get?_push_size _ rfl
  show wpAny _ _ _ _ _ { s with heap := ((s.heap.push (seqObj "list" #[] 0)).update s.heap.objs.size (Obj.mapSeq (· ++ vs.toArray))).push (seqObj "list" vs.toArray 0) }
  rw [size]
  refine wpAny_bind (wpAny_holding (wpAny_call_entry slot_list_sort ⟨_, here, rfl⟩ entry_list_sort (list_sort_treeK strKind_oneLt here hS.keysOf (fun v1 v2 rest e => keyKind_strs (by rw [← e]; exact hS)) h64 fun st' a1 a2 => ⟨_, rfl, ?_⟩) ( args_list_sort _)))
  obtain ⟨ys, h1, h2, h3⟩ := sorted_out_str hS a1 a2
  exact wpAny_pure ⟨_, rfl, h _ ys h1 h2 h3⟩
end
/-- sorted of a list or a tuple of texts -/
def rSortedB (K : PySem.W.Frag) : List V → Hp → VK → Prop := fun vs H Q => ∃ (a : Addr) (xs : List Str), vs = [V.ref a] ∧ (SqL K H a (xs.map V.str) ∨ SqT K H a (xs.map V.str)) ∧ xs.length < 64 ∧
  ∀ (ys : List Str) (p : Addr), ys.Perm xs → H p = none → Q (.ref p) (upd H p (.lst (ys.map V.str)))
theorem cr_sortedB {X : Cx} : CallR X (.builtin "sorted") (rSortedB X.K) := by
  intro pins s σ H vs us Q I r h
  obtain ⟨a, xs, rfl, hs, h64, q⟩ := h
  rcases hs with hs | hs
  · exact cr_sortedS pins s σ H _ us Q I r ⟨a, xs, rfl, hs, h64, fun ys p h1 _ h3 => q ys p h1 h3⟩
  · obtain ⟨its, rv, hl, _⟩ := I.tuple hs
    rw [Vals.ref1 r]
    have len := rv.length
    rw [List.length_map] at len
    refine sorted_tupM hl rv.strs (by rw [← len]; exact h64) fun out ys h1 h2 h3 => ?_
    obtain ⟨ep, he⟩ := sortedAll_at s.heap its out
    have fits : (ys.map V.str).length ≤ sizeLine := by
      rw [List.length_map, h2.length_eq]
      exact small64 h64
    exact ⟨.ref _, upd H (s.heap.objs.size + 1) (.lst (ys.map V.str)), I.laid (t' := s.toks) (fun _ _ => sortedAll_old) (Nat.le_succ _) ⟨fits, out.toList, ep, vals_of_strs h1, he⟩, rfl, q ys _ h2 (I.hok.fresh (Nat.le_succ _))⟩
end Mw
local macro_rules | `(tactic| walk_at "mw1") => `(tactic| with_reducible first
  | refine Mw.rd_c ?_ | refine Mw.rd_op ?_ | refine Mw.rd_cons ?_ | refine Mw.rd_nil ?_ | refine Mw.rd_I0 ?_ | refine Mw.rd_go ?_ | refine Mw.rd_cb ?_ | refine Mw.rd_tup ?_ | refine Mw.rd_lst ?_ | refine Mw.rd_asg ?_ | refine Mw.rd_name ?_ | refine Mw.rd_seq ?_ | refine Mw.rd_ret ?_ | refine Mw.rd_drop ?_
  | refine Mw.rd_par ?_ | refine Mw.rd_if ?_ | refine Mw.rd_next ?_ | refine Mw.rd_test ?_ | refine Mw.rd_bm ?_ | refine Mw.rd_bm0 ?_ | refine Mw.rd_ife ?_ | refine Mw.rd_not ?_ | refine Mw.rd_and ?_ | refine Mw.rd_or ?_ | refine Mw.rd_B ?_ | refine Mw.rd_andV ?_ | refine Mw.rd_orV ?_ | refine Mw.rd_notV ?_ | refine Mw.rd_bl ?_ | refine Mw.rd_two ?_ | refine Mw.rd_un ?_ | refine Mw.rd_U ?_ | refine Mw.rd_i1 ?_ | (refine Mw.rd_int1 ?_; try dsimp only) | refine Mw.rd_yes ?_ | refine L2.iteT ?_ | refine L2.iteF ?_ | refine Mw.rd_ppc ?_ | refine Mw.rd_ppn ?_)
local macro_rules | `(tactic| walk_at "mwv") => `(tactic| ((with_reducible refine Mw.rd_var (v := ?v) ?h ?_); (case h => exact rfl)))
local macro_rules | `(tactic| walk_at "mwc") => `(tactic| ((with_reducible refine Mw.rd_I ?c ?_); (case c => first | exact ⟨by decide, by decide, by decide⟩ | exact ⟨by decide, by decide⟩ | exact Or.inl ⟨by decide, by decide⟩ | exact Or.inr ⟨by decide, by decide⟩ | decide | (dsimp only; decide))))
local macro_rules | `(tactic| walk_at "mw") => `(tactic| repeat (first | walk_at "mwv" | walk_at "mw1" | walk_at "mwc"))

namespace Mw
open PySem PySem.Spec PyProof.Rows L2
def topS (i : Nat) : Stmt := PySem.Challenge.pw_markedways_k05_trees_judged.main.body.getD i (.Pass ⟨0, 0, 0, 0⟩)
abbrev s_is_count : Stmt := topS 4
theorem sc_is_count : FnScope ["thing"] ["thing"] (defScope s_is_count) := ⟨rfl, rfl, rfl, by decide +kernel, rfl, by decide +kernel, by decide +kernel⟩
abbrev s_is_field : Stmt := topS 5
theorem sc_is_field : FnScope ["thing", "letter"] ["thing"] (defScope s_is_field) := ⟨rfl, rfl, rfl, by decide +kernel, rfl, by decide +kernel, by decide +kernel⟩
abbrev s_is_tree : Stmt := topS 10
theorem sc_is_tree : FnScope ["thing"] ["thing"] (defScope s_is_tree) := ⟨rfl, rfl, rfl, by decide +kernel, rfl, by decide +kernel, by decide +kernel⟩
abbrev s_is_test : Stmt := topS 11
theorem sc_is_test : FnScope ["thing"] ["thing"] (defScope s_is_test) := ⟨rfl, rfl, rfl, by decide +kernel, rfl, by decide +kernel, by decide +kernel⟩
abbrev s_is_made_of : Stmt := topS 12
theorem sc_is_made_of : FnScope ["thing", "words", "levels", "word", "inner_words", "part"] ["thing", "words", "levels"] (defScope s_is_made_of) := ⟨rfl, rfl, rfl, by decide +kernel, rfl, by decide +kernel, by decide +kernel⟩
abbrev s__law_begun : Stmt := topS 14
theorem sc__law_begun : FnScope ["script", "wide", "cell"] ["script"] (defScope s__law_begun) := ⟨rfl, rfl, rfl, by decide +kernel, rfl, by decide +kernel, by decide +kernel⟩
abbrev s__law_mixed : Stmt := topS 15
theorem sc__law_mixed : FnScope ["state", "prime", "turn", "found", "blend", "cell"] ["state"] (defScope s__law_mixed) := ⟨rfl, rfl, rfl, by decide +kernel, rfl, by decide +kernel, by decide +kernel⟩
abbrev s__law_take : Stmt := topS 16
theorem sc__law_take : FnScope ["state", "size", "found"] ["state", "size"] (defScope s__law_take) := ⟨rfl, rfl, rfl, by decide +kernel, rfl, by decide +kernel, by decide +kernel⟩
abbrev s__law_pick : Stmt := topS 17
theorem sc__law_pick : FnScope ["state", "some"] ["state", "some"] (defScope s__law_pick) := ⟨rfl, rfl, rfl, by decide +kernel, rfl, by decide +kernel, by decide +kernel⟩
abbrev s__law_shuffled : Stmt := topS 18
theorem sc__law_shuffled : FnScope ["state", "some", "left", "found"] ["state", "some"] (defScope s__law_shuffled) := ⟨rfl, rfl, rfl, by decide +kernel, rfl, by decide +kernel, by decide +kernel⟩
abbrev s__law_odd : Stmt := topS 19
theorem sc__law_odd : FnScope ["state", "some"] ["state"] (defScope s__law_odd) := ⟨rfl, rfl, rfl, by decide +kernel, rfl, by decide +kernel, by decide +kernel⟩
abbrev s__law_frame : Stmt := topS 20
theorem sc__law_frame : FnScope ["state", "upto", "some", "names", "digits"] ["state", "upto"] (defScope s__law_frame) := ⟨rfl, rfl, rfl, by decide +kernel, rfl, by decide +kernel, by decide +kernel⟩
abbrev s__law_test : Stmt := topS 21
theorem sc__law_test : FnScope ["state", "frame", "deep", "sort", "many", "portions", "turn"] ["state", "frame", "deep"] (defScope s__law_test) := ⟨rfl, rfl, rfl, by decide +kernel, rfl, by decide +kernel, by decide +kernel⟩
abbrev s__law_leaf : Stmt := topS 22
theorem sc__law_leaf : FnScope ["state", "frame", "names", "sort"] ["state", "frame"] (defScope s__law_leaf) := ⟨rfl, rfl, rfl, by decide +kernel, rfl, by decide +kernel, by decide +kernel⟩
abbrev s__law_tree : Stmt := topS 23
theorem sc__law_tree : FnScope ["state", "frame", "deep", "sort", "many", "portions", "turn"] ["state", "frame", "deep"] (defScope s__law_tree) := ⟨rfl, rfl, rfl, by decide +kernel, rfl, by decide +kernel, by decide +kernel⟩
abbrev s__law_marked_tree : Stmt := topS 24
theorem sc__law_marked_tree : FnScope ["state", "frame", "deep", "marks"] ["state", "frame", "deep", "marks"] (defScope s__law_marked_tree) := ⟨rfl, rfl, rfl, by decide +kernel, rfl, by decide +kernel, by decide +kernel⟩
abbrev s__law_is_word : Stmt := topS 25
theorem sc__law_is_word : FnScope ["thing_here", "sign"] ["thing_here"] (defScope s__law_is_word) := ⟨rfl, rfl, rfl, by decide +kernel, rfl, by decide +kernel, by decide +kernel⟩
abbrev s__law_is_due : Stmt := topS 26
theorem sc__law_is_due : FnScope ["matter", "levels", "is_bare", "word", "many", "one"] ["matter", "levels", "is_bare"] (defScope s__law_is_due) := ⟨rfl, rfl, rfl, by decide +kernel, rfl, by decide +kernel, by decide +kernel⟩
abbrev s__law_bent : Stmt := topS 27
theorem sc__law_bent : FnScope ["state", "matter", "spot", "way", "words"] ["state", "matter"] (defScope s__law_bent) := ⟨rfl, rfl, rfl, by decide +kernel, rfl, by decide +kernel, by decide +kernel⟩
abbrev s__law_chain : Stmt := topS 28
theorem sc__law_chain : FnScope ["state", "many", "found", "turn", "some"] ["state", "many"] (defScope s__law_chain) := ⟨rfl, rfl, rfl, by decide +kernel, rfl, by decide +kernel, by decide +kernel⟩
abbrev s_law : Stmt := topS 29
theorem sc_law : FnScope ["script", "state", "turn", "frame", "matter", "change", "due", "seen"] ["script"] (defScope s_law) := ⟨rfl, rfl, rfl, by decide +kernel, rfl, by decide +kernel, by decide +kernel⟩
/-- the built-ins that the text leaves alone -/
structure Blt (mg : Str → Option Value) : Prop where
  abs : mg "abs" = none
  int : mg "int" = none
  len : mg "len" = none
  list : mg "list" = none
  tuple : mg "tuple" = none
  range : mg "range" = none
  sorted : mg "sorted" = none
  isinstance : mg "isinstance" = none
  str : mg "str" = none
  bool : mg "bool" = none
  all : mg "all" = none
  set : mg "set" = none
  repr : mg "repr" = none
  min : mg "min" = none
section
variable {P : Program} {w : World} {K : PySem.W.Frag} {mg : Str → Option Value} {base : Heap}
def spBegun (K : PySem.W.Frag) : Sp := fun vs H Q _ => ∃ (a : Addr) (ns : List Int), vs = [.ref a] ∧ SqL K H a (ns.map V.int) ∧ ns.length ≤ 63 ∧
  ∀ (W : Wd) (H' : Hp), Same H H' → StOk W 0 H' → H W.d = none → H W.w = none → Q (.ref W.d) H'
theorem ok_begun {f : Addr} {fd : FuncData} (F : Fun K "_law_begun" "_law_begun" s__law_begun f fd) (T : Blt mg) : FnG P w K mg base 1 f fd ["script"] (spBegun K) := by
  refine fnG F sc__law_begun (fun vs H Q E h => ?_) (fun cdv A outer s H vs Q E hr h => ?_)
  · obtain ⟨a, ns, rfl, _⟩ := h
    rfl
  · obtain ⟨a, ns, rfl, hS, hl, q⟩ := h
    have hu := hu_of hr.r
    refine ⟨_, pss_cons (ps_setLc (i := 1) (own := [("cell", 2)]) (g := gName 2) rfl sc__law_begun.nd rfl rfl (sw_true rfl rfl rfl (by decide +kernel)) (pi_list (pv 0)) (blkOk_by (N := ["script", "wide", "cell"]) (sc := defScope s__law_begun) (by decide +kernel)) (fun _ _ _ _ _ => (pg_name (i := 2) sc__law_begun.nd rfl (.inl rfl))) (fun _ _ _ _ _ => pts_one (pt_cmpR op_ge (pe_callB call_abs (by rfl) T.abs (by decide +kernel) (pa_cons (pv 2) pa_nil)) (pe_op op_pow pe_int pe_int) (nomark _))) (fun _ _ _ _ _ => (pe_op op_sub (pe_callB call_abs (by rfl) T.abs (by decide +kernel) (pa_cons (pv 2) pa_nil)) (pe_op op_pow pe_int pe_int))))
        (pss_one (ps_ret (pe_disp (pps_cons pe_str (pv 1) (pps_cons pe_str (pe_lc (own := [("cell", 2)]) (g := gName 2) (tt := tYes) rfl sc__law_begun.nd (pi_list (pv 0)) (blkOk_by (N := ["script", "wide", "cell"]) (sc := defScope s__law_begun) (by decide +kernel)) (fun _ _ _ _ _ => (pg_name (i := 2) sc__law_begun.nd rfl (.inl rfl))) (fun _ _ _ _ _ => pts_nil) (fun _ _ _ _ _ => (pe_op op_mod (pe_callTy call_int1 (by rfl) T.int (by decide +kernel) (pa_cons (pe_callB call_abs (by rfl) T.abs (by decide +kernel) (pa_cons (pv 2) pa_nil)) pa_nil)) pe_int))) (pps_cons pe_str pe_int (pps_cons pe_str pe_int pps_nil)))) (by rfl) (by rfl) (fun z => by cases z) (by decide)))), ?_⟩
    walk_at "mw"
    refine ⟨.ref a, rfl, a, rfl, ⟨_, hS⟩, fun D nD => ?_⟩
    refine lc_list (K := K) (a := a) (xs := ns.map V.int) (fun i H' => Same H H' ∧ ∃ ms : List Int, H' D = some (.lst (ms.map V.int)) ∧ ms.length ≤ i) ⟨same_upd nD, [], upd_same, Nat.le_refl _⟩ (fun i H' _ p => p.1.seq hS) ?_ ?_
    · rintro i x H1 hi ⟨e1, ms, hD, hm⟩
      obtain ⟨z, hz, rfl⟩ := int_at hi
      have hil : i < ns.length := (List.getElem?_eq_some_iff.mp hz).1
      refine ⟨rfl, ?_⟩
      walk_at "mw"
      refine ite2 (fun _ => ?_) (fun _ => ⟨e1, ms, hD, by omega⟩)
      walk_at "mw"
      refine ⟨_, hD, (by rw [List.length_map]; exact small1000 (by omega)), ?_⟩
      rw [snoc_int]
      refine ⟨?_, _, upd_same, ?_⟩
      · exact fun b o e => by
          rw [upd_ne (ne_of_none e nD)]
          exact e1 _ _ e
      · rw [List.length_append]
        show ms.length + 1 ≤ i + 1
        omega
    · rintro H1 ⟨e1, ms, hD, hm⟩
      walk_at "mw"
      intro p np
      walk_at "mw"
      have e2 : Same H (upd H1 p (.dK [])) := e1.trans (same_upd np)
      have npD : D ≠ p := ne_of_none hD np
      refine ⟨.ref a, rfl, a, rfl, ⟨_, e2.seq hS⟩, fun C nC => ?_⟩
      have nCD : D ≠ C := ne_of_none (show upd H1 p (.dK []) D = some _ by rw [upd_ne npD]; exact hD) nC
      have nCp : p ≠ C := ne_of_none (show upd H1 p (.dK []) p = some _ from upd_same) nC
      refine lc_list (K := K) (a := a) (xs := ns.map V.int) (fun i H' => Same H H' ∧ H' D = some (.lst (ms.map V.int)) ∧ H' p = some (.dK []) ∧ ∃ cs : List Int, H' C = some (.lst (cs.map V.int)) ∧ cs.length ≤ i ∧ ∀ x ∈ cs, 0 ≤ x ∧ x < 2147483629)
        ⟨e2.trans (same_upd nC), by rw [upd_ne nCD, upd_ne npD]; exact hD, by rw [upd_ne nCp, upd_same], [], upd_same, Nat.le_refl _, fun x hx => nomatch hx⟩ (fun i H' _ q => q.1.seq hS) ?_ ?_
      · rintro i x H2 hi ⟨e3, gD, gp, cs, gC, hc, hr⟩
        obtain ⟨z, hz, rfl⟩ := int_at hi
        have hil : i < ns.length := (List.getElem?_eq_some_iff.mp hz).1
        refine ⟨rfl, ?_⟩

        walk_at "mw"
        have m0 := Int.emod_nonneg (if z < 0 then -z else z) (show (2147483629 : Int) ≠ 0 by decide)
        have m1 := Int.emod_lt_of_pos (if z < 0 then -z else z) (show (0 : Int) < 2147483629 by decide)
        refine ⟨_, gC, (by rw [List.length_map]; exact small1000 (by omega)), ?_⟩
        rw [snoc_int]
        refine ⟨?_, ?_, ?_, _, upd_same, ?_, ?_⟩
        · exact fun b o e => by
            rw [upd_ne (ne_of_none (e2 b o e) nC)]
            exact e3 _ _ e
        · rw [upd_ne nCD]
          exact gD
        · rw [upd_ne nCp]
          exact gp
        · rw [List.length_append]
          show cs.length + 1 ≤ i + 1
          omega
        · intro x hx
          rcases List.mem_append.mp hx with hx | hx
          · exact hr x hx
          · cases List.mem_singleton.mp hx
            exact ⟨m0, m1⟩
      · rintro H2 ⟨e3, gD, gp, cs, gC, hc, hr⟩
        walk_at "mw"
        refine ⟨gp, kvs0 ⟨p, D, C⟩ 0 0, rfl, (by show 4 ≤ 15; decide), ?_⟩
        have npH : H p = none := e1.free np
        refine q ⟨p, D, C⟩ _ (fun b o e => ?_) ⟨0, 0, ms, cs, ⟨?_, ?_, ?_, nCD.symm, hr, Int.le_refl 0⟩, Int.le_refl 0⟩ npH nD
        · rw [upd_ne (ne_of_none e npH)]
          exact e3 _ _ e
        · exact upd_same
        · show upd H2 p _ D = _
          rw [upd_ne npD]
          exact gD
        · show upd H2 p _ C = _
          rw [upd_ne nCp.symm]
          exact gC
end
end Mw
namespace Mw
open PySem PySem.Spec PyProof.Rows L2
section
variable {P : Program} {w : World} {K : PySem.W.Frag} {mg : Str → Option Value} {base : Heap}
def spMixed : Sp := fun vs H Q _ => ∃ (W : Wd) (r t : Int) (ns cs : List Int), vs = [.ref W.d] ∧ StAt W r t ns cs H ∧ t ≤ 1000000000000 ∧
  ∀ (k : Int) (H' : Hp), StAt W r (t + 1) ns cs H' → Same (mk W H) (mk W H') → Q (.int k) H'
theorem primes_at {i : Nat} {p : Int} (h : ([2147483629, 2147483587, 2147483579, 2147483563] : List Int)[i]? = some p) : 0 < p ∧ p < 2147483648 := by
  have hm := List.mem_of_getElem? h
  simp only [List.mem_cons, List.mem_nil_iff, or_false] at hm
  omega
theorem small_pow {b : Int} (h0 : 0 ≤ b) (h1 : b < 9223372036854775808) : CPow b 5 := ⟨by decide, by decide, by
  have : b.natAbs < 9223372036854775808 := by omega
  exact Nat.lt_trans this (by decide)⟩
theorem ok_mixed {f : Addr} {fd : FuncData} (F : Fun K "_law_mixed" "_law_mixed" s__law_mixed f fd) (T : Blt mg) : FnG P w K mg base 1 f fd ["state"] spMixed := by
  refine fnG F sc__law_mixed (fun vs H Q E h => ?_) (fun cdv A outer s H vs Q E hr h => ?_)
  · obtain ⟨W, r, t, ns, cs, rfl, _⟩ := h
    rfl
  · obtain ⟨W, r, t, ns, cs, rfl, S, ht, q⟩ := h
    have hu := hu_of hr.r
    refine ⟨_, pss_cons (ps_par (i := 2) (j := 3) rfl sc__law_mixed.nd rfl rfl (by decide) rfl rfl (pa_cons (pe_op op_add (pe_dget hu (pv 0) pe_str (fun _ _ => rfl)) pe_int) (pa_cons pe_int pa_nil)) (by rfl))
        (pss_cons (ps_dput hu (pv 0) pe_str (pv 2) rfl)
        (pss_cons (ps_for PassesOwn.never rfl (pi_list (pe_lst (pa_cons pe_int (pa_cons pe_int (pa_cons pe_int (pa_cons pe_int pa_nil)))))) (pg_name (i := 1) sc__law_mixed.nd rfl (.inl rfl))
        (pss_cons (ps_set (i := 4) sc__law_mixed.nd rfl (.inl rfl) (pe_op op_add (pe_op op_mul pe_int (pv 2)) (pe_op op_fdiv (pv 1) pe_int)))
          (pss_cons (ps_for PassesOwn.never rfl (pi_list (pe_dget hu (pv 0) pe_str (fun _ _ => rfl))) (pg_name (i := 5) sc__law_mixed.nd rfl (.inl rfl))
          (pss_one (ps_set (i := 4) sc__law_mixed.nd rfl (.inl rfl) (pe_op op_mod (pe_callTy call_int1 (by rfl) T.int (by decide +kernel) (pa_cons (pe_op op_add (pe_op op_add (pe_op op_mul (pv 4) pe_int) (pv 5)) (pv 2)) pa_nil)) (pv 1)))))
          (pss_one (ps_set (i := 3) sc__law_mixed.nd rfl (.inl rfl) (pe_op op_add (pe_op op_mul (pv 3) pe_int) (pe_op op_mod (pe_callTy call_int1 (by rfl) T.int (by decide +kernel) (pa_cons (pe_op op_pow (pv 4) pe_int) pa_nil)) (pv 1))))))))
        (pss_one (ps_ret (pv 3))))), ?_⟩
    have t0 := S.t0
    walk_at "mw"
    -- state["turn"] + 1, 0
    refine ⟨.ref W.d, rfl, W.d, .int t, rfl, ?_, ?_⟩
    · rw [← kv_turn W r t]
      exact DGet.k (k := Sum.inr "turn") S.d
    walk_at "mw"
    -- state["turn"] = turn
    refine ⟨.int (t + 1), rfl, .ref W.d, rfl, W.d, _, rfl, DPut.k (k := Sum.inr "turn") S.d (by show 4 < sizeLine; decide), ?_⟩
    rw [pk_turn]
    have S1 : StAt W r (t + 1) ns cs (upd H W.d (.dK (kvs0 W r (t + 1)))) := ⟨upd_same, by rw [upd_ne S.nwd]; exact S.w, by rw [upd_ne S.ncd]; exact S.c, S.ne, S.cs, by omega⟩
    have e1 : Same (mk W H) (mk W (upd H W.d (.dK (kvs0 W r (t + 1))))) := by
      rw [mk_upd_d]
      exact Same.refl _
    generalize upd H W.d (.dK (kvs0 W r (t + 1))) = H1 at S1 e1
    walk_at "mw"
    -- for prime in [..]
    refine ⟨by show 4 ≤ sizeLine; decide, fun p np => ?_⟩
    have S2 : StAt W r (t + 1) ns cs (upd H1 p (.lst (([2147483629, 2147483587, 2147483579, 2147483563] : List Int).map V.int))) := by
      have e := same_upd (o := .lst (([2147483629, 2147483587, 2147483579, 2147483563] : List Int).map V.int)) np
      exact ⟨e _ _ S1.d, e _ _ S1.w, e _ _ S1.c, S1.ne, S1.cs, S1.t0⟩
    have e2 : Same (mk W H) (mk W (upd H1 p (.lst (([2147483629, 2147483587, 2147483579, 2147483563] : List Int).map V.int)))) := e1.trans (mk_same (same_upd np))
    have hp : SqL K (upd H1 p (.lst (([2147483629, 2147483587, 2147483579, 2147483563] : List Int).map V.int))) p (([2147483629, 2147483587, 2147483579, 2147483563] : List Int).map V.int) := .inl (.inl upd_same)
    refine ⟨p, rfl, ⟨_, hp⟩, ?_⟩
    show ∃ W1 : Nat → Nat → L2.St → Hp → Prop, (∃ m, W1 0 m _ (upd H1 p (.lst (([2147483629, 2147483587, 2147483579, 2147483563] : List Int).map V.int)))) ∧ _
    generalize upd H1 p (.lst (([2147483629, 2147483587, 2147483579, 2147483563] : List Int).map V.int)) = H2 at S2 e2 hp
    refine for_list (K := K) (a := p) (xs := ([2147483629, 2147483587, 2147483579, 2147483563] : List Int).map V.int)
      (fun i σ H' => H' = H2 ∧ ∃ (f : Int) (y1 y4 y5 : Option V), σ = [some (.ref W.d), y1, some (.int (t + 1)), some (.int f), y4, y5]) ⟨rfl, _, _, _, _, rfl⟩ (fun i σ H' _ z => by rw [z.1]; exact hp) ?_ ?_
    · rintro i x σ H' hi ⟨rfl, f, y1, y4, y5, rfl⟩
      obtain ⟨pr, hpr, rfl⟩ := int_at hi
      obtain ⟨p0, p1⟩ := primes_at hpr
      walk_at "mw"
      -- for cell in state["cells"]
      refine ⟨.ref W.d, rfl, W.d, .ref W.c, rfl, ?_, W.c, rfl, ⟨_, .inl (.inl S2.c)⟩, ?_⟩
      · rw [← kv_cells W r (t + 1)]
        exact DGet.k (k := Sum.inr "cells") S2.d
      refine for_list (K := K) (a := W.c) (xs := cs.map V.int)
        (fun i σ H1 => H1 = H' ∧ ∃ (b : Int) (y5 : Option V), 0 ≤ b ∧ b < 9223372036854775808 ∧ σ = [some (.ref W.d), some (.int pr), some (.int (t + 1)), some (.int f), some (.int b), y5]) ⟨rfl, _, _, ?_, ?_, rfl⟩ (fun i σ H1 _ z => by rw [z.1]; exact .inl (.inl S2.c)) ?_ ?_
      · omega
      · omega
      · rintro j y σ H1 hj ⟨rfl, b, y5, b0, b1, rfl⟩
        obtain ⟨c, hc, rfl⟩ := int_at hj
        walk_at "mw"
        refine rd_I p0 ?_
        walk_at "mw"
        have m0 := Int.emod_nonneg (b * 48271 + c + (t + 1)) (show pr ≠ 0 by omega)
        have m1 := Int.emod_lt_of_pos (b * 48271 + c + (t + 1)) p0
        exact ⟨rfl, _, _, m0, by omega, rfl⟩
      · rintro σ H1 ⟨rfl, b, y5, b0, b1, rfl⟩
        walk_at "mw"
        refine rd_I (small_pow b0 b1) ?_
        walk_at "mw"
        refine rd_I p0 ?_
        walk_at "mw"
        exact ⟨rfl, _, _, _, _, rfl⟩
    · rintro σ H' ⟨rfl, f, y1, y4, y5, rfl⟩
      walk_at "mw"
      exact q _ _ S2 e2
end
end Mw
namespace Mw
open PySem PySem.Spec PyProof.Rows L2
section
variable {P : Program} {w : World} {K : PySem.W.Frag} {mg : Str → Option Value} {base : Heap}
def spTake : Sp := fun vs H Q _ => ∃ (W : Wd) (n : Nat) (z : Int), vs = [.ref W.d, .int z] ∧ StOk W n H ∧ n ≤ most ∧ 0 < z ∧ z ≤ 18446744073709551616 ∧
  ∀ (k : Int) (H' : Hp), 0 ≤ k → k < z → StOk W (n + 1) H' → Same (mk W H) (mk W H') → Q (.int k) H'
theorem div_ok {z : Int} (h0 : 0 < z) (h1 : z ≤ 18446744073709551616) : CDivW 0 z := wide_div (b := 65) h0 (by
  have : z.natAbs ≤ 18446744073709551616 := by omega
  exact Nat.lt_of_le_of_lt this (by decide)) (by decide) (by decide)
theorem ok_take {f : Addr} {fd : FuncData} (F : Fun K "_law_take" "_law_take" s__law_take f fd) (T : Blt mg) (G__law_mixed : Def P w K mg base "_law_mixed" 1 ["state"] spMixed) : FnG P w K mg base 2 f fd ["state", "size"] spTake := by
  refine fnG F sc__law_take (fun vs H Q E h => ?_) (fun cdv A outer s H vs Q E hr h => ?_)
  · obtain ⟨W, n, z, rfl, _⟩ := h
    rfl
  · obtain ⟨W, n, z, rfl, ⟨r, t, ns, cs, S, ht⟩, hn, z0, z1, q⟩ := h
    have hu := hu_of hr.r
    have hu64 := hu64 hr.r
    have hsz : (most : Int) = 1000000000 := rfl
    refine ⟨_, Evl.pss_cut (ps_if (pt_cmpR op_eq (pe_dget hu (pv 0) pe_str (fun _ _ => rfl)) pe_int (nomark _))
        (pss_one (ps_dput hu (pv 0) pe_str (pe_ifExp (pt_cmpR (op_neD hu64) (pe_dget hu (pv 0) pe_str (fun _ _ => rfl)) (pe_lst pa_nil) (nomark _)) (pe_bm PySem.F.plainAttrs_list PySem.F.slot_list_pop PySem.F.type_list_pop mt_popAt (pe_dget hu (pv 0) pe_str (fun _ _ => rfl)) (pa_cons pe_int pa_nil)) (pe_go G__law_mixed hr (pa_cons (pv 0) pa_nil))) rfl))
        pss_nil)
        (pss_cons (ps_set (i := 2) sc__law_take.nd rfl (.inl rfl) (pe_op op_mod (pe_callTy call_int1 (by rfl) T.int (by decide +kernel) (pa_cons (pe_dget hu (pv 0) pe_str (fun _ _ => rfl)) pa_nil)) (pv 1)))
        (pss_cons (ps_dput hu (pv 0) pe_str (pe_op op_fdivW (pe_dget hu (pv 0) pe_str (fun _ _ => rfl)) (pv 1)) rfl)
        (pss_one (ps_ret (pv 2))))), ?_⟩
    refine ⟨fun σ H1 => σ = [some (.ref W.d), some (.int z), none] ∧ Same (mk W H) (mk W H1) ∧ ∃ (r1 t1 : Int) (ns1 : List Int), StAt W r1 t1 ns1 cs H1 ∧ t1 ≤ n + 1, ?_, ?_⟩
    · walk_at "mw"
      refine ⟨.ref W.d, rfl, W.d, .int r, rfl, ?_, rfl, _, rfl, ?_⟩
      · rw [← kv_rest W r t]
        exact DGet.k (k := Sum.inr "rest") S.d
      by_cases h0 : V.int r = V.int 0
      · rw [decide_eq_true h0]
        walk_at "mw"
        -- state["wide"] != []
        refine ⟨.ref W.d, rfl, W.d, .ref W.w, rfl, ?_, ?_⟩
        · rw [← kv_wide W r t]
          exact DGet.k (k := Sum.inr "wide") S.d
        walk_at "mw"
        refine ⟨by show 0 ≤ sizeLine; decide, fun p np => ?_⟩
        have e1 : Same H (upd H p (.lst [])) := same_upd np
        have S1 : StAt W r t ns cs (upd H p (.lst [])) := ⟨e1 _ _ S.d, e1 _ _ S.w, e1 _ _ S.c, S.ne, S.cs, S.t0⟩
        have m1 : Same (mk W H) (mk W (upd H p (.lst []))) := mk_same e1
        have hp : (upd H p (.lst [])) p = some (.lst []) := upd_same
        generalize upd H p (.lst []) = H1 at S1 m1 hp
        refine ne_nil (.inl (.inl S1.w)) (.inl (.inl hp)) (fun x hx => ?_) ?_
        · obtain ⟨i, _, rfl⟩ := List.mem_map.mp hx
          exact good_int i
        walk_at "mw"
        cases ns with
        | cons k ns =>
          refine iteT ?_
          walk_at "mw"
          refine ⟨.ref W.d, rfl, W.d, .ref W.w, rfl, ?_, ?_⟩
          · rw [← kv_wide W r t]
            exact DGet.k (k := Sum.inr "wide") S1.d
          refine ⟨.inl ⟨rfl, _, .inl (.inl S1.w)⟩, ?_⟩
          walk_at "mw"
          refine ⟨W.w, _, 0, 0, .int k, rfl, rfl, S1.w, by decide, by decide, (by rw [List.length_map, List.length_cons]; exact seqIndex_of (Int.le_refl 0) (by omega)), rfl, ?_⟩
          refine ⟨.ref W.d, rfl, W.d, _, rfl, DPut.k (k := Sum.inr "rest") (kvs := kvs0 W r t) (by rw [upd_ne S1.nwd.symm]; exact S1.d) (by show 4 < sizeLine; decide), ?_⟩
          rw [pk_rest]
          refine ⟨rfl, ?_, k, t, ns, ⟨upd_same, ?_, ?_, S1.ne, S1.cs, S1.t0⟩, by omega⟩
          · rw [mk_upd_d, mk_upd_w]
            exact m1
          · rw [upd_ne S1.nwd, upd_same]
            rfl
          · rw [upd_ne S1.ncd, upd_ne S1.ne]
            exact S1.c
        | nil =>
          refine iteF ?_
          walk_at "mw"
          refine ⟨W, r, t, [], cs, rfl, S1, by omega, fun k H2 S2 m2 => ?_⟩
          refine ⟨.ref W.d, rfl, W.d, _, rfl, DPut.k (k := Sum.inr "rest") (kvs := kvs0 W r (t + 1)) S2.d (by show 4 < sizeLine; decide), ?_⟩
          rw [pk_rest]
          refine ⟨rfl, ?_, k, t + 1, [], ⟨upd_same, ?_, ?_, S2.ne, S2.cs, S2.t0⟩, by omega⟩
          · rw [mk_upd_d]
            exact m1.trans m2
          · rw [upd_ne S2.nwd]
            exact S2.w
          · rw [upd_ne S2.ncd]
            exact S2.c
      · rw [decide_eq_false h0]
        walk_at "mw"
        exact ⟨rfl, Same.refl _, r, t, ns, S, by omega⟩
    · rintro σ H1 ⟨rfl, m1, r1, t1, ns1, S1, h1⟩
      walk_at "mw"
      refine ⟨.ref W.d, rfl, W.d, .int r1, rfl, ?_, ?_⟩
      · rw [← kv_rest W r1 t1]
        exact DGet.k (k := Sum.inr "rest") S1.d
      walk_at "mw"
      refine rd_I z0 ?_
      walk_at "mw"
      refine ⟨.ref W.d, rfl, W.d, .int r1, rfl, ?_, ?_⟩
      · rw [← kv_rest W r1 t1]
        exact DGet.k (k := Sum.inr "rest") S1.d
      walk_at "mw"
      refine rd_I (div_ok z0 z1) ?_
      refine ⟨.ref W.d, rfl, W.d, _, rfl, DPut.k (k := Sum.inr "rest") S1.d (by show 4 < sizeLine; decide), ?_⟩
      rw [pk_rest]
      walk_at "mw"
      refine q _ _ (Int.emod_nonneg r1 (by omega)) (Int.emod_lt_of_pos r1 z0) ⟨_, t1, ns1, cs, ⟨upd_same, ?_, ?_, S1.ne, S1.cs, S1.t0⟩, by omega⟩ ?_
      · rw [upd_ne S1.nwd]
        exact S1.w
      · rw [upd_ne S1.ncd]
        exact S1.c
      · rw [mk_upd_d]
        exact m1
/-- an item of a list, a tuple, a text -/
def spPick (K : PySem.W.Frag) : Sp := fun vs H Q _ => ∃ (W : Wd) (n : Nat) (y : V), vs = [.ref W.d, y] ∧ StOk W n H ∧ n ≤ most ∧
  ((∃ (p : Addr) (xs : List V), y = .ref p ∧ (SqL K (mk W H) p xs ∨ SqT K (mk W H) p xs) ∧ xs ≠ [] ∧ xs.length ≤ 100000 ∧ ∀ (x : V) (H' : Hp), x ∈ xs → StOk W (n + 1) H' → Same (mk W H) (mk W H') → Q x H') ∨
   (∃ z : Str, y = .str z ∧ 0 < z.length ∧ z.length ≤ 100000 ∧ ∀ (c : Nat) (H' : Hp), c ∈ z.cps.toList → StOk W (n + 1) H' → Same (mk W H) (mk W H') → Q (.str ⟨#[c]⟩) H'))
theorem ok_pick {f : Addr} {fd : FuncData} (F : Fun K "_law_pick" "_law_pick" s__law_pick f fd) (T : Blt mg) (G__law_take : Def P w K mg base "_law_take" 2 ["state", "size"] spTake) : FnG P w K mg base 3 f fd ["state", "some"] (spPick K) := by
  refine fnG F sc__law_pick (fun vs H Q E h => ?_) (fun cdv A outer s H vs Q E hr h => ?_)
  · obtain ⟨W, n, y, rfl, _⟩ := h
    rfl
  · obtain ⟨W, n, y, rfl, S, hn, q⟩ := h
    refine ⟨_, pss_one (ps_ret (pe_ix ix_seq (pv 1) (pe_go G__law_take hr (pa_cons (pv 0) (pa_cons (pe_callB call_len (by rfl) T.len (by decide +kernel) (pa_cons (pv 1) pa_nil)) pa_nil))) (fun _ _ => rfl))), ?_⟩
    walk_at "mw"
    rcases q with ⟨p, xs, rfl, hp, hne, hl, q⟩ | ⟨z, rfl, h0, hl, q⟩
    · have hp' : SqL K H p xs ∨ SqT K H p xs := hp.elim (fun z => .inl ((mk_le W H).seq z)) (fun z => .inr (seqT (mk_le W H) z))
      have hpos : 0 < xs.length := List.length_pos_iff.mpr hne
      refine ⟨_, xs.length, rfl, hp'.elim (fun z => .inl ⟨xs, z, rfl⟩) (fun z => .inr ⟨xs, z, rfl⟩), ?_⟩
      walk_at "mw"
      refine ⟨W, n, _, rfl, S, hn, by omega, by omega, fun k H1 k0 k1 S1 e1 => ?_⟩
      obtain ⟨j, rfl⟩ : ∃ j : Nat, k = j := ⟨k.toNat, by omega⟩
      have hj : j < xs.length := by omega
      have hx : xs[j]? = some xs[j] := List.getElem?_eq_getElem hj
      rcases hp with z | z
      · exact .inl ⟨p, xs, _, _, rfl, rfl, (mk_le W H1).seq (e1.seq z), atI_nat hx, q _ _ (List.getElem_mem hj) S1 e1⟩
      · exact .inr (.inl ⟨p, xs, _, _, rfl, rfl, seqT (mk_le W H1) (seqT e1 z), atI_nat hx, q _ _ (List.getElem_mem hj) S1 e1⟩)
    · refine ⟨_, z.length, rfl, ⟨Nat.le_trans hl (by decide), rfl⟩, ?_⟩
      walk_at "mw"
      refine ⟨W, n, _, rfl, S, hn, by omega, by omega, fun k H1 k0 k1 S1 e1 => ?_⟩
      obtain ⟨j, rfl⟩ : ∃ j : Nat, k = j := ⟨k.toNat, by omega⟩
      have hj : j < z.cps.toList.length := by
        have : z.length = z.cps.toList.length := by rw [Array.length_toList] <;> rfl
        omega
      have hx : z.cps.toList[j]? = some z.cps.toList[j] := List.getElem?_eq_getElem hj
      exact .inr (.inr ⟨z, _, _, rfl, rfl, Nat.le_trans hl (by decide), atI_nat hx, q _ _ (List.getElem_mem hj) S1 e1⟩)
/-- the items in some order, a new list -/
def spShuf (K : PySem.W.Frag) : Sp := fun vs H Q _ => ∃ (W : Wd) (n : Nat) (p : Addr) (xs : List V), vs = [.ref W.d, .ref p] ∧ StOk W n H ∧ n + xs.length ≤ most ∧ xs.length ≤ 100000 ∧ (SqL K (mk W H) p xs ∨ SqT K (mk W H) p xs) ∧ (∀ x ∈ xs, Good K (mk W H) x) ∧
  ∀ (l : Addr) (ys : List V) (H' : Hp), ys.Perm xs → H l = none → mk W H' l = some (.lst ys) → StOk W (n + xs.length) H' → Same (mk W H) (mk W H') → Q (.ref l) H'
theorem perm_erase {α : Type} : ∀ {ls : List α} {j : Nat} {x : α}, ls[j]? = some x → (x :: ls.eraseIdx j).Perm ls
  | [], j, x, h => by simp at h
  | a :: ls, 0, x, h => by
    have e : a = x := Option.some.inj h
    subst e
    exact List.Perm.refl _
  | a :: ls, j + 1, x, h => by
    have ih := perm_erase (ls := ls) (j := j) (x := x) h
    exact (List.Perm.swap a x _).trans (ih.cons a)
theorem perm_snoc {xs ls ys : List V} {j : Nat} {x : V} (h : (ys ++ ls).Perm xs) (hx : ls[j]? = some x) : ((ys ++ [x]) ++ ls.eraseIdx j).Perm xs := by
  refine List.Perm.trans ?_ h
  rw [List.append_assoc]
  refine List.Perm.append_left ys ?_
  show (x :: ls.eraseIdx j).Perm ls
  exact perm_erase hx
theorem ok_shuf {f : Addr} {fd : FuncData} (F : Fun K "_law_shuffled" "_law_shuffled" s__law_shuffled f fd) (T : Blt mg) (G__law_take : Def P w K mg base "_law_take" 2 ["state", "size"] spTake) : FnG P w K mg base 3 f fd ["state", "some"] (spShuf K) := by
  refine fnG F sc__law_shuffled (fun vs H Q E h => ?_) (fun cdv A outer s H vs Q E hr h => ?_)
  · obtain ⟨W, n, p, xs, rfl, _⟩ := h
    rfl
  · obtain ⟨W, n, p, xs, rfl, S, hn, hl, hp, hg, q⟩ := h
    have hu64 := hu64 hr.r
    refine ⟨_, pss_cons (ps_par (i := 2) (j := 3) rfl sc__law_shuffled.nd rfl rfl (by decide) rfl rfl (pa_cons (pe_callTy call_list_of (by rfl) T.list (by decide +kernel) (pa_cons (pv 1) pa_nil)) (pa_cons (pe_lst pa_nil) pa_nil)) (by rfl))
        (pss_cons (ps_while PassesOwn.never (pt_cmpR (op_neD hu64) (pv 2) (pe_lst pa_nil) (nomark _))
        (pss_one (ps_expr (pe_bm PySem.F.plainAttrs_list PySem.F.slot_list_append PySem.F.type_list_append mt_append (pv 3) (pa_cons (pe_bm PySem.F.plainAttrs_list PySem.F.slot_list_pop PySem.F.type_list_pop mt_popAt (pv 2) (pa_cons (pe_go G__law_take hr (pa_cons (pv 0) (pa_cons (pe_callB call_len_seq (by rfl) T.len (by decide +kernel) (pa_cons (pv 2) pa_nil)) pa_nil))) pa_nil)) pa_nil)))))
        (pss_one (ps_ret (pv 3)))), ?_⟩
    have hp' : SqL K H p xs ∨ SqT K H p xs := hp.elim (fun z => .inl ((mk_le W H).seq z)) (fun z => .inr (seqT (mk_le W H) z))
    walk_at "mw"
    refine ⟨p, xs, rfl, hp', fun a na => ?_⟩
    generalize ea : upd H a _ = H1
    obtain ⟨S1, e1, fa, ma⟩ := new_at S na ea
    walk_at "mw"
    refine ⟨by show 0 ≤ sizeLine; decide, fun l nl => ?_⟩
    generalize el : upd H1 l _ = H2
    obtain ⟨S2, e2, fl, ml⟩ := new_at S1 nl el
    walk_at "mw"
    have nal : a ≠ l := ne_of_none fa ml
    refine ⟨fun m σ H' => ∃ ls ys : List V, m = ls.length ∧ σ = [some (.ref W.d), some (.ref p), some (.ref a), some (.ref l)] ∧ (ys ++ ls).Perm xs ∧ mk W H' a = some (.lst ls) ∧ mk W H' l = some (.lst ys) ∧ StOk W (n + ys.length) H' ∧ Same (mk W H) (mk W H'),
      ⟨xs.length, xs, [], rfl, rfl, List.Perm.refl _, e2 _ _ fa, fl, S2, e1.trans e2⟩, ?_⟩
    rintro m σ H' ⟨ls, ys, rfl, rfl, hperm, ga, gl, S3, e3⟩
    have hlen : ys.length + ls.length = xs.length := by
      have := hperm.length_eq
      rwa [List.length_append] at this
    walk_at "mw"
    refine ⟨by show 0 ≤ sizeLine; decide, fun o no => ?_⟩
    generalize eo : upd H' o _ = H4
    obtain ⟨S4, e4, fo, mo⟩ := new_at S3 no eo
    have gl2 : ∀ x ∈ ls, Good K H4 x := fun x hx => (hg x (hperm.mem_iff.mp (List.mem_append_right _ hx))).same ((e3.trans e4).trans (mk_le W H4))
    refine ne_nil (.inl (.inl (mk_le W H4 _ _ (e4 _ _ ga)))) (.inl (.inl (mk_le W H4 _ _ fo))) gl2 ?_
    walk_at "mw"
    cases ls with
    | nil =>
      refine iteF ?_
      walk_at "mw"
      rw [List.append_nil] at hperm
      have hy : ys.length = xs.length := by simpa using hlen
      refine q l ys H4 hperm ?_ (e4 _ _ gl) (hy ▸ S4) (e3.trans e4)
      rw [← ea] at nl
      exact (same_upd na).free nl
    | cons x0 ls0 =>
      generalize els : x0 :: ls0 = ls at hperm ga hlen gl2
      have hpos : 0 < ls.length := by rw [← els]; exact Nat.succ_pos _
      rw [show (!(ls : List V).isEmpty) = true by rw [← els] <;> rfl]
      refine iteT ?_
      refine ⟨fun σ H' => ∃ m', m' < ls.length ∧ ∃ ls' ys' : List V, m' = ls'.length ∧ σ = [some (.ref W.d), some (.ref p), some (.ref a), some (.ref l)] ∧ (ys' ++ ls').Perm xs ∧ mk W H' a = some (.lst ls') ∧ mk W H' l = some (.lst ys') ∧ StOk W (n + ys'.length) H' ∧ Same (mk W H) (mk W H'),
        fun σ' H' z => z, ?_⟩
      walk_at "mw"
      refine ⟨.inl ⟨rfl, _, .inl (.inl (mk_le W H4 _ _ (e4 _ _ gl)))⟩, ?_⟩
      walk_at "mw"
      refine ⟨.inl ⟨rfl, _, .inl (.inl (mk_le W H4 _ _ (e4 _ _ ga)))⟩, ?_⟩
      walk_at "mw"
      refine ⟨a, ls, rfl, .inl (.inl (.inl (mk_le W H4 _ _ (e4 _ _ ga)))), ?_⟩
      walk_at "mw"
      refine ⟨W, _, _, rfl, S4, by omega, by omega, by omega, fun k H5 k0 k1 S5 e5 => ?_⟩
      obtain ⟨j, rfl⟩ : ∃ j : Nat, k = j := ⟨k.toNat, by omega⟩
      have hj : j < ls.length := by omega
      have hx : ls[j]? = some ls[j] := List.getElem?_eq_getElem hj
      have e6 := (e3.trans e4).trans e5
      have ga5 : mk W H5 a = some (.lst ls) := e5 _ _ (e4 _ _ ga)
      have gl5 : mk W H5 l = some (.lst ys) := e5 _ _ (e4 _ _ gl)
      refine ⟨a, ls, (j : Int), j, ls[j], rfl, rfl, mk_le W H5 _ _ ga5, by omega, by omega, seqIndex_of (by omega) (by omega), hx, ?_⟩
      generalize eu : upd H5 a _ = H6
      obtain ⟨S6, fa6, o6⟩ := own_at S5 ga5 eu
      have gl6 : mk W H6 l = some (.lst ys) := o6 _ _ nal.symm gl5
      refine ⟨l, ys, ls[j], rfl, rfl, mk_le W H6 _ _ gl6, Nat.lt_of_le_of_lt (show ys.length ≤ 100000 by omega) (by decide), ?_⟩
      generalize ev : upd H6 l _ = H7
      obtain ⟨S7, fl7, o7⟩ := own_at S6 gl6 ev
      have nl0 : mk W H l = none := mk_none (by
        rw [← ea] at nl
        exact (same_upd na).free nl)
      refine ⟨_, ?_, ls.eraseIdx j, ys ++ [ls[j]], rfl, rfl, perm_snoc hperm hx, o7 _ _ nal fa6, fl7, ?_, (wd W).keep o7 nl0 ((wd W).keep o6 ma e6)⟩
      · rw [List.length_eraseIdx_of_lt hj]
        omega
      · rw [List.length_append]
        exact S7
end
end Mw
/-! ### what an expression that may draw yields: some data -/
namespace Mw
open PySem PySem.Spec PyProof.Rows L2
/-! what may be shown -/
def okd (k m : Nat) (d : PyData) : Bool := d.showable && (d.leavesShort 200 && (decide (d.depth ≤ k) && decide (d.weight ≤ m)))
theorem okd_iff {k m : Nat} {d : PyData} : okd k m d = true ↔ d.showable = true ∧ d.leavesShort 200 = true ∧ d.depth ≤ k ∧ d.weight ≤ m := by simp [okd]
theorem okd_more {k m k' m' : Nat} {d : PyData} (h : okd k m d = true) (hk : k ≤ k') (hm : m ≤ m') : okd k' m' d = true := by
  rw [okd_iff] at h ⊢
  exact ⟨h.1, h.2.1, Nat.le_trans h.2.2.1 hk, Nat.le_trans h.2.2.2 hm⟩
theorem okd_fit {k m : Nat} {d : PyData} (h : okd k m d = true) (hk : k ≤ 60) (hm : m ≤ 50000) : Fit d := by
  rw [okd_iff] at h
  refine ⟨h.1, Nat.le_trans h.2.2.1 hk, ?_⟩
  have a := PyData.shown_le 200 (by decide) d h.2.1
  have b : (12000000 : Nat) ≤ sizeLine := by decide
  omega
theorem okd_all {k m : Nat} : ∀ {ds : List PyData}, (∀ d ∈ ds, okd k m d = true) → PyData.showableAll ds = true ∧ PyData.leavesShortAll 200 ds = true ∧ PyData.depthAll ds ≤ k ∧ PyData.weightAll ds ≤ ds.length * (m + 1)
  | [], _ => ⟨rfl, rfl, Nat.zero_le _, Nat.zero_le _⟩
  | d :: ds, h => by
    obtain ⟨a1, a2, a3, a4⟩ := okd_iff.mp (h d (List.mem_cons_self ..))
    obtain ⟨b1, b2, b3, b4⟩ := okd_all (ds := ds) fun e he => h e (List.mem_cons_of_mem _ he)
    refine ⟨?_, ?_, ?_, ?_⟩
    · simp [PyData.showableAll, a1, b1]
    · simp [PyData.leavesShortAll, a2, b2]
    · simp only [PyData.depthAll]
      omega
    · simp only [PyData.weightAll, List.length_cons]
      rw [Nat.add_mul]
      omega
theorem okd_list {k m L : Nat} {ds : List PyData} (h : ∀ d ∈ ds, okd k m d = true) (l : ds.length ≤ L) : okd (k + 1) (L * (m + 1)) (.list ds) = true ∧ okd (k + 1) (L * (m + 1)) (.tuple ds) = true := by
  obtain ⟨b1, b2, b3, b4⟩ := okd_all h
  have l2 := Nat.mul_le_mul_right (m + 1) l
  constructor
  · rw [okd_iff]
    simp only [PyData.showable, PyData.leavesShort, PyData.depth, PyData.weight]
    exact ⟨b1, b2, by omega, by omega⟩
  · rw [okd_iff]
    simp only [PyData.showable, PyData.leavesShort, PyData.depth, PyData.weight]
    exact ⟨b1, b2, by omega, by omega⟩
theorem okd_int {i : Int} (h : i.natAbs < 10 ^ 12) : okd 0 64 (.int i) = true := by
  have h2 : i.natAbs.log2 < 64 ∨ i.natAbs = 0 := by
    by_cases z : i.natAbs = 0
    · exact .inr z
    · refine .inl ((Nat.log2_lt z).mpr (Nat.lt_trans h (by decide)))
  have h3 : i.natAbs.log2 < 64 := by
    rcases h2 with z | z
    · exact z
    · rw [z]
      decide
  rw [okd_iff]
  refine ⟨?_, ?_, Nat.le_refl _, ?_⟩
  · simp only [PyData.showable, decide_eq_true_eq]
    omega
  · have := PyData.shown_int_le h
    simp only [PyData.leavesShort, decide_eq_true_eq]
    omega
  · simp only [PyData.weight]
    split <;> omega
theorem okd_str {x : Str} {m : Nat} (h : x.cps.size ≤ m) (c : ∀ c ∈ x.cps.toList, c < 16 ^ 8) : okd 0 m (.str x) = true := by
  rw [okd_iff]
  refine ⟨rfl, ?_, Nat.le_refl _, h⟩
  simp only [PyData.leavesShort, List.all_eq_true, decide_eq_true_eq]
  exact c
/-- the world of draws, some objects out of sight perhaps -/
structure Of (U : Wo) (W : Wd) : Prop where
  st : ∀ {n H}, U.ok n H → StOk W n H
  go : ∀ {n n' H H'}, U.ok n H → StOk W n' H' → Same (mk W H) (mk W H') → U.ok n' H' ∧ Same (U.view H) (U.view H')
  le : ∀ H, Same (U.view H) (mk W H)
  new : ∀ {n H H' l x}, U.ok n H → H l = none → mk W H' l = some x → U.view H' l = some x
theorem of_wd (W : Wd) : Of (wd W) W := ⟨fun h => h, fun _ h e => ⟨h, e⟩, fun H => Same.refl _, fun _ _ h => h⟩
theorem Of.hide {U : Wo} {W : Wd} (o : Of U W) (D : Addr) (x : HO) : Of (U.hide D x) W where
  st := fun h => o.st h.1
  go := fun h s e => by
    obtain ⟨a, b⟩ := o.go h.1 s e
    exact ⟨⟨a, b _ _ h.2⟩, hide_same b⟩
  le := fun H => (hide_le D _).trans (o.le H)
  new := fun h nl e => hide_at (o.new h.1 nl e) (fun z => by
    rw [z, U.le _ _ _ h.2] at nl
    cases nl)
section
variable {K : PySem.W.Frag} {U : Wo} {W : Wd} {M : Hp} {σ : L2.St} {n k k1 k2 m : Nat} {te ta tb : TE} {t : TA} {tt tu : TT} {R S : PyData → Prop}
def E3 (K : PySem.W.Frag) (U : Wo) (M : Hp) (k : Nat) (te : TE) (σ : L2.St) (R : PyData → Prop) : Prop :=
  ∀ n H, At U n M H → n + k ≤ most → ∀ Q : VK, (∀ v d H', R d → U.ok (n + k) H' → Same (U.view H) (U.view H') → Dd K (U.view H') v d → Q v H') → te σ H Q
def A3 (K : PySem.W.Frag) (U : Wo) (M : Hp) (k : Nat) (t : TA) (σ : L2.St) (R : List PyData → Prop) : Prop :=
  ∀ n H, At U n M H → n + k ≤ most → ∀ Q : List V → Hp → Prop, (∀ vs ds H', R ds → U.ok (n + k) H' → Same (U.view H) (U.view H') → DdAll K (U.view H') vs ds → Q vs H') → t σ H Q
def T3 (U : Wo) (M : Hp) (k : Nat) (tt : TT) (σ : L2.St) : Prop := ∀ n H, At U n M H → n + k ≤ most → ∀ Q : Bool → Hp → Prop, (∀ b H', U.ok (n + k) H' → Same (U.view H) (U.view H') → Q b H') → tt σ H Q
def I3 (K : PySem.W.Frag) (U : Wo) (M : Hp) (k : Nat) (wi : TI) (σ : L2.St) (P : List PyData → Prop) : Prop := ∀ n H, At U n M H → n + k ≤ most → ∀ R : It → Hp → Prop, (∀ J ds H', P ds → U.ok (n + k) H' → Same (U.view H) (U.view H') →
  Walk J ds.length (fun H2 => Same (U.view H') (U.view H2)) (fun i H2 v H3 => H3 = H2 ∧ ∃ d, ds[i]? = some d ∧ Dd K (U.view H') v d) → R J H') → wi σ H R
theorem E1.e3 {d : PyData} (h : E1 K U M te σ d) (r : R d) : E3 K U M 0 te σ R := fun n H a _ Q q => h n H a Q fun v H' ok s dd => q v d H' r ok s dd
theorem E3.more (h : E3 K U M k te σ R) (l : k ≤ m) : E3 K U M m te σ R := fun n H a hn Q q => h n H a (by omega) Q fun v d H' r ok s dd => q v d H' r (U.mono ok (by omega)) s dd
theorem E3.weak (h : E3 K U M k te σ R) (l : ∀ d, R d → S d) : E3 K U M k te σ S := fun n H a hn Q q => h n H a hn Q fun v d H' r ok s dd => q v d H' (l d r) ok s dd
theorem I1.i3 {wi : TI} {ds : List PyData} {P : List PyData → Prop} (h : I1 K U M wi σ ds) (p : P ds) : I3 K U M 0 wi σ P := fun n H a _ Q q => h n H a Q fun J H' ok s w => q J ds H' p ok s w
def Each (m : Nat) (R : PyData → Prop) (ds : List PyData) : Prop := ds.length = m ∧ ∀ d ∈ ds, R d
theorem a3_nil : A3 K U M 0 tNil σ (Each 0 R) := fun n H a _ Q q => q [] [] H ⟨rfl, fun _ h => nomatch h⟩ a.ok (Same.refl _) .nil
theorem a3_cons (h : E3 K U M k1 te σ R) (hs : A3 K U M k2 t σ (Each m R)) : A3 K U M (k1 + k2) (tCons te t) σ (Each (m + 1) R) := fun n H a hn Q q =>
  h n H a (by omega) _ fun v d H1 r1 ok1 s1 d1 => hs (n + k1) H1 ⟨ok1, a.up.trans s1⟩ (by omega) _ fun vs ds H2 r2 ok2 s2 d2 => q _ (d :: ds) H2
    ⟨congrArg Nat.succ r2.1, fun e he => (List.mem_cons.mp he).elim (fun z => z ▸ r1) (r2.2 e)⟩ (by rw [← Nat.add_assoc]; exact ok2) (s1.trans s2) (.cons (d1.same s2) d2)
theorem e3_lst (h : A3 K U M k t σ (Each m R)) (z : m ≤ 100000) : E3 K U M k (tLst t) σ (fun d => ∃ ds, d = .list ds ∧ Each m R ds) := fun n H a hn Q q =>
  h n H a hn _ fun vs ds H1 r ok1 s1 d1 => ⟨thousand (by rw [d1.len, r.1]; exact z), fun p np => by
    obtain ⟨ok2, s2, f2, _⟩ := U.new (o := .lst vs) ok1 np rfl
    exact q _ _ _ ⟨ds, rfl, r⟩ ok2 (s1.trans s2) (.lst f2 (d1.same s2))⟩
theorem DdAll.mem {H : Hp} {vs : List V} {ds : List PyData} {v : V} (h : DdAll K H vs ds) (hv : v ∈ vs) : ∃ d, d ∈ ds ∧ Dd K H v d := by
  obtain ⟨i, hi⟩ := List.mem_iff_getElem?.mp hv
  obtain ⟨d, hd, dd⟩ := h.at hi
  exact ⟨d, List.mem_of_getElem? hd, dd⟩
theorem DdAll.perm {H : Hp} {ys xs : List V} (p : ys.Perm xs) : ∀ {ds : List PyData}, DdAll K H xs ds → ∃ es, es.Perm ds ∧ DdAll K H ys es := by
  induction p with
  | nil => exact fun h => ⟨_, List.Perm.refl _, h⟩
  | cons x p ih =>
    intro ds h
    cases h with
    | cons a b =>
      obtain ⟨es, e1, e2⟩ := ih b
      exact ⟨_, e1.cons _, .cons a e2⟩
  | swap x y l =>
    intro ds h
    cases h with
    | cons a b =>
      cases b with
      | cons c e => exact ⟨_, List.Perm.swap _ _ _, .cons c (.cons a e)⟩
  | trans p1 p2 ih1 ih2 =>
    intro ds h
    obtain ⟨es, e1, e2⟩ := ih2 h
    obtain ⟨fs, f1, f2⟩ := ih1 e2
    exact ⟨fs, f1.trans e1, f2⟩
/-! operators -/
theorem e3_op1 {r : R2} {d2 : PyData} {f : PyData → PyData} (ha : E3 K U M k ta σ R) (hb : E1 K U M tb σ d2) (hr : ∀ d, R d → R1 K U r d d2 (f d)) : E3 K U M k (tOp r ta tb) σ (fun e => ∃ d, R d ∧ e = f d) := fun n H a hn Q q =>
  ha n H a hn _ fun x d H1 r1 ok1 s1 d1 => hb (n + k) H1 ⟨ok1, a.up.trans s1⟩ _ fun y H2 ok2 s2 e2 => hr d r1 (n + k) H2 x y ok2 (d1.same s2) e2 Q fun v H3 ok3 s3 e3 => q v _ H3 ⟨d, r1, rfl⟩ ok3 ((s1.trans s2).trans s3) e3
theorem e3_op2 {r : R2} {d1 : PyData} {f : PyData → PyData} (ha : E1 K U M ta σ d1) (hb : E3 K U M k tb σ R) (hr : ∀ d, R d → R1 K U r d1 d (f d)) : E3 K U M k (tOp r ta tb) σ (fun e => ∃ d, R d ∧ e = f d) := fun n H a hn Q q =>
  ha n H a _ fun x H1 ok1 s1 e1 => hb n H1 (a.step ok1 s1) hn _ fun y d H2 r1 ok2 s2 e2 => hr d r1 (n + k) H2 x y ok2 (e1.same s2) e2 Q fun v H3 ok3 s3 e3 => q v _ H3 ⟨d, r1, rfl⟩ ok3 ((s1.trans s2).trans s3) e3
theorem t3_test (h : E3 K U M k te σ (fun d => ∃ b, d = .bool b)) : T3 U M k (tTest te) σ := fun n H a hn Q q => h n H a hn _ fun v d H1 r ok1 s1 d1 => by
  obtain ⟨b, rfl⟩ := r
  cases d1
  exact ⟨b, rfl, q b H1 ok1 s1⟩
theorem T1.t3 {b : Bool} (h : T1 U M tt σ b) : T3 U M 0 tt σ := fun n H a _ Q q => h n H a Q fun H' ok s => q b H' ok s
/-! draws -/
variable {i : Nat}
theorem e3_take {z : Int} (o : Of U W) (hv : σ[i]? = some (some (.ref W.d))) (h : E1 K U M ta σ (.int z)) (z0 : 0 < z) (z1 : z ≤ 18446744073709551616) : E3 K U M 1 (tGo spTake (tCons (tVar i) (tCons ta tNil))) σ (fun d => ∃ j : Int, d = .int j ∧ 0 ≤ j ∧ j < z) := fun n H a hn Q q =>
  ⟨_, hv, h n H a _ fun v H1 ok1 s1 d1 => by
    cases d1
    refine ⟨W, n, z, rfl, o.st ok1, by omega, z0, z1, fun j H2 k0 k1 S2 e2 => ?_⟩
    obtain ⟨ok2, s2⟩ := o.go ok1 S2 e2
    exact q _ _ _ ⟨j, rfl, k0, k1⟩ ok2 (s1.trans s2) (.int j)⟩
theorem e3_pick (o : Of U W) (hv : σ[i]? = some (some (.ref W.d))) (h : E3 K U M k ta σ (fun d => ∃ ds, (d = .list ds ∨ d = .tuple ds) ∧ ds ≠ [] ∧ ds.length ≤ 100000 ∧ ∀ e ∈ ds, R e)) : E3 K U M (k + 1) (tGo (spPick K) (tCons (tVar i) (tCons ta tNil))) σ R := fun n H a hn Q q =>
  ⟨_, hv, h n H a (by omega) _ fun v d H1 r ok1 s1 d1 => by
    obtain ⟨ds, e, ne, hl, hr⟩ := r
    have out : ∀ (xs : List V), DdAll K (U.view H1) xs ds → ∀ (x : V) (H2 : Hp), x ∈ xs → StOk W (n + k + 1) H2 → Same (mk W H1) (mk W H2) → Q x H2 := fun xs ha x H2 hx S2 e2 => by
      obtain ⟨ok2, s2⟩ := o.go ok1 S2 e2
      obtain ⟨f, hf, df⟩ := ha.mem hx
      exact q x f H2 (hr f hf) ok2 (s1.trans s2) (df.same s2)
    have nn : ∀ (xs : List V), DdAll K (U.view H1) xs ds → xs ≠ [] ∧ xs.length ≤ 100000 := fun xs ha => by
      refine ⟨fun z => ?_, by rw [ha.len]; exact hl⟩
      subst z
      cases ha
      exact ne rfl
    rcases e with rfl | rfl
    · cases d1 with
      | lst hq ha => exact ⟨W, n + k, _, rfl, o.st ok1, by omega, .inl ⟨_, _, rfl, .inl (.inl (.inl (o.le _ _ _ hq))), (nn _ ha).1, (nn _ ha).2, out _ ha⟩⟩
    · cases d1 with
      | tup hq ha => exact ⟨W, n + k, _, rfl, o.st ok1, by omega, .inl ⟨_, _, rfl, .inr (seqT (o.le _) hq), (nn _ ha).1, (nn _ ha).2, out _ ha⟩⟩⟩
theorem e3_picks {x : Str} (o : Of U W) (hv : σ[i]? = some (some (.ref W.d))) (h : E1 K U M ta σ (.str x)) (h0 : 0 < x.length) (h1 : x.length ≤ 100000) : E3 K U M 1 (tGo (spPick K) (tCons (tVar i) (tCons ta tNil))) σ (fun d => ∃ c ∈ x.cps.toList, d = .str ⟨#[c]⟩) := fun n H a hn Q q =>
  ⟨_, hv, h n H a _ fun v H1 ok1 s1 d1 => by
    cases d1
    refine ⟨W, n, _, rfl, o.st ok1, by omega, .inr ⟨x, rfl, h0, h1, fun c H2 hc S2 e2 => ?_⟩⟩
    obtain ⟨ok2, s2⟩ := o.go ok1 S2 e2
    exact q _ _ _ ⟨c, hc, rfl⟩ ok2 (s1.trans s2) (.str _)⟩
theorem e3_shuf {d : PyData} {ds : List PyData} (o : Of U W) (hv : σ[i]? = some (some (.ref W.d))) (h : E1 K U M ta σ d) (hd : d = .list ds ∨ d = .tuple ds) (hl : ds.length ≤ 100000) (hg : ∀ e ∈ ds, e.canLay0 = true ∧ e.depth ≤ 60) :
    E3 K U M ds.length (tGo (spShuf K) (tCons (tVar i) (tCons ta tNil))) σ (fun d => ∃ es, d = .list es ∧ es.Perm ds) := fun n H a hn Q q =>
  ⟨_, hv, h n H a _ fun v H1 ok1 s1 d1 => by
    have gd : ∀ (xs : List V), DdAll K (U.view H1) xs ds → ∀ x ∈ xs, Good K (mk W H1) x := fun xs ha x hx => by
      obtain ⟨f, hf, df⟩ := ha.mem hx
      exact ⟨f, (df.same (o.le _)).dp (hg f hf).1, (hg f hf).1, (hg f hf).2⟩
    have out : ∀ (xs : List V), DdAll K (U.view H1) xs ds → ∀ (l : Addr) (ys : List V) (H2 : Hp), ys.Perm xs → H1 l = none → mk W H2 l = some (.lst ys) → StOk W (n + xs.length) H2 → Same (mk W H1) (mk W H2) → Q (.ref l) H2 := fun xs ha l ys H2 hp nl hl S2 e2 => by
      obtain ⟨ok2, s2⟩ := o.go ok1 S2 e2
      obtain ⟨es, p1, p2⟩ := DdAll.perm hp ha
      rw [ha.len] at ok2
      exact q _ _ _ ⟨es, rfl, p1⟩ ok2 (s1.trans s2) (.lst (o.new ok1 nl hl) (p2.same s2))
    rcases hd with rfl | rfl
    · cases d1 with
      | lst hq ha => exact ⟨W, n, _, _, rfl, o.st ok1, by rw [ha.len]; exact hn, by rw [ha.len]; exact hl, .inl (.inl (.inl (o.le _ _ _ hq))), gd _ ha, out _ ha⟩
    · cases d1 with
      | tup hq ha => exact ⟨W, n, _, _, rfl, o.st ok1, by rw [ha.len]; exact hn, by rw [ha.len]; exact hl, .inr (seqT (o.le _) hq), gd _ ha, out _ ha⟩⟩
/-! comprehensions, text -/
theorem i1_rng {j : Int} (h : E1 K U M te σ (.int j)) (j0 : -(2 ^ 62) ≤ j) (j1 : j < 2 ^ 62) : I1 K U M (iRng1 (tCons te tNil)) σ ((List.range j.toNat).map fun i => .int (Int.ofNat i)) := fun n H a R r => h n H a _ fun v H1 ok1 s1 d1 => by
  cases d1
  refine ⟨j, rfl, j0, j1, r _ H1 ok1 s1 ?_⟩
  rw [List.length_map, List.length_range]
  refine walk_range.mono (fun _ _ => trivial) (fun i H2 x H3 hi z y => ?_)
  obtain ⟨y1, y2⟩ := y
  refine ⟨y1, .int (Int.ofNat i), ?_, ?_⟩
  · rw [List.getElem?_map, List.getElem?_range hi] <;> rfl
  · rw [y2]
    show Dd K _ (.int (0 + (i : Int))) _
    rw [Int.zero_add]
    exact .int _
theorem i3_rng {P : Int → Prop} (h : E3 K U M k te σ (fun d => ∃ j : Int, d = .int j ∧ P j ∧ -(2 ^ 62) ≤ j ∧ j < 2 ^ 62)) : I3 K U M k (iRng1 (tCons te tNil)) σ (fun ds => ∃ j : Int, P j ∧ ds = (List.range j.toNat).map fun i => .int (Int.ofNat i)) := fun n H a hn R r => h n H a hn _ fun v d H1 r1 ok1 s1 d1 => by
  obtain ⟨j, rfl, pj, j0, j1⟩ := r1
  cases d1
  refine ⟨j, rfl, j0, j1, r _ _ H1 ⟨j, pj, rfl⟩ ok1 s1 ?_⟩
  rw [List.length_map, List.length_range]
  refine walk_range.mono (fun _ _ => trivial) (fun i H2 x H3 hi z y => ?_)
  obtain ⟨y1, y2⟩ := y
  refine ⟨y1, .int (Int.ofNat i), ?_, ?_⟩
  · rw [List.getElem?_map, List.getElem?_range hi] <;> rfl
  · rw [y2]
    show Dd K _ (.int (0 + (i : Int))) _
    rw [Int.zero_add]
    exact .int _
/-- [e for x in xs], e draws -/
theorem e3_lc {wi : TI} {j k0 m : Nat} {vs : List Nat} {P : List PyData → Prop} (o : Of U W) (h : I3 K U M k0 wi σ P) (z : ∀ ds, P ds → ds.length ≤ m) (z1 : m ≤ 100000) (hw : ∀ x, wipe ((wipe σ vs).set j (some x)) vs = wipe σ vs)
    (he : ∀ (U' : Wo) M' v, Of U' W → Same M M' → E3 K U' M' k te ((wipe σ vs).set j (some v)) R) :
    E3 K U M (k0 + m * k) (tLc wi (gName j) tYes te vs) σ (fun d => ∃ ds es, P ds ∧ d = .list es ∧ es.length = ds.length ∧ ∀ e ∈ es, R e) := fun n H a hn Q q => h n H a (by omega) _ fun J ds H1 p ok1 s1 w => by
  intro D nD
  have hm : ds.length ≤ m := z ds p
  have a1 : Same M (U.view H1) := a.up.trans s1
  have nD0 : U.view H1 D = none := by
    cases e : U.view H1 D with
    | none => rfl
    | some x =>
      rw [U.le _ _ _ e] at nD
      cases nD
  have off : Same (U.view H1) (hideV D (U.view H1)) := fun b x e => hide_at e (fun q => by
    rw [q, nD0] at e
    cases e)
  refine lc_it w (fun i H' => U.ok (n + k0 + i * k) H' ∧ Same (U.view H1) (hideV D (U.view H')) ∧ ∃ acc es, U.view H' D = some (.lst acc) ∧ DdAll K (hideV D (U.view H')) acc es ∧ es.length = i ∧ ∀ e ∈ es, R e) ?_ (fun i H' _ z => z.2.1.trans (hide_le _ _)) ?_ ?_
  · obtain ⟨ok2, s2, f2, _⟩ := U.new (o := .lst []) ok1 nD rfl
    exact ⟨by rw [Nat.zero_mul]; exact ok2, off.trans (hide_same s2), [], [], f2, .nil, rfl, fun _ h => nomatch h⟩
  · rintro i x H2 H3 hi ⟨ok2, s2, acc, es, f2, da, el, er⟩ ⟨rfl, d, hd, dx⟩
    have hik : i * k + k ≤ m * k := by
      have := Nat.mul_le_mul_right k (show i + 1 ≤ m by omega)
      rwa [Nat.add_mul, Nat.one_mul] at this
    refine ⟨hw x, ?_⟩
    refine rd_yes (L2.iteT ?_)
    refine he (U.hide D (.lst acc)) (U.view H1) x (o.hide D _) a1 _ H3 ⟨⟨ok2, f2⟩, s2⟩ (by omega) _ fun y e H5 r5 ok5 s5 dy => ?_
    have hl : acc.length ≤ 100000 := by
      rw [da.len, el]
      omega
    refine ⟨acc, U.le _ _ _ ok5.2, Nat.lt_of_le_of_lt hl (by decide), ?_⟩
    obtain ⟨ok6, f6, o6⟩ := U.own (o := .lst (acc ++ [y])) ok5.1 ok5.2 rfl
    have k6 : Same (hideV D (U.view H5)) (hideV D (U.view (upd H5 D (.lst (acc ++ [y]))))) := fun b u e => hide_at (o6 b u (hide_of e).1 (hide_of e).2) (hide_of e).1
    refine ⟨?_, (s2.trans s5).trans k6, _, es ++ [e], f6, (da.same (s5.trans k6)).app (.cons (dy.same k6) .nil), ?_, ?_⟩
    · rw [Nat.add_mul, Nat.one_mul, ← Nat.add_assoc]
      exact ok6
    · rw [List.length_append, el] <;> rfl
    · intro e' he'
      rcases List.mem_append.mp he' with h1 | h1
      · exact er e' h1
      · rw [List.mem_singleton.mp h1]
        exact r5
  · rintro H2 ⟨ok2, s2, acc, es, f2, da, el, er⟩
    have hik := Nat.mul_le_mul_right k hm
    exact q _ _ _ ⟨ds, es, p, rfl, el, er⟩ (U.mono ok2 (by omega)) (s1.trans (s2.trans (hide_le _ _))) (.lst f2 (da.same (hide_le _ _)))
/-! defs that draw -/
def spD (K : PySem.W.Frag) (m k : Nat) (pre : List PyData → Prop) (R : List PyData → PyData → Prop) : Sp := fun vs H Q _ => ∃ (U : Wo) (W : Wd) (n : Nat) (ws : List V) (ds : List PyData), Of U W ∧ vs = .ref W.d :: ws ∧ U.ok n H ∧ n + k ≤ most ∧
  DdAll K (U.view H) ws ds ∧ ds.length = m ∧ pre ds ∧ ∀ v d H', R ds d → U.ok (n + k) H' → Same (U.view H) (U.view H') → Dd K (U.view H') v d → Q v H'
theorem spD_len {pre : List PyData → Prop} {R : List PyData → PyData → Prop} {vs : List V} {H : Hp} {Q : VK} {E : XK} (h : spD K m k pre R vs H Q E) : vs.length = m + 1 := by
  obtain ⟨U, W, n, ws, ds, _, rfl, _, _, hd, e, _⟩ := h
  rw [List.length_cons, hd.len, e]
theorem e3_god {pre : List PyData → Prop} {R : List PyData → PyData → Prop} {ds : List PyData} (o : Of U W) (hv : σ[i]? = some (some (.ref W.d))) (h : A1 K U M t σ ds) (hm : ds.length = m) (hp : pre ds) : E3 K U M k (tGo (spD K m k pre R) (tCons (tVar i) t)) σ (R ds) := fun n H a hn Q q =>
  ⟨_, hv, h n H a _ fun vs H1 ok1 s1 d1 => ⟨U, W, n, vs, ds, o, rfl, ok1, hn, d1, hm, hp, fun v d H2 r ok2 s2 d2 => q v d H2 r ok2 (s1.trans s2) d2⟩⟩
/-- a def that draws nothing, one of several answers -/
def spR (K : PySem.W.Frag) (m : Nat) (pre : List PyData → Prop) (R : List PyData → PyData → Prop) : Sp := fun vs H Q _ => ∃ (U : Wo) (n : Nat) (ds : List PyData), U.ok n H ∧ n ≤ most ∧ DdAll K (U.view H) vs ds ∧ ds.length = m ∧ pre ds ∧
  ∀ v d H', R ds d → U.ok n H' → Same (U.view H) (U.view H') → Dd K (U.view H') v d → Q v H'
theorem spR_len {pre : List PyData → Prop} {R : List PyData → PyData → Prop} {vs : List V} {H : Hp} {Q : VK} {E : XK} (h : spR K m pre R vs H Q E) : vs.length = m := by
  obtain ⟨U, n, ds, _, _, hd, e, _⟩ := h
  rw [hd.len, e]
theorem e3_gor {pre : List PyData → Prop} {R : List PyData → PyData → Prop} {ds : List PyData} (h : A1 K U M t σ ds) (hm : ds.length = m) (hp : pre ds) : E3 K U M 0 (tGo (spR K m pre R) t) σ (R ds) := fun n H a hn Q q =>
  h n H a _ fun vs H1 ok1 s1 d1 => ⟨U, n, ds, ok1, by omega, d1, hm, hp, fun v d H2 r ok2 s2 d2 => q v d H2 r ok2 (s1.trans s2) d2⟩
/-! statements -/
variable {D : Ends} {H : Hp}
theorem s3_asg {i : Nat} (a : At U n M H) (hn : n + k ≤ most) (h : E3 K U M k te σ R) (q : ∀ v d H', R d → At U (n + k) (U.view H') H' → Same (U.view H) (U.view H') → Dd K (U.view H') v d → D.nx (σ.set i (some v)) H') : tAsg te (gName i) D σ H :=
  h n H a hn _ fun v d H1 r ok1 s1 d1 => q v d H1 r (At.here ok1) s1 d1
theorem s3_ret (a : At U n M H) (hn : n + k ≤ most) (h : E3 K U M k te σ R) (q : ∀ v d H', R d → U.ok (n + k) H' → Same (U.view H) (U.view H') → Dd K (U.view H') v d → D.rt v H') : tRet te D σ H :=
  h n H a hn _ fun v d H1 r ok1 s1 d1 => q v d H1 r ok1 s1 d1
theorem s3_if {t u : TS} (a : At U n M H) (hn : n + k ≤ most) (h : T3 U M k tt σ) (q1 : ∀ H', At U (n + k) M H' → Same (U.view H) (U.view H') → t D σ H') (q2 : ∀ H', At U (n + k) M H' → Same (U.view H) (U.view H') → u D σ H') : tIfS tt t u D σ H :=
  h n H a hn _ fun b H1 ok1 s1 => by
    cases b with
    | true => exact iteT (q1 H1 ⟨ok1, a.up.trans s1⟩ s1)
    | false => exact iteF (q2 H1 ⟨ok1, a.up.trans s1⟩ s1)
/-! dicts that are written -/
theorem e1_dis1 {x : Str} {j : Int} : E1 K U M (tDisp [(tC (.str x), tC (.int j))]) σ (.dict [(.str x, .int j)]) := fun n H a Q q p np => by
  obtain ⟨ok2, s2, f2, _⟩ := U.new (o := .dK []) a.ok np rfl
  obtain ⟨ok3, f3, o3⟩ := U.own (o := .dK [(.inr x, .int j)]) ok2 f2 rfl
  refine ⟨upd_same, [(.inr x, .int j)], rfl, (show 1 ≤ 15 by decide), ?_⟩
  refine q _ _ ok3 (fun b u e => o3 b u (fun z => ?_) (s2 _ _ e)) (.dic (ps := [(.str x, .int j)]) f3 (.cons (.str x) .nil) (.cons (.int j) .nil))
  rw [z] at e
  rw [U.le _ _ _ e] at np
  cases np
theorem e1_dis0 : E1 K U M tDNewK σ (.dict []) := fun n H a Q q p np => by
  obtain ⟨ok2, s2, f2, _⟩ := U.new (o := .dK []) a.ok np rfl
  exact q _ _ ok2 s2 (.dic (ps := []) f2 .nil .nil)
/-! slices of lists -/
def cutD (ds : List PyData) (lo hi : Option Int) : List PyData := (ds.drop (HT.sIx ds.length 0 lo)).take (HT.sIx ds.length ds.length hi - HT.sIx ds.length 0 lo)
theorem DdAll.cut {H : Hp} {vs : List V} {ds : List PyData} (h : DdAll K H vs ds) (lo hi : Option Int) : DdAll K H (cutV vs lo hi) (cutD ds lo hi) := by
  unfold cutV cutD
  rw [h.len]
  exact (h.drop _).take _
theorem cutD_mem {ds : List PyData} {lo hi : Option Int} {d : PyData} (h : d ∈ cutD ds lo hi) : d ∈ ds := List.mem_of_mem_drop (List.mem_of_mem_take h)
theorem e1_sl {tl th : TO} {ds : List PyData} {lo hi : Option Int} (h : E1 K U M te σ (.list ds)) (hlo : ∀ H (Q : Option Int → Hp → Prop), Q lo H → tl σ H Q) (hhi : ∀ H (Q : Option Int → Hp → Prop), Q hi H → th σ H Q) :
    E1 K U M (tSl (rSlL K) te tl th) σ (.list (cutD ds lo hi)) := fun n H a Q q => h n H a _ fun v H1 ok1 s1 d1 => by
  cases d1 with
  | lst hq ha =>
    refine hlo H1 _ (hhi H1 _ ⟨_, _, rfl, .inl (.inl (U.le _ _ _ hq)), fun p np => ?_⟩)
    obtain ⟨ok2, s2, f2, _⟩ := U.new ok1 np rfl
    exact q _ _ ok2 (s1.trans s2) (.lst f2 ((ha.cut lo hi).same s2))
/-- part := n, an int that a slot has -/
theorem po_var {i : Nat} {j : Int} (h : σ[i]? = some (some (.int j))) : ∀ H (Q : Option Int → Hp → Prop), Q (some j) H → tPart (tVar i) σ H Q := fun H Q q => ⟨_, h, j, rfl, q⟩
theorem po_non : ∀ H (Q : Option Int → Hp → Prop), Q none H → tNoPart σ H Q := fun H Q q => q
end
end Mw
/-! ### data among texts: x in ("a", ..), with x of any kind -/
namespace Mw
open PySem PySem.Spec PyProof PyProof.Rows L2 PySem.SeqAt PySem.MeetsSeq
open AutoSeq1 (wpAny_loadPart')
theorem text_declines_dict (b : Str) (u : Tok) (l : Addr) (c : Value) (es : Array DictEntry) (ep : Nat) (dd : Option Addr) (sl : Array (Option Value)) :
    Meets ( Builtin.«str.__eq__» ⟨[.str b u, .ref l], []⟩) (fun _ R s => s.heap.get? l = some { cls := c, dict := dd, data := .dict es ep, slots := sl } ∧ R ( .ok (.ret .notImplemented)) s) :=
  .of_wp fun prog w A R s h => by
    obtain ⟨hp, g, d, tk, os⟩ := s
    obtain ⟨hl, h⟩ := h
    wp_walk using wpAny_loadPart' hl, wpAny_load hl
    exact ⟨_, rfl, h⟩
section
variable {A : Around} {s : Shared}
theorem rc_text_dict {l : Addr} {es : Array DictEntry} {ep : Nat} {dd : Option Addr} {sl : Array (Option Value)} (b : Str) (u : Tok) (hl : s.heap.get? l = some { cls := .type "dict", dict := dd, data := .dict es ep, slots := sl }) (hu : A.units < cLine) : RcAt A s (.str b u) (.ref l) false := fun prog w E Q h =>
  rc_eq_decline_or (k := false) (typeIs_str s b u) ⟨_, hl, rfl⟩ (by decide) F.sub_dict_str F.slot_str_eq F.slot_dict_eq_refl
    (fun _ hq => call_meets F.slot_str_eq (typeIs_str s b u) F.entry_str_eq (F.args_str_eq_2 _ _) (text_declines_dict b u l (.type "dict") es ep dd sl) ⟨hl, hq⟩)
    (fun _ hq => by
      refine wpAny_call_entry F.slot_dict_eq_refl ⟨_, hl, rfl⟩ F.entry_dict_eq ?_ (F.args_dict_eq_2 _ _)
      show wpAny _ _ ( Builtin.Dict.dictSlotArgs "__eq__" ⟨[.ref l, .str b u], []⟩ >>= _) _ _ s
      refine wpAny_bind ?_
      unfold Builtin.Dict.dictSlotArgs
      refine wpAny_bind (wpAny_notOrdered_dict ⟨_, hl, rfl⟩ ?_)
      show wpAny _ _ ( pure (Value.ref l, Value.str b u)) _ _ s
      refine wpAny_pure ?_
      refine wpAny_bind (wpAny_isInstance (T := "str") (typeIs_str s b u) F.sub_str_dict ?_)
      simp only [Bool.not_false, if_true]
      refine wpAny_bind (wpAny_rule ?_)
      exact wpAny_pure ⟨_, rfl, hq⟩)
    (fun _ hq => wpAny_of_eq (rfl : isSame (.str b u) (.ref l) = pure false) hq) ( .inr hu) h
theorem eq_text_dict {l : Addr} {es : Array DictEntry} {ep : Nat} {dd : Option Addr} {sl : Array (Option Value)} (b : Str) (u : Tok) (hl : s.heap.get? l = some { cls := .type "dict", dict := dd, data := .dict es ep, slots := sl }) (hu : A.units < cLine) : EqAt A s (.str b u) (.ref l) false := fun prog w E Q h => by
  unfold eqBool
  refine wpAny_holding ?_
  refine wpAny_ite_split (fun hab => absurd (eq_of_beq hab) nofun) (fun _ => ?_)
  exact wpAny_bind (rc_text_dict b u hl hu prog w E _ ( wpAny_truthy_bool h))
end
def oneT (d : PyData) (t : Str) : Bool := match d with
  | .str x => t == x
  | _ => false
def inText (d : PyData) (ts : List Str) : Bool := ts.any (oneT d)
section
variable {X : Cx} {pins : List (Addr × Obj)} {σ : L2.St} {H : Hp} {s : Shared}
theorem text_eqAt (I : Inv X pins σ H s) (hu : X.A.units + 64 < cLine) {v : V} {d : PyData} {u : Value} (h : Dd X.K H v d) (r : RelV v u) (t : Str) (tok : Tok) : EqAt X.A.in1 s (.str t tok) u (oneT d t) := by
  have h1 : X.A.in1.units < cLine := Nat.lt_of_le_of_lt (show X.A.units + 1 ≤ X.A.units + 64 by omega) hu
  cases h with
  | non =>
    cases r
    exact .str_none t tok
  | bl b =>
    cases r
    exact .str_bool t tok b
  | int i =>
    obtain ⟨k, rfl⟩ := r
    exact .str_int t tok i k
  | str x =>
    obtain ⟨k, rfl⟩ := r
    exact .str_str t tok x k
  | lst hl ha =>
    cases r
    obtain ⟨its, rv, pl, _⟩ := I.list (.inl (.inl hl))
    exact .str_list t tok pl.isList h1
  | tup hl ha =>
    cases r
    obtain ⟨its, rv, pl, _⟩ := I.tuple hl
    exact .str_tuple t tok pl h1
  | dic hl ha hb =>
    cases r
    obtain ⟨_, ns, vs, kv, o, es, ep, ho, hx, hd, _, hp, _⟩ := dk_of I.hok hl
    obtain ⟨cls, dd, data, sl⟩ := o
    have e1 : cls = .type "dict" := hx.1
    have e2 : data = .dict es ep := hd
    subst e1 e2
    exact eq_text_dict t tok ho h1
def eT (d : PyData) : Value → Bool
  | .str t _ => oneT d t
  | _ => false
theorem texts_any {d : PyData} : ∀ {ts : List Str} {us : List Value}, Vals (ts.map V.str) us → us.any (eT d) = inText d ts ∧ ∀ u ∈ us, ∃ t k, u = .str t k
  | [], _, .nil => ⟨rfl, fun _ h => by cases h⟩
  | t :: ts, _, .cons r rs => by
    obtain ⟨k, rfl⟩ := r
    obtain ⟨a, b⟩ := texts_any (d := d) (ts := ts) rs
    refine ⟨?_, fun u hu => (List.mem_cons.mp hu).elim (fun z => ⟨t, k, z⟩) (b u)⟩
    show (oneT d t || _) = _
    rw [a] <;> rfl
/-- x in a tuple of texts, x any data -/
def rInA (K : PySem.W.Frag) (neg : Bool) : R2 := fun x y H Q => ∃ (d : PyData) (l : Addr) (ts : List Str), Dd K H x d ∧ y = .ref l ∧ SqT K H l (ts.map V.str) ∧ Q (.bl (if neg then !inText d ts else inText d ts)) H
theorem op_inA (hu : X.A.units + 64 < cLine) : OpR X (compareOp .In) (rInA X.K false) := by
  intro pins s σ H x y v u Q I rx ry h
  obtain ⟨d, l, ts, hd, rfl, hq, q⟩ := h
  cases ry
  obtain ⟨its, r, pl, _⟩ := I.tuple hq
  obtain ⟨e1, e2⟩ := texts_any (d := d) r
  refine in_tupleAt (eT d) pl (fun w hw => ?_) ⟨.bl _, H, I, rfl, ?_⟩
  · obtain ⟨t, k, rfl⟩ := e2 w (by simpa using hw)
    exact text_eqAt I hu hd rx t k
  · rw [show its.toArray.any (eT d) = its.any (eT d) by simp, e1]
    exact q
theorem op_notInA (hu : X.A.units + 64 < cLine) : OpR X (compareOp .NotIn) (rInA X.K true) := by
  intro pins s σ H x y v u Q I rx ry h
  obtain ⟨d, l, ts, hd, rfl, hq, q⟩ := h
  cases ry
  obtain ⟨its, r, pl, _⟩ := I.tuple hq
  obtain ⟨e1, e2⟩ := texts_any (d := d) r
  refine notIn_tupleAt (eT d) pl (fun w hw => ?_) ⟨.bl _, H, I, rfl, ?_⟩
  · obtain ⟨t, k, rfl⟩ := e2 w (by simpa using hw)
    exact text_eqAt I hu hd rx t k
  · rw [show its.toArray.any (eT d) = its.any (eT d) by simp, e1]
    exact q
end
theorem r1_inA {K : PySem.W.Frag} {U : Wo} {neg : Bool} {d : PyData} {ts : List Str} : R1 K U (rInA K neg) d (.tuple (ts.map .str)) (.bool (if neg then !inText d ts else inText d ts)) := fun n H x y ok h1 h2 Q q => by
  cases h2 with
  | tup hq ha =>
    have e0 : ts.map PyData.str = (ts.map (Sum.inr : Str → Key)).map keyD := by rw [List.map_map] <;> rfl
    rw [e0] at ha
    have e1 := key_vals ha
    rw [List.map_map] at e1
    subst e1
    exact ⟨d, _, ts, h1.same (U.le _), rfl, seqT (U.le _) hq, q _ H ok (Same.refl _) (.bl _)⟩
/-! x == [], x == () where x has items of any kind -/
def rEq0 (K : PySem.W.Frag) : R2 := fun x y H Q => ∃ (a b : Addr) (xs : List V), x = .ref a ∧ y = .ref b ∧ ((SqL K H a xs ∧ SqL K H b []) ∨ (SqT K H a xs ∧ SqT K H b [])) ∧ Q (.bl xs.isEmpty) H
theorem op_eq0 {X : Cx} (hu : X.A.units + 64 < cLine) : OpR X (compareOp .Eq) (rEq0 X.K) := by
  intro pins s σ H x y v u Q I rx ry h
  obtain ⟨a, b, xs, rfl, rfl, hq, q⟩ := h
  cases rx
  cases ry
  have h1 : X.A.units < cLine := by omega
  rcases hq with ⟨h2, h3⟩ | ⟨h2, h3⟩
  · obtain ⟨i1, r1, p1, _⟩ := I.list h2
    obtain ⟨i2, r2, p2, _⟩ := I.list h3
    cases r2
    cases r1 with
    | nil => exact eq_listAt (e := fun _ => true) p1.isList p2.isList rfl h1 (fun j h _ => absurd h (Nat.not_lt_zero _)) ⟨.bl _, H, I, rfl, q⟩
    | cons c cs => exact eq_list_lengthsAt p1.isList p2.isList rfl h1 ⟨.bl _, H, I, rfl, q⟩
  · obtain ⟨i1, r1, p1, _⟩ := I.tuple h2
    obtain ⟨i2, r2, p2, _⟩ := I.tuple h3
    cases r2
    refine eq_tupleAt (e := fun _ => true) p1 p2 h1 (fun j _ h => absurd h (Nat.not_lt_zero _)) ⟨.bl _, H, I, rfl, ?_⟩
    cases r1 with
    | nil => exact q
    | cons c cs => exact q
theorem r1_eq0L {K : PySem.W.Frag} {U : Wo} {ds : List PyData} : R1 K U (rEq0 K) (.list ds) (.list []) (.bool ds.isEmpty) := fun n H x y ok h1 h2 Q q => by
  cases h1 with
  | lst hq ha =>
    cases h2 with
    | lst hr hb =>
      cases hb
      refine ⟨_, _, _, rfl, rfl, .inl ⟨.inl (.inl (U.le _ _ _ hq)), .inl (.inl (U.le _ _ _ hr))⟩, ?_⟩
      cases ha with
      | nil => exact q _ H ok (Same.refl _) (.bl _)
      | cons c cs => exact q _ H ok (Same.refl _) (.bl _)
theorem r1_eq0T {K : PySem.W.Frag} {U : Wo} {ds : List PyData} : R1 K U (rEq0 K) (.tuple ds) (.tuple []) (.bool ds.isEmpty) := fun n H x y ok h1 h2 Q q => by
  cases h1 with
  | tup hq ha =>
    cases h2 with
    | tup hr hb =>
      cases hb
      refine ⟨_, _, _, rfl, rfl, .inr ⟨seqT (U.le _) hq, seqT (U.le _) hr⟩, ?_⟩
      cases ha with
      | nil => exact q _ H ok (Same.refl _) (.bl _)
      | cons c cs => exact q _ H ok (Same.refl _) (.bl _)
end Mw
namespace Mw
open PySem PySem.Spec PyProof.Rows L2
/-! ### the program's own defs -/
def isIntD : PyData → Bool
  | .int _ => true
  | .bool _ => true
  | _ => false
def isBoolD : PyData → Bool
  | .bool _ => true
  | _ => false
def isStrD : PyData → Bool
  | .str _ => true
  | _ => false
def isTupD : PyData → Bool
  | .tuple _ => true
  | _ => false
def isLstD : PyData → Bool
  | .list _ => true
  | .tuple _ => true
  | _ => false
theorem kit_int (d : PyData) : kitB (tyD d) "int" = some (isIntD d) := by cases d <;> (simp only [tyD, isIntD]; decide +kernel)
theorem kit_bool (d : PyData) : kitB (tyD d) "bool" = some (isBoolD d) := by cases d <;> (simp only [tyD, isBoolD]; decide +kernel)
theorem kit_str (d : PyData) : kitB (tyD d) "str" = some (isStrD d) := by cases d <;> (simp only [tyD, isStrD]; decide +kernel)
theorem kit_tup (d : PyData) : kitB (tyD d) "tuple" = some (isTupD d) := by cases d <;> (simp only [tyD, isTupD]; decide +kernel)
theorem kit_seq (d : PyData) : isiAny d ["list", "tuple"] = some (isLstD d) := by cases d <;> (simp only [isiAny, tyD, isLstD]; decide +kernel)
theorem pick1 {ds : List PyData} (h : ds.length = 1) : ∃ d, ds = [d] := match ds, h with | [d], _ => ⟨d, rfl⟩
theorem pick2 {ds : List PyData} (h : ds.length = 2) : ∃ d e, ds = [d, e] := match ds, h with | [d, e], _ => ⟨d, e, rfl⟩
theorem dd1 {K : PySem.W.Frag} {H : Hp} {vs : List V} {d : PyData} (h : DdAll K H vs [d]) : ∃ v, vs = [v] ∧ Dd K H v d := by
  cases h with
  | cons a b =>
    cases b
    exact ⟨_, rfl, a⟩
theorem dd2 {K : PySem.W.Frag} {H : Hp} {vs : List V} {d e : PyData} (h : DdAll K H vs [d, e]) : ∃ v w, vs = [v, w] ∧ Dd K H v d ∧ Dd K H w e := by
  cases h with
  | cons a b =>
    obtain ⟨w, rfl, hw⟩ := dd1 b
    exact ⟨_, _, rfl, a, hw⟩
def leaf0 : PyData → Bool
  | .int i => decide (0 ≤ i)
  | _ => false
def isCountD (d : PyData) : Bool := isIntD d && (!isBoolD d && leaf0 d)
theorem isCount_int (i : Int) : isCountD (.int i) = decide (0 ≤ i) := by simp [isCountD, isIntD, isBoolD, leaf0]
def f1 (g : PyData → PyData) : List PyData → PyData
  | [d] => g d
  | _ => .none
def f2 (g : PyData → PyData → PyData) : List PyData → PyData
  | [d, e] => g d e
  | _ => .none
section
variable {P : Program} {w : World} {K : PySem.W.Frag} {mg : Str → Option Value} {base : Heap}
abbrev spCount (K : PySem.W.Frag) : Sp := spF K 1 (fun _ => True) (f1 fun d => .bool (isCountD d))
theorem ok_is_count {f : Addr} {fd : FuncData} (F : Fun K "is_count" "is_count" s_is_count f fd) (T : Blt mg) : FnG P w K mg base 1 f fd ["thing"] (spCount K) := by
  refine fnG F sc_is_count (fun vs H Q E h => spF_len h) (fun cdv A outer s H vs Q E hr h => ?_)
  obtain ⟨U, n, ds, a, hd, hl, _, q⟩ := spF_go h
  obtain ⟨d, rfl⟩ := pick1 hl
  obtain ⟨v, rfl, hv⟩ := dd1 hd
  refine ⟨_, pss_one (ps_ret (pe_and (pe_callB call_isi (by rfl) T.isinstance (by decide +kernel) (pa_cons (pv 0) (pa_cons (pe_bltn (v := .ty "int") (by rfl) T.int (by decide +kernel) rfl) pa_nil))) (pe_and (pe_not (pe_callB call_isi (by rfl) T.isinstance (by decide +kernel) (pa_cons (pv 0) (pa_cons (pe_bltn (v := .ty "bool") (by rfl) T.bool (by decide +kernel) rfl) pa_nil)))) (pe_one (pe_cmpR op_ge (pv 0) pe_int (nomark _)))))), ?_⟩
  refine s1_ret (d := .bool (isCountD d)) a (e1_and (e1_isi (e1_var rfl hv) (kit_int d)) fun h1 => e1_and (e1_not (e1_isi (e1_var rfl hv) (kit_bool d))) fun h2 => ?_) (fun v H1 a1 s1 d1 => q v H1 a1.ok s1 d1)
  cases d <;> first | exact Bool.noConfusion h1 | exact Bool.noConfusion h2 | exact e1_op (e1_var rfl hv) e1_int r1_cmp
/-! a field -/
def lettersS : Str := "abcdefghijklmnopqrstuvwxyz"
def barredD : List PyData := [.str "pass", .str "drop", .str "mark", .str "not"]
def signIn (z : Str) : PyData → Bool
  | .str x => (match x.cps.toList with | [c] => decide (c ∈ z.cps.toList) | _ => false)
  | _ => false
theorem r1_inSign {U : Wo} {z : Str} {c : Nat} : R1 K U (fun x y H Q => ∃ (c : Nat) (z : Str), x = .str ⟨#[c]⟩ ∧ y = .str z ∧ Q (.bl (decide (c ∈ z.cps.toList))) H) (.str ⟨#[c]⟩) (.str z) (.bool (decide (c ∈ z.cps.toList))) := fun n H x y ok h1 h2 Q q => by
  cases h1
  cases h2
  exact ⟨c, z, rfl, rfl, q _ H ok (Same.refl _) (.bl _)⟩
def lenOk (x : Str) : Bool := decide ((1 : Int) ≤ x.length) && decide ((x.length : Int) ≤ 6)
def isFieldD : PyData → Bool
  | .str x => lenOk x && ((!barredD.any fun e => PyData.eqv e (.str x)) && ((signs x).map (signIn lettersS)).all id)
  | _ => false
/-- texts of at most 100,000 signs -/
def shortD : PyData → Bool
  | .str x => decide (x.length ≤ 100000)
  | _ => true
structure Cst (K : PySem.W.Frag) (mg : Str → Option Value) : Prop where
  letters : ∃ t, mg "LETTERS" = some (.str lettersS t)
  most_letters : ∃ t, mg "MOST_LETTERS" = some (.int 6 t)
  barred : ∃ (b : Addr) (o : Obj) (its : Array Value) (n : Nat), mg "BARRED" = some (.ref b) ∧ K.lookup b = some o ∧ o.cls = .type "tuple" ∧ o.data = .seq its n ∧ its.size ≤ sizeLine ∧ Vals (barredD.map valD) its.toList
theorem flats {H : Hp} : ∀ {ds : List PyData}, ds.all flatD = true → DdAll K H (ds.map valD) ds
  | [], _ => .nil
  | d :: ds, f => by
    rw [List.all_cons, Bool.and_eq_true] at f
    refine .cons ?_ (flats f.2)
    cases d <;> first | exact Bool.noConfusion f.1 | constructor
abbrev spField (K : PySem.W.Frag) : Sp := spF K 1 (fun ds => ds.all shortD = true) (f1 fun d => .bool (isFieldD d))
theorem ok_is_field {f : Addr} {fd : FuncData} (F : Fun K "is_field" "is_field" s_is_field f fd) (T : Blt mg) (C : Cst K mg) : FnG P w K mg base 1 f fd ["thing"] (spField K) := by
  refine fnG F sc_is_field (fun vs H Q E h => spF_len h) (fun cdv A outer s H vs Q E hr h => ?_)
  obtain ⟨U, n, ds, a, hd, hl, hp, q⟩ := spF_go h
  obtain ⟨d, rfl⟩ := pick1 hl
  obtain ⟨v, rfl, hv⟩ := dd1 hd
  obtain ⟨tl, gl⟩ := C.letters
  obtain ⟨tm, gm⟩ := C.most_letters
  obtain ⟨b, o, its, m, gb, kb, ob, od, oz, ov⟩ := C.barred
  have hb : ∀ H, Dd K H (.ref b) (.tuple barredD) := fun H => .tup (.inr ⟨o, its, m, kb, ob, od, oz, ov⟩) (flats (by decide))
  refine ⟨_, pss_cons (ps_if (PW.pt (pw_or (pt_not (pt_val (pe_callB call_isi (by rfl) T.isinstance (by decide +kernel) (pa_cons (pv 0) (pa_cons (pe_bltn (v := .ty "str") (by rfl) T.str (by decide +kernel) rfl) pa_nil))))) (pw_or1 (pt_not (pt_chain op_le op_le pe_int (pe_callB call_len (by rfl) T.len (by decide +kernel) (pa_cons (pv 0) pa_nil)) (pe_glob (v := .int 6) rfl gm ⟨_, rfl⟩))))))
        (pss_one (ps_ret pe_bl))
        pss_nil)
        (pss_one (ps_ret (pe_and (pe_cmpR op_notIn_seq (pv 0) (pe_glob (v := .ref b) rfl gb rfl) rfl) (pe_one (pe_callB (cr_all rfl) (by rfl) T.all (by decide +kernel) (pa_cons (pe_lc (own := [("letter", 1)]) (g := gName 1) (tt := tYes) rfl sc_is_field.nd (pi_str (pv 0)) (blkOk_by (N := ["thing", "letter"]) (sc := defScope s_is_field) (by decide +kernel)) (fun _ _ _ _ _ => (pg_name (i := 1) sc_is_field.nd rfl (.inl rfl))) (fun _ _ _ _ _ => pts_nil) (fun _ _ _ _ _ => (pe_cmpR op_in_sign (pv 1) (pe_glob (v := .str lettersS) rfl gl ⟨_, rfl⟩) rfl))) pa_nil)))))), ?_⟩
  have out : ∀ (b : Bool), b = isFieldD d → ∀ v H', At U n (U.view H) H' → Same (U.view H) (U.view H') → Dd K (U.view H') v (.bool b) → Q v H' := fun b e v H1 a1 s1 d1 => q v H1 a1.ok s1 (by
    show Dd K (U.view H1) v (.bool (isFieldD d))
    rw [← e]
    exact d1)
  cases hs : isStrD d with
  | false =>
    refine s1_if (b := true) a (t1_or (a := true) (t1_not (b := false) (t1_val (e1_isi (e1_var rfl hv) ((kit_str d).trans (congrArg some hs))))) (b := true) fun z => Bool.noConfusion z) (fun _ H1 a1 s1 => ?_) (fun z => Bool.noConfusion z)
    refine s1_ret (d := .bool false) a1 e1_bl fun v H2 a2 s2 d2 => out false ?_ v H2 a2 (s1.trans s2) d2
    cases d <;> first | exact Bool.noConfusion hs | rfl
  | true =>
    obtain ⟨x, rfl⟩ : ∃ x, d = .str x := by
      cases d <;> first | exact Bool.noConfusion hs | exact ⟨_, rfl⟩
    have hz : x.length ≤ 100000 := by simpa [shortD] using hp
    refine s1_if (b := !lenOk x) a (T1.is (t1_or (a := false) (t1_not (b := true) (t1_val (e1_isi (e1_var rfl hv) (kit_str _)))) (b := !lenOk x) fun _ => t1_not (t1_chain e1_int (e1_len (e1_var rfl hv) rfl hz) r1_cmp (fun _ => e1_int) fun _ => r1_cmp)) rfl) (fun z H1 a1 s1 => ?_) (fun z H1 a1 s1 => ?_)
    · refine s1_ret (d := .bool false) a1 e1_bl fun v H2 a2 s2 d2 => out false ?_ v H2 a2 (s1.trans s2) d2
      have z' : lenOk x = false := by simpa using z
      show false = (lenOk x && _)
      rw [z', Bool.false_and]
    · have z' : lenOk x = true := by simpa using z
      refine s1_ret (d := .bool ((!barredD.any fun e => PyData.eqv e (.str x)) && ((signs x).map (signIn lettersS)).all id)) a1 (e1_and (e1_op (e1_var rfl hv) (e1_kt hb) (r1_inT (neg := true) rfl (by decide))) fun _ => ?_) fun v H2 a2 s2 d2 => out _ ?_ v H2 a2 (s1.trans s2) d2
      · refine e1_all (E1.is (e1_lc (p := fun _ => true) (f := fun d => .bool (signIn lettersS d)) (i1_str (e1_var rfl hv)) (by unfold signs; rw [List.length_map, Array.length_toList]; exact hz) (fun _ => rfl) (fun U' M' v d e hm hd => t1_yes) (fun U' M' v d e hm _ hd => ?_)) ?_)
        · obtain ⟨c, hc, rfl⟩ := List.mem_map.mp hm
          exact e1_op (e1_var rfl hd) e1_str r1_inSign
        · rw [List.filter_eq_self.mpr (fun _ _ => rfl), List.map_map] <;> rfl
      · show _ = (lenOk x && _)
        rw [z', Bool.true_and]
end
end Mw
namespace Mw
open PySem PySem.Spec PyProof.Rows L2
def treeW : List Str := ["pass", "drop", "mark", "is", "set", "take", "row", "choice", "loop", "not"]
def testW : List Str := ["pass", "drop", "is", "row", "choice", "not"]
def wordsOf (bare : Bool) : List Str := if bare then testW else treeW
/-- is it a tree (bare: a test), its inner trees told by r -/
def topD (bare : Bool) (r : Bool → PyData → Bool) : PyData → Bool
  | .tuple (.str w :: xs) =>
    if w = "pass" then xs.isEmpty else if w = "drop" then xs.isEmpty else if w = "mark" then !bare && xs.isEmpty
    else if w = "is" then (match xs with | [a, b] => isFieldD a && isCountD b | _ => false)
    else if w = "set" then !bare && (match xs with | [a, b] => isFieldD a && isCountD b | _ => false)
    else if w = "take" then !bare && (match xs with | [a, b] => isFieldD a && (isFieldD b && !PyData.eqv a b) | _ => false)
    else if w = "row" then decide (2 ≤ xs.length) && xs.all (r bare) else if w = "choice" then decide (2 ≤ xs.length) && xs.all (r bare)
    else if w = "loop" then !bare && (match xs with | [a] => r false a | _ => false)
    else if w = "not" then (match xs with | [a] => r true a | _ => false)
    else false
  | _ => false
def treeD : Nat → Bool → PyData → Bool
  | 0, _, _ => false
  | n + 1, bare, d => topD bare (treeD n) d
mutual
/-- texts are short and can be laid out, tuples are not long -/
def fineD : PyData → Bool
  | .str x => decide (x.length ≤ 100000) && PyData.strOk x
  | .tuple xs => decide (xs.length ≤ 99999) && fineAll xs
  | .none => true
  | .bool _ => true
  | .int _ => true
  | .list _ => true
  | .dict _ => true
def fineAll : List PyData → Bool
  | [] => true
  | x :: xs => fineD x && fineAll xs
end
theorem fineAll_mem : ∀ {xs : List PyData}, fineAll xs = true → ∀ x ∈ xs, fineD x = true
  | [], _, _, h => by cases h
  | y :: ys, h, x, hx => by
    simp only [fineAll, Bool.and_eq_true] at h
    rcases List.mem_cons.mp hx with rfl | hx
    · exact h.1
    · exact fineAll_mem h.2 x hx
theorem fine_laid {d : PyData} (h : fineD d = true) : shortD d = true := by
  cases d <;> first | rfl | (simp only [fineD, Bool.and_eq_true] at h; exact h.1)
theorem topD_out {bare : Bool} {r : Bool → PyData → Bool} {x : PyData} {xs : List PyData} (h : inText x (wordsOf bare) = false) : topD bare r (.tuple (x :: xs)) = false := by
  cases x with
  | str w =>
    cases bare with
    | true =>
      simp only [inText, wordsOf, testW, oneT, if_true, List.any_cons, List.any_nil, Bool.or_false, Bool.or_eq_false_iff, beq_eq_false_iff_ne, ne_eq] at h
      obtain ⟨h1, h2, h3, h4, h5, h6⟩ := h
      simp only [topD, Bool.not_true, Bool.false_and]
      rw [if_neg (Ne.symm h1), if_neg (Ne.symm h2)]
      split
      · rfl
      · rw [if_neg (Ne.symm h3)]
        split
        · rfl
        · split
          · rfl
          · rw [if_neg (Ne.symm h4), if_neg (Ne.symm h5)]
            split
            · rfl
            · rw [if_neg (Ne.symm h6)]
    | false =>
      simp only [inText, wordsOf, treeW, oneT, if_false, Bool.false_eq_true, List.any_cons, List.any_nil, Bool.or_false, Bool.or_eq_false_iff, beq_eq_false_iff_ne, ne_eq] at h
      obtain ⟨h1, h2, h3, h4, h5, h6, h7, h8, h9, h10⟩ := h
      simp only [topD]
      rw [if_neg (Ne.symm h1), if_neg (Ne.symm h2), if_neg (Ne.symm h3), if_neg (Ne.symm h4), if_neg (Ne.symm h5), if_neg (Ne.symm h6), if_neg (Ne.symm h7), if_neg (Ne.symm h8), if_neg (Ne.symm h9), if_neg (Ne.symm h10)]
  | _ => rfl
end Mw
namespace Mw
open PySem PySem.Spec PyProof.Rows L2
section
variable {K : PySem.W.Frag} {U : Wo} {M : Hp} {σ : L2.St} {n : Nat} {te ta tb : TE} {t : TA}
theorem r1_ixT {ds : List PyData} {j : Nat} {d : PyData} (h : ds[j]? = some d) : R1 K U (rIxT K) (.tuple ds) (.int j) d := fun n H x y ok h1 h2 Q q => by
  cases h2
  cases h1 with
  | tup hq ha =>
    have hl := ha.len
    have hj : j < ds.length := (List.getElem?_eq_some_iff.mp h).1
    rename_i a xs
    have hx : xs[j]? = some (xs[j]'(by omega)) := List.getElem?_eq_getElem (by omega)
    obtain ⟨e, he, de⟩ := ha.at hx
    rw [h] at he
    cases he
    exact ⟨a, xs, _, _, rfl, rfl, seqT (U.le _) hq, atI_nat hx, q _ H ok (Same.refl _) de⟩
/-- t[1:], t not empty -/
theorem e1_tailT {tl th : TO} {d : PyData} {ds : List PyData} (h : E1 K U M te σ (.tuple (d :: ds))) (hlo : ∀ H (Q : Option Int → Hp → Prop), Q (some 1) H → tl σ H Q) (hhi : ∀ H (Q : Option Int → Hp → Prop), Q none H → th σ H Q) :
    E1 K U M (tSl (rSlT K) te tl th) σ (.tuple ds) := fun n H a Q q => h n H a _ fun v H1 ok1 s1 d1 => by
  cases d1 with
  | tup hq ha =>
    cases ha with
    | cons x xs =>
      rename_i v vs
      have e : cutV (v :: vs) (some 1) none = vs := by
        unfold cutV
        rw [HT.sIx_none, show (1 : Int) = ((1 : Nat) : Int) from rfl, HT.sIx_nat, Nat.min_eq_left (by simp)]
        exact List.take_of_length_le (by simp)
      refine hlo H1 _ (hhi H1 _ ⟨_, _, rfl, seqT (U.le _) hq, ?_, fun p np => ?_⟩)
      · rw [show (1 : Int) = ((1 : Nat) : Int) from rfl, HT.sIx_nat, Nat.min_eq_left (by simp)]
        omega
      · obtain ⟨ok2, s2, f2, _⟩ := U.new ok1 np rfl
        refine q _ _ ok2 (s1.trans s2) (.tup (.inl (.inl ?_)) (xs.same s2))
        rw [e] at f2 ⊢
        exact f2
theorem po_one {j : Int} : ∀ H (Q : Option Int → Hp → Prop), Q (some j) H → tPart (tC (.int j)) σ H Q := fun H Q q => ⟨j, rfl, q⟩
/-- one of the texts -/
theorem e1_words {ts : List Str} {b : Addr} (h : ∀ H, Dd K H (.ref b) (.tuple (ts.map .str))) : E1 K U M (tC (.ref b)) σ (.tuple (ts.map .str)) := e1_kt h
def spMade (K : PySem.W.Frag) (n : Nat) : Sp := fun vs H Q _ => ∃ (U : Wo) (m : Nat) (d : PyData) (bare : Bool), U.ok m H ∧ DdAll K (U.view H) vs [d, .tuple ((wordsOf bare).map .str), .int n] ∧ fineD d = true ∧
  ∀ v H', U.ok m H' → Same (U.view H) (U.view H') → Dd K (U.view H') v (.bool (treeD n bare d)) → Q v H'
theorem spMade_len {vs : List V} {H : Hp} {Q : VK} {E : XK} (h : spMade K n vs H Q E) : vs.length = 3 := by
  obtain ⟨U, m, d, bare, _, hd, _⟩ := h
  exact hd.len
theorem e1_made {d : PyData} {bare : Bool} (h : A1 K U M t σ [d, .tuple ((wordsOf bare).map .str), .int n]) (f : fineD d = true) : E1 K U M (tGo (spMade K n) t) σ (.bool (treeD n bare d)) := fun m H a Q q =>
  h m H a _ fun vs H1 ok1 s1 d1 => ⟨U, m, d, bare, ok1, d1, f, fun v H2 ok2 s2 d2 => q v H2 ok2 (s1.trans s2) d2⟩
theorem dd3 {H : Hp} {vs : List V} {d e f : PyData} (h : DdAll K H vs [d, e, f]) : ∃ v w u, vs = [v, w, u] ∧ Dd K H v d ∧ Dd K H w e ∧ Dd K H u f := by
  cases h with
  | cons a b =>
    obtain ⟨v, w, rfl, h1, h2⟩ := dd2 b
    exact ⟨_, _, _, rfl, a, h1, h2⟩
end
def spPrev (K : PySem.W.Frag) : Nat → Sp
  | 0 => fun _ _ _ _ => False
  | n + 1 => spMade K n
theorem inText_str {x : PyData} {ts : List Str} (h : inText x ts = true) : ∃ w, x = .str w ∧ w ∈ ts := by
  obtain ⟨t, ht, e⟩ := List.any_eq_true.mp h
  cases x with
  | str w =>
    have e' : t = w := beq_iff_eq.mp e
    exact ⟨w, rfl, e' ▸ ht⟩
  | _ => cases e
theorem inText_of {w : Str} {ts : List Str} : inText (.str w) ts = true ↔ w ∈ ts := by
  constructor
  · intro h
    obtain ⟨w', e, hw⟩ := inText_str h
    cases e
    exact hw
  · intro h
    exact List.any_eq_true.mpr ⟨w, h, beq_self_eq_true w⟩
section
variable {bare : Bool} {r : Bool → PyData → Bool} {w : Str} {xs : List PyData}
theorem one_long : decide ((((PyData.str w) :: xs).length : Int) = 1) = xs.isEmpty := by
  cases xs with
  | nil => rfl
  | cons y ys => exact decide_eq_false (by simp only [List.length_cons]; omega)
theorem top_a (h : w ∈ wordsOf bare) (h1 : inText (.str w) ["pass", "drop", "mark"] = true) : topD bare r (.tuple (.str w :: xs)) = decide ((((PyData.str w) :: xs).length : Int) = 1) := by
  rw [one_long]
  have h2 := inText_of.mp h1
  simp only [List.mem_cons, List.not_mem_nil, or_false] at h2
  rcases h2 with rfl | rfl | rfl
  · rfl
  · rfl
  · cases bare with
    | true => exact absurd h (by decide)
    | false => rfl
def pairB (g : PyData → PyData → Bool) : List PyData → Bool
  | [a, b] => g a b
  | _ => false
def oneB (g : PyData → Bool) : List PyData → Bool
  | [a] => g a
  | _ => false
theorem top_b (h : w ∈ wordsOf bare) (h1 : inText (.str w) ["is", "set"] = true) : topD bare r (.tuple (.str w :: xs)) = pairB (fun a b => isFieldD a && isCountD b) xs := by
  have h2 := inText_of.mp h1
  simp only [List.mem_cons, List.not_mem_nil, or_false] at h2
  rcases h2 with rfl | rfl
  · rfl
  · cases bare with
    | true => exact absurd h (by decide)
    | false => rfl
theorem top_c (h : w ∈ wordsOf bare) (h1 : w = "take") : topD bare r (.tuple (.str w :: xs)) = pairB (fun a b => isFieldD a && (isFieldD b && !PyData.eqv a b)) xs := by
  subst h1
  cases bare with
  | true => exact absurd h (by decide)
  | false => rfl
theorem top_d (h : w ∈ wordsOf bare) (h1 : inText (.str w) ["loop", "not"] = true) : topD bare r (.tuple (.str w :: xs)) = oneB (r (if w = "not" then true else bare)) xs := by
  have h2 := inText_of.mp h1
  simp only [List.mem_cons, List.not_mem_nil, or_false] at h2
  rcases h2 with rfl | rfl
  · cases bare with
    | true => exact absurd h (by decide)
    | false => rfl
  · rfl
theorem top_e (h : w ∈ wordsOf bare) (h1 : inText (.str w) ["pass", "drop", "mark"] = false) (h2 : inText (.str w) ["is", "set"] = false) (h3 : w ≠ "take") (h4 : inText (.str w) ["loop", "not"] = false) : topD bare r (.tuple (.str w :: xs)) = (decide (2 ≤ xs.length) && xs.all (r bare)) := by
  cases bare with
  | true =>
    simp only [wordsOf, testW, if_true, List.mem_cons, List.not_mem_nil, or_false] at h
    rcases h with rfl | rfl | rfl | rfl | rfl | rfl <;> first | rfl | exact absurd h1 (by decide) | exact absurd h2 (by decide) | exact absurd h4 (by decide)
  | false =>
    simp only [wordsOf, treeW, Bool.false_eq_true, if_false, List.mem_cons, List.not_mem_nil, or_false] at h
    rcases h with rfl | rfl | rfl | rfl | rfl | rfl | rfl | rfl | rfl | rfl <;> first | rfl | exact absurd h1 (by decide) | exact absurd h2 (by decide) | exact absurd h4 (by decide) | exact absurd rfl h3
end
theorem all_map5 {ds : List PyData} {f : PyData → Bool} : (((ds.filter fun _ => true).map fun d => PyData.bool (f d)) = (ds.map f).map .bool) := by
  rw [List.filter_eq_self.mpr (fun _ _ => rfl), List.map_map] <;> rfl
theorem all_id5 {ds : List PyData} {f : PyData → Bool} : (ds.map f).all id = ds.all f := by
  rw [List.all_map] <;> rfl
def TupC (K : PySem.W.Frag) (mg : Str → Option Value) (x : Str) (ts : List Str) : Prop := ∃ (b : Addr) (o : Obj) (its : Array Value) (n : Nat), mg x = some (.ref b) ∧ K.lookup b = some o ∧ o.cls = .type "tuple" ∧ o.data = .seq its n ∧ its.size ≤ sizeLine ∧ Vals (ts.map V.str) its.toList
theorem tupC_dd {K : PySem.W.Frag} {H : Hp} {b : Addr} {o : Obj} {its : Array Value} {n : Nat} {ts : List Str} (h1 : K.lookup b = some o) (h2 : o.cls = .type "tuple") (h3 : o.data = .seq its n) (h4 : its.size ≤ sizeLine) (h5 : Vals (ts.map V.str) its.toList) : Dd K H (.ref b) (.tuple (ts.map .str)) := by
  have sh : ∀ ts : List Str, DdAll K H (ts.map V.str) (ts.map PyData.str) := fun ts => by
    induction ts with
    | nil => exact .nil
    | cons y ys ih => exact .cons (.str y) ih
  exact .tup (.inr ⟨o, its, n, h1, h2, h3, h4, h5⟩) (sh ts)
section
variable {P : Program} {w : World} {K : PySem.W.Frag} {mg : Str → Option Value} {base : Heap}
theorem ok_made {f : Addr} {fd : FuncData} (n : Nat) (F : Fun K "is_made_of" "is_made_of" s_is_made_of f fd) (T : Blt mg) (C : TupC K mg "TEST_WORDS" testW) (G_is_field : Def P w K mg base "is_field" 1 ["thing"] (spField K)) (G_is_count : Def P w K mg base "is_count" 1 ["thing"] (spCount K))
    (G_is_made_of : Def P w K mg base "is_made_of" (n + 2) ["thing", "words", "levels"] (spPrev K n)) : FnG P w K mg base (n + 3) f fd ["thing", "words", "levels"] (spMade K n) := by
  refine fnG F sc_is_made_of (fun vs H Q E h => spMade_len h) (fun cdv A outer s H vs Q E hr h => ?_)
  obtain ⟨U, m, d, bare, ok, hd, fd, q⟩ := h
  obtain ⟨v, wv, u, rfl, hv, hw, hu⟩ := dd3 hd
  have hu64 := hu64 hr.r
  have hrm : Rm (n + 2) _ := hr
  obtain ⟨b, o, its, k, gb, kb, ob, od, oz, ov⟩ := C
  have hb : ∀ H, Dd K H (.ref b) (.tuple (testW.map .str)) := fun H => tupC_dd kb ob od oz ov
  have a : At U m (U.view H) H := At.here ok
  refine ⟨_, pss_cons (ps_if (PW.pt (pw_or (pt_cmpR op_lt (pv 2) pe_int (nomark _)) (pw_or (pt_not (pt_val (pe_callB call_isi (by rfl) T.isinstance (by decide +kernel) (pa_cons (pv 0) (pa_cons (pe_bltn (v := .ty "tuple") (by rfl) T.tuple (by decide +kernel) rfl) pa_nil))))) (pw_or1 (pt_cmpR op_eq (pe_callB call_len (by rfl) T.len (by decide +kernel) (pa_cons (pv 0) pa_nil)) pe_int (nomark _))))))
        (pss_one (ps_ret pe_bl))
        pss_nil)
        (pss_cons (ps_set (i := 3) sc_is_made_of.nd rfl (.inl rfl) (pe_ix ix_tup (pv 0) pe_int (fun _ _ => rfl)))
        (pss_cons (ps_if (pt_cmpR (op_notInA hu64) (pv 3) (pv 1) rfl)
        (pss_one (ps_ret pe_bl))
        pss_nil)
        (pss_cons (ps_if (pt_cmpR (op_inA hu64) (pv 3) (pe_tup (pa_cons pe_str (pa_cons pe_str (pa_cons pe_str pa_nil)))) rfl)
        (pss_one (ps_ret (pe_cmpR op_eq (pe_callB call_len (by rfl) T.len (by decide +kernel) (pa_cons (pv 0) pa_nil)) pe_int (nomark _))))
        pss_nil)
        (pss_cons (ps_if (pt_cmpR (op_inA hu64) (pv 3) (pe_tup (pa_cons pe_str (pa_cons pe_str pa_nil))) rfl)
        (pss_one (ps_ret (pe_and (pe_cmpR op_eq (pe_callB call_len (by rfl) T.len (by decide +kernel) (pa_cons (pv 0) pa_nil)) pe_int (nomark _)) (pe_and (pe_go G_is_field hrm (pa_cons (pe_ix ix_tup (pv 0) pe_int (fun _ _ => rfl)) pa_nil) (hj := by omega)) (pe_one (pe_go G_is_count hrm (pa_cons (pe_ix ix_tup (pv 0) pe_int (fun _ _ => rfl)) pa_nil) (hj := by omega)))))))
        pss_nil)
        (pss_cons (ps_if (pt_cmpR op_eq (pv 3) pe_str (nomark _))
        (pss_one (ps_ret (pe_and (pe_cmpR op_eq (pe_callB call_len (by rfl) T.len (by decide +kernel) (pa_cons (pv 0) pa_nil)) pe_int (nomark _)) (pe_and (pe_go G_is_field hrm (pa_cons (pe_ix ix_tup (pv 0) pe_int (fun _ _ => rfl)) pa_nil) (hj := by omega)) (pe_and (pe_go G_is_field hrm (pa_cons (pe_ix ix_tup (pv 0) pe_int (fun _ _ => rfl)) pa_nil) (hj := by omega)) (pe_one (pe_cmpR op_ne (pe_ix ix_tup (pv 0) pe_int (fun _ _ => rfl)) (pe_ix ix_tup (pv 0) pe_int (fun _ _ => rfl)) (nomark _))))))))
        pss_nil)
        (pss_cons (ps_if (pt_cmpR (op_inA hu64) (pv 3) (pe_tup (pa_cons pe_str (pa_cons pe_str pa_nil))) rfl)
        (pss_cons (ps_set (i := 4) sc_is_made_of.nd rfl (.inl rfl) (pe_ifExp (pt_cmpR op_eq (pv 3) pe_str (nomark _)) (pe_glob (v := .ref b) rfl gb rfl) (pv 1)))
          (pss_one (ps_ret (pe_and (pe_cmpR op_eq (pe_callB call_len (by rfl) T.len (by decide +kernel) (pa_cons (pv 0) pa_nil)) pe_int (nomark _)) (pe_one (pe_go G_is_made_of hrm (pa_cons (pe_ix ix_tup (pv 0) pe_int (fun _ _ => rfl)) (pa_cons (pv 4) (pa_cons (pe_op op_sub (pv 2) pe_int) pa_nil))) (hj := by omega)))))))
        pss_nil)
        (pss_one (ps_ret (pe_and (pe_cmpR op_ge (pe_callB call_len (by rfl) T.len (by decide +kernel) (pa_cons (pv 0) pa_nil)) pe_int (nomark _)) (pe_one (pe_callB (cr_all rfl) (by rfl) T.all (by decide +kernel) (pa_cons (pe_lc (own := [("part", 5)]) (g := gName 5) (tt := tYes) rfl sc_is_made_of.nd (pi_tup (pe_slice sl_tup (pv 0) (po_some pe_int) po_none)) (blkOk_by (N := ["thing", "words", "levels", "word", "inner_words", "part"]) (sc := defScope s_is_made_of) (by decide +kernel)) (fun _ _ _ _ _ => (pg_name (i := 5) sc_is_made_of.nd rfl (.inl rfl))) (fun _ _ _ _ _ => pts_nil) (fun _ _ _ _ _ => (pe_go G_is_made_of hrm (pa_cons (pv 5) (pa_cons (pv 1) (pa_cons (pe_op op_sub (pv 2) pe_int) pa_nil))) (hj := by omega)))) pa_nil)))))))))))), ?_⟩
  have out : ∀ (b : Bool), b = treeD n bare d → ∀ y H2, At U m (U.view H) H2 → Same (U.view H) (U.view H2) → Dd K (U.view H2) y (.bool b) → Q y H2 := fun b e y H2 a2 s2 d2 => q y H2 a2.ok s2 (e ▸ d2)
  cases n with
  | zero =>
    refine s1_if (b := true) a (t1_or (a := true) (t1_test (E1.is (e1_op (e1_var rfl hu) e1_int r1_cmp) rfl)) (b := true) fun z => Bool.noConfusion z) (fun _ H1 a1 s1 => ?_) (fun z => Bool.noConfusion z)
    exact s1_ret (d := .bool false) a1 e1_bl fun y H2 a2 s2 d2 => out false rfl y H2 a2 (s1.trans s2) d2
  | succ n =>
    have lt : decide (((n + 1 : Nat) : Int) < 1) = false := decide_eq_false (by omega)
    cases hs : isTupD d with
    | false =>
      refine s1_if (b := true) a (t1_or (a := false) (t1_test (E1.is (e1_op (e1_var rfl hu) e1_int r1_cmp) (congrArg PyData.bool lt))) fun _ => t1_or (a := true) (t1_not (b := false) (t1_val (e1_isi (e1_var rfl hv) ((kit_tup d).trans (congrArg some hs))))) (b := true) fun z => Bool.noConfusion z) (fun _ H1 a1 s1 => ?_) (fun z => Bool.noConfusion z)
      refine s1_ret (d := .bool false) a1 e1_bl fun y H2 a2 s2 d2 => out false ?_ y H2 a2 (s1.trans s2) d2
      cases d <;> first | exact Bool.noConfusion hs | rfl
    | true =>
      obtain ⟨ts, rfl⟩ : ∃ ts, d = .tuple ts := by
        cases d <;> first | exact Bool.noConfusion hs | exact ⟨_, rfl⟩
      obtain ⟨hz, hf⟩ : ts.length ≤ 99999 ∧ fineAll ts = true := by simpa [fineD] using fd
      cases ts with
      | nil =>
        refine s1_if (b := true) a (t1_or (a := false) (t1_test (E1.is (e1_op (e1_var rfl hu) e1_int r1_cmp) (congrArg PyData.bool lt))) fun _ => t1_or (a := false) (t1_not (b := true) (t1_val (e1_isi (e1_var rfl hv) (kit_tup _)))) (b := true) fun _ => t1_test (E1.is (e1_op (e1_len (e1_var rfl hv) rfl (by decide)) e1_int r1_eqI) rfl)) (fun _ H1 a1 s1 => ?_) (fun z => Bool.noConfusion z)
        exact s1_ret (d := .bool false) a1 e1_bl fun y H2 a2 s2 d2 => out false rfl y H2 a2 (s1.trans s2) d2
      | cons x xs =>
        have lz : (x :: xs).length ≤ 100000 := by omega
        have ne0 : decide (((x :: xs).length : Int) = 0) = false := decide_eq_false (by simp only [List.length_cons]; omega)
        refine s1_if (b := false) a (t1_or (a := false) (t1_test (E1.is (e1_op (e1_var rfl hu) e1_int r1_cmp) (congrArg PyData.bool lt))) fun _ => t1_or (a := false) (t1_not (b := true) (t1_val (e1_isi (e1_var rfl hv) (kit_tup _)))) (b := false) fun _ => t1_test (E1.is (e1_op (e1_len (e1_var rfl hv) rfl lz) e1_int r1_eqI) (congrArg PyData.bool ne0))) (fun z => Bool.noConfusion z) fun _ H1 a1 s1 => ?_
        refine s1_asg (K := K) (d := x) a1 (e1_op (e1_var rfl hv) e1_int (r1_ixT (j := 0) rfl)) fun v3 H2 a2 s2 d2 => ?_
        have hv2 := (hv.same s1).same s2
        have hw2 := (hw.same s1).same s2
        have hu2 := (hu.same s1).same s2
        have s12 := s1.trans s2
        refine s1_if (b := !inText x (wordsOf bare)) a2 (t1_test (e1_op (e1_var rfl d2) (e1_var rfl hw2) (r1_inA (neg := true)))) (fun g H3 a3 s3 => ?_) (fun g H3 a3 s3 => ?_)
        · refine s1_ret (d := .bool false) a3 e1_bl fun y H4 a4 s4 d4 => out false ?_ y H4 ⟨a4.ok, (s12.trans a4.up)⟩ ((s12.trans s3).trans s4) d4
          exact (topD_out (by simpa using g)).symm
        have g' : inText x (wordsOf bare) = true := by simpa using g
        obtain ⟨w, rfl, hw0⟩ := inText_str g'
        have s13 := s12.trans s3
        have up : ∀ {H4 : Hp}, At U m (U.view H2) H4 → At U m (U.view H) H4 := fun a4 => ⟨a4.ok, s12.trans a4.up⟩
        have len : ∀ {σ : L2.St}, σ[0]? = some (some v) → E1 K U (U.view H2) (tCB (fun xs H Q => ∃ x n, xs = [x] ∧ LenV K x H n ∧ Q (.int n) H) (tCons (tVar 0) tNil)) σ (.int ((PyData.str w :: xs).length : Nat)) := fun h => e1_len (e1_var h hv2) rfl lz
        refine s1_if (b := inText (.str w) ["pass", "drop", "mark"]) a3 (t1_test (e1_op (e1_var rfl d2) (e1_tup (ds := [.str "pass", .str "drop", .str "mark"]) (a1_cons e1_str (a1_cons e1_str (a1_cons e1_str a1_nil))) (by decide)) (r1_inA (neg := false) (ts := ["pass", "drop", "mark"])))) (fun g3 H4 a4 s4 => ?_) (fun g3 H4 a4 s4 => ?_)
        · refine s1_ret (d := .bool _) a4 (e1_op (len rfl) e1_int r1_eqI) fun y H5 a5 s5 d5 => out _ ?_ y H5 (up a5) ((s13.trans s4).trans s5) d5
          exact (top_a hw0 g3).symm
        have fx : ∀ z ∈ xs, fineD z = true := fun z hz => fineAll_mem hf z (List.mem_cons_of_mem _ hz)
        have sh : ∀ z ∈ xs, [z].all shortD = true := fun z hz => by
          rw [List.all_cons, fine_laid (fx z hz)]
          rfl
        refine s1_if (b := inText (.str w) ["is", "set"]) a4 (t1_test (e1_op (e1_var rfl d2) (e1_tup (ds := [.str "is", .str "set"]) (a1_cons e1_str (a1_cons e1_str a1_nil)) (by decide)) (r1_inA (neg := false) (ts := ["is", "set"])))) (fun g4 H5 a5 s5 => ?_) (fun g4 H5 a5 s5 => ?_)
        · refine s1_ret (d := .bool (pairB (fun a b => isFieldD a && isCountD b) xs)) a5 ?_ fun y H6 a6 s6 d6 => out _ (top_b hw0 g4).symm y H6 (up a6) (((s13.trans s4).trans s5).trans s6) d6
          rcases xs with _ | ⟨p1, _ | ⟨p2, _ | ⟨p3, ps⟩⟩⟩
          rotate_left 2
          · exact e1_and (a := true) (E1.is (e1_op (len rfl) e1_int r1_eqI) rfl) fun _ => e1_and (e1_go (a1_cons (e1_op (e1_var rfl hv2) e1_int (r1_ixT (j := 1) rfl)) a1_nil) rfl (sh _ (by simp))) fun _ => e1_go (a1_cons (e1_op (e1_var rfl hv2) e1_int (r1_ixT (j := 2) rfl)) a1_nil) rfl trivial
          rotate_left
          · exact e1_and (a := false) (b := false) (E1.is (e1_op (len rfl) e1_int r1_eqI) rfl) fun z => Bool.noConfusion z
          · exact e1_and (a := false) (b := false) (E1.is (e1_op (len rfl) e1_int r1_eqI) rfl) fun z => Bool.noConfusion z
          · exact e1_and (a := false) (b := false) (E1.is (e1_op (len rfl) e1_int r1_eqI) (congrArg PyData.bool (decide_eq_false (by simp only [List.length_cons]; omega)))) fun z => Bool.noConfusion z
        refine s1_if (b := decide (w = "take")) a5 (t1_test (e1_op (e1_var rfl d2) e1_str r1_eqS)) (fun g5 H6 a6 s6 => ?_) (fun g5 H6 a6 s6 => ?_)
        · refine s1_ret (d := .bool (pairB (fun a b => isFieldD a && (isFieldD b && !PyData.eqv a b)) xs)) a6 ?_ fun y H7 a7 s7 d7 => out _ (top_c hw0 (of_decide_eq_true g5)).symm y H7 (up a7) ((((s13.trans s4).trans s5).trans s6).trans s7) d7
          rcases xs with _ | ⟨p1, _ | ⟨p2, _ | ⟨p3, ps⟩⟩⟩
          rotate_left 2
          · refine e1_and (a := true) (E1.is (e1_op (len rfl) e1_int r1_eqI) rfl) fun _ => e1_and (e1_go (a1_cons (e1_op (e1_var rfl hv2) e1_int (r1_ixT (j := 1) rfl)) a1_nil) rfl (sh _ (by simp))) fun i1 => e1_and (e1_go (a1_cons (e1_op (e1_var rfl hv2) e1_int (r1_ixT (j := 2) rfl)) a1_nil) rfl (sh _ (by simp))) fun i2 => ?_
            obtain ⟨x1, rfl⟩ : ∃ x, p1 = .str x := by
              cases p1 <;> first | exact Bool.noConfusion i1 | exact ⟨_, rfl⟩
            obtain ⟨x2, rfl⟩ : ∃ x, p2 = .str x := by
              cases p2 <;> first | exact Bool.noConfusion i2 | exact ⟨_, rfl⟩
            refine E1.is (e1_op (d1 := .str x1) (d2 := .str x2) (e1_op (e1_var rfl hv2) e1_int (r1_ixT (j := 1) rfl)) (e1_op (e1_var rfl hv2) e1_int (r1_ixT (j := 2) rfl)) r1_neS) (congrArg (fun b => PyData.bool (!b)) ?_)
            simp only [PyData.eqv]
            rw [Bool.eq_iff_iff, decide_eq_true_iff, beq_iff_eq]
          rotate_left
          · exact e1_and (a := false) (b := false) (E1.is (e1_op (len rfl) e1_int r1_eqI) rfl) fun z => Bool.noConfusion z
          · exact e1_and (a := false) (b := false) (E1.is (e1_op (len rfl) e1_int r1_eqI) rfl) fun z => Bool.noConfusion z
          · exact e1_and (a := false) (b := false) (E1.is (e1_op (len rfl) e1_int r1_eqI) (congrArg PyData.bool (decide_eq_false (by simp only [List.length_cons]; omega)))) fun z => Bool.noConfusion z
        have sub1 : (((n + 1 : Nat) : Int) - 1) = (n : Nat) := by omega
        refine s1_if (b := inText (.str w) ["loop", "not"]) a6 (t1_test (e1_op (e1_var rfl d2) (e1_tup (ds := [.str "loop", .str "not"]) (a1_cons e1_str (a1_cons e1_str a1_nil)) (by decide)) (r1_inA (neg := false) (ts := ["loop", "not"])))) (fun g6 H7 a7 s7 => ?_) (fun g6 H7 a7 s7 => ?_)
        · refine s1_asg (K := K) (d := .tuple ((wordsOf (if w = "not" then true else bare)).map .str)) a7 (e1_if (b := decide (w = "not")) (t1_test (e1_op (e1_var rfl d2) e1_str r1_eqS)) (fun z => ?i1) (fun z => ?i2)) fun v4 H8 a8 s8 d8 => ?_
          case i1 =>
            rw [if_pos (of_decide_eq_true z)]
            exact e1_kt hb
          case i2 =>
            rw [if_neg (of_decide_eq_false z)]
            exact e1_var rfl hw2
          have tr := ((s3.trans s4).trans s5).trans s6
          have tr8 := (tr.trans s7).trans s8
          dsimp only
          refine s1_ret (d := .bool (oneB (treeD n (if w = "not" then true else bare)) xs)) a8 ?_ fun y H9 a9 s9 d9 => out _ (top_d hw0 g6).symm y H9 ⟨a9.ok, (s12.trans tr8).trans a9.up⟩ ((s12.trans tr8).trans s9) d9
          have hv8 := hv2.same tr8
          have hu8 := hu2.same tr8
          rcases xs with _ | ⟨p1, _ | ⟨p2, ps⟩⟩
          rotate_left
          · exact e1_and (a := true) (E1.is (e1_op (e1_len (e1_var rfl hv8) rfl lz) e1_int r1_eqI) rfl) fun _ => e1_made (a1_cons (e1_op (e1_var rfl hv8) e1_int (r1_ixT (j := 1) rfl)) (a1_cons (e1_var rfl d8) (a1_cons (E1.is (e1_op (e1_var rfl hu8) e1_int r1_int) (congrArg PyData.int sub1)) a1_nil))) (fx _ (by simp))
          rotate_left
          · exact e1_and (a := false) (b := false) (E1.is (e1_op (e1_len (e1_var rfl hv8) rfl lz) e1_int r1_eqI) rfl) fun z => Bool.noConfusion z
          · exact e1_and (a := false) (b := false) (E1.is (e1_op (e1_len (e1_var rfl hv8) rfl lz) e1_int r1_eqI) (congrArg PyData.bool (decide_eq_false (by simp only [List.length_cons]; omega)))) fun z => Bool.noConfusion z
        · refine s1_ret (d := .bool (decide (2 ≤ xs.length) && xs.all (treeD n bare))) a7 (e1_and (E1.is (e1_op (len rfl) e1_int r1_cmp) (congrArg PyData.bool (decide_eq_decide.mpr (by simp only [List.length_cons]; omega)))) fun _ => E1.is (e1_all (bs := xs.map (treeD n bare)) (E1.is (e1_lc (p := fun _ => true) (f := fun d => .bool (treeD n bare d)) (i1_tup (e1_tailT (e1_var rfl hv2) po_one po_non)) (by simp only [List.length_cons] at lz; omega) (fun _ => rfl) (fun U' M' v d e hm hd => t1_yes) (fun U' M' v d e hm _ hd => ?e1)) (congrArg PyData.list all_map5))) (congrArg PyData.bool all_id5)) fun y H8 a8 s8 d8 => out _ (top_e hw0 g3 g4 (of_decide_eq_false g5) g6).symm y H8 (up a8) (((((s13.trans s4).trans s5).trans s6).trans s7).trans s8) d8
          exact e1_made (a1_cons (e1_var rfl hd) (a1_cons (e1_var rfl (hw2.same e)) (a1_cons (E1.is (e1_op (e1_var rfl (hu2.same e)) e1_int r1_int) (congrArg PyData.int sub1)) a1_nil))) (fx d hm)
end
end Mw
namespace Mw
open PySem PySem.Spec PyProof.Rows L2
section
variable {K : PySem.W.Frag} {U : Wo} {W : Wd} {M : Hp} {σ : L2.St} {n k k0 m : Nat} {te ta tb : TE} {D : Ends} {H : Hp}
/-- a for that may leave -/
theorem s1_for {wi : TI} {j : Nat} {ds : List PyData} {tb : TS} (a : At U n M H) (h : I1 K U M wi σ ds) (Pv : Nat → L2.St → Prop) (h0 : Pv 0 σ)
    (hs : ∀ i σ' H' v d (N : L2.St → Hp → Prop), ds[i]? = some d → Pv i σ' → At U n M H' → Same (U.view H) (U.view H') → Dd K (U.view H') v d → (∀ σ2 H2, Pv (i + 1) σ2 → At U n M H2 → Same (U.view H') (U.view H2) → N σ2 H2) →
      tb { D with nx := N, ct := N, bk := D.nx } (σ'.set j (some v)) H')
    (hd : ∀ σ' H', Pv ds.length σ' → At U n M H' → Same (U.view H) (U.view H') → D.nx σ' H') : tFor wi (gName j) tb D σ H :=
  h n H a _ fun J H1 ok1 s1 w => by
    refine for_it w (fun i σ' H' => Pv i σ' ∧ At U n M H' ∧ Same (U.view H1) (U.view H')) ⟨h0, a.step ok1 s1, Same.refl _⟩ (fun i σ' H' _ z => z.2.2) ?_ ?_
    · rintro i x σ' H2 H3 hi ⟨pv, a2, s2⟩ ⟨rfl, d, hd, dx⟩
      exact hs i σ' H3 x d _ hd pv a2 (s1.trans s2) (dx.same s2) fun σ2 H4 p2 a4 s4 => ⟨p2, a4, s2.trans s4⟩
    · rintro σ' H2 ⟨pv, a2, s2⟩
      exact hd _ _ pv a2 (s1.trans s2)
/-- a for that draws -/
theorem s3_for {wi : TI} {j : Nat} {P : List PyData → Prop} {tb : TS} (a : At U n M H) (hn : n + (k0 + m * k) ≤ most) (h : I3 K U M k0 wi σ P) (z : ∀ ds, P ds → ds.length ≤ m) (Pv : Nat → L2.St → Hp → Prop) (h0 : ∀ H', Same (U.view H) (U.view H') → Pv 0 σ H')
    (hs : ∀ i n' σ' H' v d (N : L2.St → Hp → Prop), i < m → n' + k ≤ most → Pv i σ' H' → At U n' M H' → Same (U.view H) (U.view H') → Dd K (U.view H') v d → (∀ σ2 H2, Pv (i + 1) σ2 H2 → At U (n' + k) M H2 → Same (U.view H') (U.view H2) → N σ2 H2) →
      tb { D with nx := N, ct := N, bk := D.nx } (σ'.set j (some v)) H')
    (hd : ∀ i σ' H', i ≤ m → Pv i σ' H' → At U (n + (k0 + m * k)) M H' → Same (U.view H) (U.view H') → D.nx σ' H') : tFor wi (gName j) tb D σ H :=
  h n H a (by omega) _ fun J ds H1 p ok1 s1 w => by
    have hm := z ds p
    have hmk := Nat.mul_le_mul_right k hm
    refine for_it w (fun i σ' H' => Pv i σ' H' ∧ At U (n + k0 + i * k) M H' ∧ Same (U.view H1) (U.view H')) ⟨h0 _ s1, ⟨by rw [Nat.zero_mul]; exact ok1, a.up.trans s1⟩, Same.refl _⟩ (fun i σ' H' _ z => z.2.2) ?_ ?_
    · rintro i x σ' H2 H3 hi ⟨pv, a2, s2⟩ ⟨rfl, d, hd, dx⟩
      have hik : i * k + k ≤ m * k := by
        have := Nat.mul_le_mul_right k (show i + 1 ≤ m by omega)
        rwa [Nat.add_mul, Nat.one_mul] at this
      exact hs i _ σ' H3 x d _ (by omega) (by omega) pv a2 (s1.trans s2) (dx.same s2) fun σ2 H4 p2 a4 s4 => ⟨p2, ⟨by rw [Nat.add_mul, Nat.one_mul, ← Nat.add_assoc]; exact a4.ok, a4.up⟩, s2.trans s4⟩
    · rintro σ' H2 ⟨pv, a2, s2⟩
      exact hd _ _ _ hm pv ⟨U.mono a2.ok (by omega), a2.up⟩ (s1.trans s2)
theorem r1_leS {a b : Str} : R1 K U (fun x y H Q => ∃ i j, x = .str i ∧ y = .str j ∧ Q (.bl (!decide (j.cps.toList < i.cps.toList))) H) (.str a) (.str b) (.bool (!decide (b.cps.toList < a.cps.toList))) := fun n H x y ok h1 h2 Q q => by
  cases h1
  cases h2
  exact ⟨_, _, rfl, rfl, q _ H ok (Same.refl _) (.bl _)⟩
end
/-! what the law says of a field -/
def lowD : PyData → Bool
  | .str x => !decide (x.cps.toList < [97]) && !decide ([122] < x.cps.toList)
  | _ => false
theorem letters_are : lettersS.cps.toList = [97, 98, 99, 100, 101, 102, 103, 104, 105, 106, 107, 108, 109, 110, 111, 112, 113, 114, 115, 116, 117, 118, 119, 120, 121, 122] := by decide +kernel
theorem low_sign (c : Nat) : lowD (.str ⟨#[c]⟩) = signIn lettersS (.str ⟨#[c]⟩) := by
  show (!decide ([c] < [97]) && !decide ([122] < [c])) = decide (c ∈ lettersS.cps.toList)
  rw [letters_are, Bool.eq_iff_iff]
  simp only [Bool.and_eq_true, Bool.not_eq_true', decide_eq_false_iff_not, decide_eq_true_eq, List.mem_cons, List.not_mem_nil, or_false, List.cons_lt_cons_iff, List.not_lt_nil, and_false]
  omega
theorem none_low {x : Str} : ((signs x).filter fun d => !lowD d).isEmpty = ((signs x).map (signIn lettersS)).all id := by
  rw [all_id5, Bool.eq_iff_iff, List.isEmpty_iff, List.filter_eq_nil_iff, List.all_eq_true]
  constructor
  · intro h d hd
    obtain ⟨c, hc, rfl⟩ := List.mem_map.mp hd
    have := h _ hd
    rw [← low_sign]
    simpa using this
  · intro h d hd
    obtain ⟨c, hc, rfl⟩ := List.mem_map.mp hd
    have := h _ hd
    rw [low_sign, this]
    decide
/-- texts that can be laid out -/
def laidD : PyData → Bool
  | .str x => decide (x.length ≤ 100000) && PyData.strOk x
  | _ => true
theorem signs_laid {x : Str} (h : PyData.strOk x = true) : ∀ d ∈ signs x, d.canLay0 = true ∧ d.depth = 0 := by
  intro d hd
  obtain ⟨c, hc, rfl⟩ := List.mem_map.mp hd
  have h2 : x.cps.toList.all (· < 0x110000) = true := by rw [Array.all_toList]; exact h
  have h3 := List.all_eq_true.mp h2 c hc
  refine ⟨?_, rfl⟩
  simp only [PyData.canLay0, PyData.strOk]
  simpa using h3
theorem shaped_list {ds : List PyData} (h : ∀ d ∈ ds, d.canLay0 = true ∧ d.depth = 0) : SeqAt.shaped (.list ds) = true := by
  have key : ∀ {ds : List PyData}, (∀ d ∈ ds, d.canLay0 = true ∧ d.depth = 0) → PyData.canLayAll0 ds = true ∧ PyData.depthAll ds = 0 := fun {ds} => by
    induction ds with
    | nil => exact fun _ => ⟨rfl, rfl⟩
    | cons d ds ih =>
      intro h
      obtain ⟨b1, b2⟩ := ih fun e he => h e (List.mem_cons_of_mem _ he)
      obtain ⟨a1, a2⟩ := h d (List.mem_cons_self ..)
      refine ⟨?_, ?_⟩
      · simp [PyData.canLayAll0, a1, b1]
      · simp [PyData.depthAll, a2, b2]
  obtain ⟨h1, h2⟩ := key h
  simp [SeqAt.shaped, PyData.canLay0, PyData.depth, h1, h2]
section
variable {P : Program} {w : World} {K : PySem.W.Frag} {mg : Str → Option Value} {base : Heap}
abbrev spWord (K : PySem.W.Frag) : Sp := spF K 1 (fun ds => ds.all laidD = true) (f1 fun d => .bool (isFieldD d))
theorem ok_word {f : Addr} {fd : FuncData} (F : Fun K "_law_is_word" "_law_is_word" s__law_is_word f fd) (T : Blt mg) : FnG P w K mg base 1 f fd ["thing_here"] (spWord K) := by
  refine fnG F sc__law_is_word (fun vs H Q E h => spF_len h) (fun cdv A outer s H vs Q E hr h => ?_)
  obtain ⟨U, n, ds, a, hd, hl, hp, q⟩ := spF_go h
  obtain ⟨d, rfl⟩ := pick1 hl
  obtain ⟨v, rfl, hv⟩ := dd1 hd
  have hu64 := hu64 hr.r
  refine ⟨_, pss_cons (ps_if (PW.pt (pw_or (pt_not (pt_val (pe_callB call_isi (by rfl) T.isinstance (by decide +kernel) (pa_cons (pv 0) (pa_cons (pe_bltn (v := .ty "str") (by rfl) T.str (by decide +kernel) rfl) pa_nil))))) (pw_or1 (pt_not (pt_chain op_le op_le pe_int (pe_callB call_len (by rfl) T.len (by decide +kernel) (pa_cons (pv 0) pa_nil)) pe_int)))))
        (pss_one (ps_ret pe_bl))
        pss_nil)
        (pss_cons (ps_if (pt_cmpR op_in_seq (pv 0) (pe_tup (pa_cons pe_str (pa_cons pe_str (pa_cons pe_str (pa_cons pe_str pa_nil))))) rfl)
        (pss_one (ps_ret pe_bl))
        pss_nil)
        (pss_one (ps_ret (pe_cmpR (op_eqD hu64) (pe_lc (own := [("sign", 1)]) (g := gName 1) rfl sc__law_is_word.nd (pi_str (pv 0)) (blkOk_by (N := ["thing_here", "sign"]) (sc := defScope s__law_is_word) (by decide +kernel)) (fun _ _ _ _ _ => (pg_name (i := 1) sc__law_is_word.nd rfl (.inl rfl))) (fun _ _ _ _ _ => pts_one (pt_not (pt_chain op_le_str op_le_str pe_str (pv 1) pe_str))) (fun _ _ _ _ _ => (pv 1))) (pe_lst pa_nil) (nomark _))))), ?_⟩
  have out : ∀ (b : Bool), b = isFieldD d → ∀ v H', At U n (U.view H) H' → Same (U.view H) (U.view H') → Dd K (U.view H') v (.bool b) → Q v H' := fun b e v H1 a1 s1 d1 => q v H1 a1.ok s1 (by
    show Dd K (U.view H1) v (.bool (isFieldD d))
    rw [← e]
    exact d1)
  cases hs : isStrD d with
  | false =>
    refine s1_if (b := true) a (t1_or (a := true) (t1_not (b := false) (t1_val (e1_isi (e1_var rfl hv) ((kit_str d).trans (congrArg some hs))))) (b := true) fun z => Bool.noConfusion z) (fun _ H1 a1 s1 => ?_) (fun z => Bool.noConfusion z)
    refine s1_ret (d := .bool false) a1 e1_bl fun v H2 a2 s2 d2 => out false ?_ v H2 a2 (s1.trans s2) d2
    cases d <;> first | exact Bool.noConfusion hs | rfl
  | true =>
    obtain ⟨x, rfl⟩ : ∃ x, d = .str x := by
      cases d <;> first | exact Bool.noConfusion hs | exact ⟨_, rfl⟩
    obtain ⟨hz, hk⟩ : x.length ≤ 100000 ∧ PyData.strOk x = true := by simpa [laidD] using hp
    refine s1_if (b := !lenOk x) a (T1.is (t1_or (a := false) (t1_not (b := true) (t1_val (e1_isi (e1_var rfl hv) (kit_str _)))) (b := !lenOk x) fun _ => t1_not (t1_chain e1_int (e1_len (e1_var rfl hv) rfl hz) r1_cmp (fun _ => e1_int) fun _ => r1_cmp)) rfl) (fun z H1 a1 s1 => ?_) (fun z H1 a1 s1 => ?_)
    · refine s1_ret (d := .bool false) a1 e1_bl fun v H2 a2 s2 d2 => out false ?_ v H2 a2 (s1.trans s2) d2
      have z' : lenOk x = false := by simpa using z
      show false = (lenOk x && _)
      rw [z', Bool.false_and]
    · have z' : lenOk x = true := by simpa using z
      refine s1_if (b := barredD.any fun e => PyData.eqv e (.str x)) a1 (t1_test (e1_op (e1_var rfl hv) (e1_tup (ds := barredD) (a1_cons e1_str (a1_cons e1_str (a1_cons e1_str (a1_cons e1_str a1_nil)))) (by decide)) (r1_inT (neg := false) rfl (by decide)))) (fun y H2 a2 s2 => ?_) (fun y H2 a2 s2 => ?_)
      · refine s1_ret (d := .bool false) a2 e1_bl fun v H3 a3 s3 d3 => out false ?_ v H3 a3 ((s1.trans s2).trans s3) d3
        show false = (lenOk x && ((!barredD.any fun e => PyData.eqv e (.str x)) && _))
        rw [y, z']
        rfl
      · refine s1_ret (d := .bool (((signs x).filter fun d => !lowD d).isEmpty)) a2 (E1.is (e1_op (d1 := .list ((signs x).filter fun d => !lowD d)) (d2 := .list []) (E1.is (e1_lc (p := fun d => !lowD d) (f := fun d => d) (i1_str (e1_var rfl hv)) (by unfold signs; rw [List.length_map, Array.length_toList]; exact hz) (fun _ => rfl) (fun U' M' v d e hm hd => ?_) (fun U' M' v d e hm _ hd => e1_var rfl hd)) (by rw [List.map_id'])) (e1_lst a1_nil (by decide)) (r1_eqD (shaped_list fun d hd => signs_laid hk d (List.mem_filter.mp hd).1) shaped_nil)) (congrArg PyData.bool (eqv_empty _))) fun v H3 a3 s3 d3 => out _ ?_ v H3 a3 ((s1.trans s2).trans s3) d3
        · obtain ⟨c, hc, rfl⟩ := List.mem_map.mp hm
          exact t1_not (t1_chain (a := !decide ([c] < [97])) (b := !decide ([122] < [c])) e1_str (e1_var rfl hd) r1_leS (fun _ => e1_str) fun _ => r1_leS)
        · show _ = (lenOk x && ((!barredD.any fun e => PyData.eqv e (.str x)) && _))
          rw [y, z', none_low]
          rfl
end
section
variable {K : PySem.W.Frag} {U : Wo} {M : Hp} {σ : L2.St} {n : Nat} {te ta tb : TE} {t : TA} {D : Ends} {H : Hp}
theorem s1_par {i j : Nat} {d e : PyData} (a : At U n M H) (h : A1 K U M t σ [d, e]) (q : ∀ v w H', At U n (U.view H') H' → Same (U.view H) (U.view H') → Dd K (U.view H') v d → Dd K (U.view H') w e → D.nx ((σ.set i (some v)).set j (some w)) H') : tPar i j t D σ H :=
  h n H a _ fun vs H1 ok1 s1 d1 => by
    obtain ⟨v, w, rfl, h1, h2⟩ := dd2 d1
    exact ⟨v, w, rfl, q v w H1 (At.here ok1) s1 h1 h2⟩
def spDue (K : PySem.W.Frag) (n : Nat) : Sp := fun vs H Q _ => ∃ (U : Wo) (m : Nat) (d : PyData) (bare : Bool), U.ok m H ∧ DdAll K (U.view H) vs [d, .int n, .bool bare] ∧ fineD d = true ∧
  ∀ v H', U.ok m H' → Same (U.view H) (U.view H') → Dd K (U.view H') v (.bool (treeD n bare d)) → Q v H'
theorem spDue_len {vs : List V} {H : Hp} {Q : VK} {E : XK} (h : spDue K n vs H Q E) : vs.length = 3 := by
  obtain ⟨U, m, d, bare, _, hd, _⟩ := h
  exact hd.len
theorem e1_due {d : PyData} {bare : Bool} (h : A1 K U M t σ [d, .int n, .bool bare]) (f : fineD d = true) : E1 K U M (tGo (spDue K n) t) σ (.bool (treeD n bare d)) := fun m H a Q q =>
  h m H a _ fun vs H1 ok1 s1 d1 => ⟨U, m, d, bare, ok1, d1, f, fun v H2 ok2 s2 d2 => q v H2 ok2 (s1.trans s2) d2⟩
end
def spPrevD (K : PySem.W.Frag) : Nat → Sp
  | 0 => fun _ _ _ _ => False
  | n + 1 => spDue K n
section
variable {bare : Bool} {r : Bool → PyData → Bool} {w : Str} {xs : List PyData}
theorem zero_long : decide ((xs.length : Int) = 0) = xs.isEmpty := by
  cases xs with
  | nil => rfl
  | cons y ys => exact decide_eq_false (by simp only [List.length_cons]; omega)
theorem due_a (h1 : inText (.str w) ["pass", "drop"] = true) : topD bare r (.tuple (.str w :: xs)) = decide ((xs.length : Int) = 0) := by
  rw [zero_long]
  have h2 := inText_of.mp h1
  simp only [List.mem_cons, List.not_mem_nil, or_false] at h2
  rcases h2 with rfl | rfl <;> rfl
theorem due_b (h1 : w = "mark") : topD bare r (.tuple (.str w :: xs)) = (decide ((xs.length : Int) = 0) && !bare) := by
  rw [zero_long, Bool.and_comm]
  subst h1
  rfl
theorem due_c0 (h1 : inText (.str w) ["is", "set", "take"] = true) (h : xs.length ≠ 2) : topD bare r (.tuple (.str w :: xs)) = false := by
  have h2 := inText_of.mp h1
  simp only [List.mem_cons, List.not_mem_nil, or_false] at h2
  rcases xs with _ | ⟨p1, _ | ⟨p2, _ | ⟨p3, ps⟩⟩⟩
  rotate_left 2
  · exact absurd rfl h
  all_goals rcases h2 with rfl | rfl | rfl <;> cases bare <;> rfl
theorem due_c1 {p1 p2 : PyData} (h1 : inText (.str w) ["is", "set", "take"] = true) (h : ((!decide (w = "is") && bare) || !isFieldD p1) = true) : topD bare r (.tuple [.str w, p1, p2]) = false := by
  have h2 := inText_of.mp h1
  simp only [List.mem_cons, List.not_mem_nil, or_false] at h2
  rcases h2 with rfl | rfl | rfl
  · have z : isFieldD p1 = false := by simpa using h
    show (isFieldD p1 && isCountD p2) = false
    rw [z, Bool.false_and]
  · cases bare with
    | true => rfl
    | false =>
      have z : isFieldD p1 = false := by simpa using h
      show (true && (isFieldD p1 && isCountD p2)) = false
      rw [z, Bool.false_and, Bool.and_false]
  · cases bare with
    | true => rfl
    | false =>
      have z : isFieldD p1 = false := by simpa using h
      show (true && (isFieldD p1 && (isFieldD p2 && _))) = false
      rw [z, Bool.false_and, Bool.and_false]
theorem due_c2 {p1 p2 : PyData} (h1 : w = "take") (h : ((!decide (w = "is") && bare) || !isFieldD p1) = false) : topD bare r (.tuple [.str w, p1, p2]) = (isFieldD p2 && !PyData.eqv p1 p2) := by
  subst h1
  cases bare with
  | true => exact absurd h (by rw [show decide (("take" : Str) = "is") = false by decide]; simp)
  | false =>
    have z : isFieldD p1 = true := by simpa using h
    show (true && (isFieldD p1 && _)) = _
    rw [z, Bool.true_and, Bool.true_and]
theorem due_c3 {p1 p2 : PyData} (h1 : inText (.str w) ["is", "set", "take"] = true) (hn : w ≠ "take") (h : ((!decide (w = "is") && bare) || !isFieldD p1) = false) : topD bare r (.tuple [.str w, p1, p2]) = isCountD p2 := by
  have h2 := inText_of.mp h1
  simp only [List.mem_cons, List.not_mem_nil, or_false] at h2
  rcases h2 with rfl | rfl | rfl
  · have z : isFieldD p1 = true := by simpa using h
    show (isFieldD p1 && isCountD p2) = _
    rw [z, Bool.true_and]
  · cases bare with
    | true => exact absurd h (by rw [show decide (("set" : Str) = "is") = false by decide]; simp)
    | false =>
      have z : isFieldD p1 = true := by simpa using h
      show (true && (isFieldD p1 && isCountD p2)) = _
      rw [z, Bool.true_and, Bool.true_and]
  · exact absurd rfl hn
theorem due_d (h1 : inText (.str w) ["row", "choice"] = true) : topD bare r (.tuple (.str w :: xs)) = (decide ((2 : Int) ≤ xs.length) && (xs.filter fun d => !r bare d).isEmpty) := by
  have h2 := inText_of.mp h1
  simp only [List.mem_cons, List.not_mem_nil, or_false] at h2
  have e : (xs.filter fun d => !r bare d).isEmpty = xs.all (r bare) := by
    rw [Bool.eq_iff_iff, List.isEmpty_iff, List.filter_eq_nil_iff, List.all_eq_true]
    simp
  have e2 : decide ((2 : Int) ≤ xs.length) = decide (2 ≤ xs.length) := decide_eq_decide.mpr (by omega)
  rw [e, e2]
  rcases h2 with rfl | rfl <;> rfl
theorem due_e (h1 : w = "loop") : topD bare r (.tuple (.str w :: xs)) = (!bare && oneB (r false) xs) := by
  subst h1
  rfl
theorem due_f (h1 : inText (.str w) ["pass", "drop"] = false) (h2 : w ≠ "mark") (h3 : inText (.str w) ["is", "set", "take"] = false) (h4 : inText (.str w) ["row", "choice"] = false) (h5 : w ≠ "loop") : topD bare r (.tuple (.str w :: xs)) = (decide (w = "not") && oneB (r true) xs) := by
  have n1 : w ∉ (["pass", "drop"] : List Str) := fun z => by rw [inText_of.mpr z] at h1; cases h1
  have n3 : w ∉ (["is", "set", "take"] : List Str) := fun z => by rw [inText_of.mpr z] at h3; cases h3
  have n4 : w ∉ (["row", "choice"] : List Str) := fun z => by rw [inText_of.mpr z] at h4; cases h4
  simp only [List.mem_cons, List.not_mem_nil, or_false, not_or] at n1 n3 n4
  simp only [topD]
  rw [if_neg n1.1, if_neg n1.2, if_neg h2, if_neg n3.1, if_neg n3.2.1, if_neg n3.2.2, if_neg n4.1, if_neg n4.2, if_neg h5]
  by_cases e : w = "not"
  · rw [if_pos e, decide_eq_true e, Bool.true_and]
    rfl
  · rw [if_neg e, decide_eq_false e, Bool.false_and]
end
end Mw
namespace Mw
open PySem PySem.Spec PyProof.Rows L2
section
variable {P : Program} {w : World} {K : PySem.W.Frag} {mg : Str → Option Value} {base : Heap}
theorem ok_due {f : Addr} {fd : FuncData} (n : Nat) (F : Fun K "_law_is_due" "_law_is_due" s__law_is_due f fd) (T : Blt mg) (G_word : Def P w K mg base "_law_is_word" 1 ["thing_here"] (spWord K))
    (G_due : Def P w K mg base "_law_is_due" (n + 2) ["matter", "levels", "is_bare"] (spPrevD K n)) : FnG P w K mg base (n + 3) f fd ["matter", "levels", "is_bare"] (spDue K n) := by
  refine fnG F sc__law_is_due (fun vs H Q E h => spDue_len h) (fun cdv A outer s H vs Q E hr h => ?_)
  obtain ⟨U, m, d, bare, ok, hd, fd, q⟩ := h
  obtain ⟨v, u, wv, rfl, hv, hu, hw⟩ := dd3 hd
  have hu64 := hu64 hr.r
  have hrm : Rm (n + 2) _ := hr
  have a : At U m (U.view H) H := At.here ok
  refine ⟨_, pss_cons (ps_if (PW.pt (pw_or (pt_cmpR op_eq (pv 1) pe_int (nomark _)) (pw_or (pt_not (pt_val (pe_callB call_isi (by rfl) T.isinstance (by decide +kernel) (pa_cons (pv 0) (pa_cons (pe_bltn (v := .ty "tuple") (by rfl) T.tuple (by decide +kernel) rfl) pa_nil))))) (pw_or (pt_cmpR (op_eq0 hu64) (pv 0) (pe_tup pa_nil) (nomark _)) (pw_or1 (pt_not (pt_val (pe_callB call_isi (by rfl) T.isinstance (by decide +kernel) (pa_cons (pe_ix ix_tup (pv 0) pe_int (fun _ _ => rfl)) (pa_cons (pe_bltn (v := .ty "str") (by rfl) T.str (by decide +kernel) rfl) pa_nil))))))))))
        (pss_one (ps_ret pe_bl))
        pss_nil)
        (pss_cons (ps_par (i := 3) (j := 4) rfl sc__law_is_due.nd rfl rfl (by decide) rfl rfl (pa_cons (pe_ix ix_tup (pv 0) pe_int (fun _ _ => rfl)) (pa_cons (pe_op op_sub (pe_callB call_len (by rfl) T.len (by decide +kernel) (pa_cons (pv 0) pa_nil)) pe_int) pa_nil)) (by rfl))
        (pss_cons (ps_if (pt_cmpR (op_inA hu64) (pv 3) (pe_tup (pa_cons pe_str (pa_cons pe_str pa_nil))) rfl)
        (pss_one (ps_ret (pe_cmpR op_eq (pv 4) pe_int (nomark _))))
        pss_nil)
        (pss_cons (ps_if (pt_cmpR op_eq (pv 3) pe_str (nomark _))
        (pss_one (ps_ret (pe_and (pe_cmpR op_eq (pv 4) pe_int (nomark _)) (pe_one (pe_not (pv 2))))))
        pss_nil)
        (pss_cons (ps_if (pt_cmpR (op_inA hu64) (pv 3) (pe_tup (pa_cons pe_str (pa_cons pe_str (pa_cons pe_str pa_nil)))) rfl)
        (pss_cons (ps_if (PW.pt (pw_or (pt_cmpR op_ne (pv 4) pe_int (nomark _)) (pw_or (PW.pt (pw_and (pt_cmpR op_ne (pv 3) pe_str (nomark _)) (pw_and1 (pt_val (pv 2))))) (pw_or1 (pt_not (pt_val (pe_go G_word hrm (pa_cons (pe_ix ix_tup (pv 0) pe_int (fun _ _ => rfl)) pa_nil) (hj := by omega))))))))
          (pss_one (ps_ret pe_bl))
          pss_nil)
          (pss_cons (ps_if (pt_cmpR op_eq (pv 3) pe_str (nomark _))
          (pss_one (ps_ret (pe_and (pe_go G_word hrm (pa_cons (pe_ix ix_tup (pv 0) pe_int (fun _ _ => rfl)) pa_nil) (hj := by omega)) (pe_one (pe_cmpR op_ne (pe_ix ix_tup (pv 0) pe_int (fun _ _ => rfl)) (pe_ix ix_tup (pv 0) pe_int (fun _ _ => rfl)) (nomark _))))))
          pss_nil)
          (pss_one (ps_ret (pe_and (pe_callB call_isi (by rfl) T.isinstance (by decide +kernel) (pa_cons (pe_ix ix_tup (pv 0) pe_int (fun _ _ => rfl)) (pa_cons (pe_bltn (v := .ty "int") (by rfl) T.int (by decide +kernel) rfl) pa_nil))) (pe_and (pe_not (pe_callB call_isi (by rfl) T.isinstance (by decide +kernel) (pa_cons (pe_ix ix_tup (pv 0) pe_int (fun _ _ => rfl)) (pa_cons (pe_bltn (v := .ty "bool") (by rfl) T.bool (by decide +kernel) rfl) pa_nil)))) (pe_one (pe_cmpR op_ge (pe_ix ix_tup (pv 0) pe_int (fun _ _ => rfl)) pe_int (nomark _)))))))))
        pss_nil)
        (pss_cons (ps_if (pt_cmpR (op_inA hu64) (pv 3) (pe_tup (pa_cons pe_str (pa_cons pe_str pa_nil))) rfl)
        (pss_one (ps_ret (pe_and (pe_cmpR op_ge (pv 4) pe_int (nomark _)) (pe_one (pe_cmpR (op_eq0 hu64) (pe_lc (own := [("one", 5)]) (g := gName 5) rfl sc__law_is_due.nd (pi_tup (pe_slice sl_tup (pv 0) (po_some pe_int) po_none)) (blkOk_by (N := ["matter", "levels", "is_bare", "word", "many", "one"]) (sc := defScope s__law_is_due) (by decide +kernel)) (fun _ _ _ _ _ => (pg_name (i := 5) sc__law_is_due.nd rfl (.inl rfl))) (fun _ _ _ _ _ => pts_one (pt_not (pt_val (pe_go G_due hrm (pa_cons (pv 5) (pa_cons (pe_op op_sub (pv 1) pe_int) (pa_cons (pv 2) pa_nil))) (hj := by omega))))) (fun _ _ _ _ _ => (pv 5))) (pe_lst pa_nil) (nomark _))))))
        pss_nil)
        (pss_cons (ps_if (pt_cmpR op_eq (pv 3) pe_str (nomark _))
        (pss_one (ps_ret (pe_and (pe_cmpR op_eq (pv 4) pe_int (nomark _)) (pe_and (pe_not (pv 2)) (pe_one (pe_go G_due hrm (pa_cons (pe_ix ix_tup (pv 0) pe_int (fun _ _ => rfl)) (pa_cons (pe_op op_sub (pv 1) pe_int) (pa_cons pe_bl pa_nil))) (hj := by omega)))))))
        pss_nil)
        (pss_one (ps_ret (pe_and (pe_cmpR op_eq (pv 3) pe_str (nomark _)) (pe_and (pe_cmpR op_eq (pv 4) pe_int (nomark _)) (pe_one (pe_go G_due hrm (pa_cons (pe_ix ix_tup (pv 0) pe_int (fun _ _ => rfl)) (pa_cons (pe_op op_sub (pv 1) pe_int) (pa_cons pe_bl pa_nil))) (hj := by omega))))))))))))), ?_⟩
  have out : ∀ (b : Bool), b = treeD n bare d → ∀ y H2, At U m (U.view H) H2 → Same (U.view H) (U.view H2) → Dd K (U.view H2) y (.bool b) → Q y H2 := fun b e y H2 a2 s2 d2 => q y H2 a2.ok s2 (e ▸ d2)
  cases n with
  | zero =>
    refine s1_if (b := true) a (t1_or (a := true) (t1_test (E1.is (e1_op (e1_var rfl hu) e1_int r1_eqI) rfl)) (b := true) fun z => Bool.noConfusion z) (fun _ H1 a1 s1 => ?_) (fun z => Bool.noConfusion z)
    exact s1_ret (d := .bool false) a1 e1_bl fun y H2 a2 s2 d2 => out false rfl y H2 a2 (s1.trans s2) d2
  | succ n =>
    have lt : decide (((n + 1 : Nat) : Int) = 0) = false := decide_eq_false (by omega)
    have sub1 : (((n + 1 : Nat) : Int) - 1) = (n : Nat) := by omega
    cases hs : isTupD d with
    | false =>
      refine s1_if (b := true) a (t1_or (a := false) (t1_test (E1.is (e1_op (e1_var rfl hu) e1_int r1_eqI) (congrArg PyData.bool lt))) fun _ => t1_or (a := true) (t1_not (b := false) (t1_val (e1_isi (e1_var rfl hv) ((kit_tup d).trans (congrArg some hs))))) (b := true) fun z => Bool.noConfusion z) (fun _ H1 a1 s1 => ?_) (fun z => Bool.noConfusion z)
      refine s1_ret (d := .bool false) a1 e1_bl fun y H2 a2 s2 d2 => out false ?_ y H2 a2 (s1.trans s2) d2
      cases d <;> first | exact Bool.noConfusion hs | rfl
    | true =>
      obtain ⟨ts, rfl⟩ : ∃ ts, d = .tuple ts := by
        cases d <;> first | exact Bool.noConfusion hs | exact ⟨_, rfl⟩
      obtain ⟨hz, hf⟩ : ts.length ≤ 99999 ∧ fineAll ts = true := by simpa [fineD] using fd
      cases ts with
      | nil =>
        refine s1_if (b := true) a (t1_or (a := false) (t1_test (E1.is (e1_op (e1_var rfl hu) e1_int r1_eqI) (congrArg PyData.bool lt))) fun _ => t1_or (a := false) (t1_not (b := true) (t1_val (e1_isi (e1_var rfl hv) (kit_tup _)))) (b := true) fun _ => t1_or (a := true) (t1_test (e1_op (e1_var rfl hv) (e1_tup a1_nil (by decide)) r1_eq0T)) (b := true) fun z => Bool.noConfusion z) (fun _ H1 a1 s1 => ?_) (fun z => Bool.noConfusion z)
        exact s1_ret (d := .bool false) a1 e1_bl fun y H2 a2 s2 d2 => out false rfl y H2 a2 (s1.trans s2) d2
      | cons x xs =>
        have lz : (x :: xs).length ≤ 100000 := by omega
        cases hx : isStrD x with
        | false =>
          refine s1_if (b := true) a (t1_or (a := false) (t1_test (E1.is (e1_op (e1_var rfl hu) e1_int r1_eqI) (congrArg PyData.bool lt))) fun _ => t1_or (a := false) (t1_not (b := true) (t1_val (e1_isi (e1_var rfl hv) (kit_tup _)))) (b := true) fun _ => t1_or (a := false) (t1_test (e1_op (e1_var rfl hv) (e1_tup a1_nil (by decide)) r1_eq0T)) (b := true) fun _ => t1_not (b := false) (t1_val (e1_isi (e1_op (e1_var rfl hv) e1_int (r1_ixT (j := 0) rfl)) ((kit_str x).trans (congrArg some hx))))) (fun _ H1 a1 s1 => ?_) (fun z => Bool.noConfusion z)
          refine s1_ret (d := .bool false) a1 e1_bl fun y H2 a2 s2 d2 => out false ?_ y H2 a2 (s1.trans s2) d2
          cases x <;> first | exact Bool.noConfusion hx | rfl
        | true =>
          obtain ⟨w, rfl⟩ : ∃ w, x = .str w := by
            cases x <;> first | exact Bool.noConfusion hx | exact ⟨_, rfl⟩
          refine s1_if (b := false) a (t1_or (a := false) (t1_test (E1.is (e1_op (e1_var rfl hu) e1_int r1_eqI) (congrArg PyData.bool lt))) fun _ => t1_or (a := false) (t1_not (b := true) (t1_val (e1_isi (e1_var rfl hv) (kit_tup _)))) (b := false) fun _ => t1_or (a := false) (t1_test (e1_op (e1_var rfl hv) (e1_tup a1_nil (by decide)) r1_eq0T)) (b := false) fun _ => t1_not (b := true) (t1_val (e1_isi (e1_op (e1_var rfl hv) e1_int (r1_ixT (j := 0) rfl)) (kit_str _)))) (fun z => Bool.noConfusion z) fun _ H1 a1 s1 => ?_
          have manyI : (((PyData.str w :: xs).length : Nat) : Int) - 1 = (xs.length : Nat) := by simp only [List.length_cons]; omega
          refine s1_par a1 (a1_cons (e1_op (e1_var rfl hv) e1_int (r1_ixT (j := 0) rfl)) (a1_cons (E1.is (e1_op (e1_len (e1_var rfl hv) rfl lz) e1_int r1_int) (congrArg PyData.int manyI)) a1_nil)) fun v3 v4 H2 a2 s2 d3 d4 => ?_
          have s12 := s1.trans s2
          have hv2 := hv.same s12
          have hw2 := hw.same s12
          have hu2 := hu.same s12
          have up : ∀ {H4 : Hp}, At U m (U.view H2) H4 → At U m (U.view H) H4 := fun a4 => ⟨a4.ok, s12.trans a4.up⟩
          have fx : ∀ z ∈ xs, fineD z = true := fun z hz => fineAll_mem hf z (List.mem_cons_of_mem _ hz)
          have sh : ∀ z ∈ xs, [z].all laidD = true := fun z hz => by
            have := fx z hz
            cases z <;> first | rfl | (simp only [fineD] at this; simpa [laidD] using this)
          refine s1_if (b := inText (.str w) ["pass", "drop"]) a2 (t1_test (e1_op (e1_var rfl d3) (e1_tup (ds := [.str "pass", .str "drop"]) (a1_cons e1_str (a1_cons e1_str a1_nil)) (by decide)) (r1_inA (neg := false) (ts := ["pass", "drop"])))) (fun g3 H3 a3 s3 => ?_) (fun g3 H3 a3 s3 => ?_)
          · exact s1_ret (d := .bool _) a3 (e1_op (e1_var rfl d4) e1_int r1_eqI) fun y H4 a4 s4 d4 => out _ (due_a g3).symm y H4 (up a4) ((s12.trans s3).trans s4) d4
          refine s1_if (b := decide (w = "mark")) a3 (t1_test (e1_op (e1_var rfl d3) e1_str r1_eqS)) (fun g4 H4 a4 s4 => ?_) (fun g4 H4 a4 s4 => ?_)
          · exact s1_ret (d := .bool _) a4 (e1_and (e1_op (e1_var rfl d4) e1_int r1_eqI) fun _ => e1_not (e1_var rfl hw2)) fun y H5 a5 s5 d5 => out _ (due_b (of_decide_eq_true g4)).symm y H5 (up a5) (((s12.trans s3).trans s4).trans s5) d5
          have t4 := (s12.trans s3).trans s4
          refine s1_if (b := inText (.str w) ["is", "set", "take"]) a4 (t1_test (e1_op (e1_var rfl d3) (e1_tup (ds := [.str "is", .str "set", .str "take"]) (a1_cons e1_str (a1_cons e1_str (a1_cons e1_str a1_nil))) (by decide)) (r1_inA (neg := false) (ts := ["is", "set", "take"])))) (fun g5 H5 a5 s5 => ?_) (fun g5 H5 a5 s5 => ?_)
          · dsimp only
            refine rd_seq ?_
            by_cases h2 : xs.length = 2
            · obtain ⟨p1, p2, rfl⟩ := pick2 h2
              refine s1_if (b := (!decide (w = "is") && bare) || !isFieldD p1) a5 (t1_or (a := false) (t1_test (E1.is (e1_op (e1_var rfl d4) e1_int r1_neI) rfl)) fun _ => t1_or (t1_and (t1_test (e1_op (e1_var rfl d3) e1_str r1_neS)) fun _ => t1_val (e1_var rfl hw2)) fun _ => t1_not (t1_val (e1_go (a1_cons (e1_op (e1_var rfl hv2) e1_int (r1_ixT (j := 1) rfl)) a1_nil) rfl (sh _ (by simp))))) (fun g6 H6 a6 s6 => ?_) (fun g6 H6 a6 s6 => ?_)
              · exact s1_ret (d := .bool false) a6 e1_bl fun y H7 a7 s7 d7 => out _ (due_c1 g5 g6).symm y H7 (up a7) (((t4.trans s5).trans s6).trans s7) d7
              dsimp only
              refine rd_seq ?_
              refine s1_if (b := decide (w = "take")) a6 (t1_test (e1_op (e1_var rfl d3) e1_str r1_eqS)) (fun g7 H7 a7 s7 => ?_) (fun g7 H7 a7 s7 => ?_)
              · refine s1_ret (d := .bool (isFieldD p2 && !PyData.eqv p1 p2)) a7 (e1_and (e1_go (a1_cons (e1_op (e1_var rfl hv2) e1_int (r1_ixT (j := 2) rfl)) a1_nil) rfl (sh _ (by simp))) fun i2 => ?_) fun y H8 a8 s8 d8 => out _ (due_c2 (of_decide_eq_true g7) g6).symm y H8 (up a8) ((((t4.trans s5).trans s6).trans s7).trans s8) d8
                have i1 : isFieldD p1 = true := by
                  have := (Bool.or_eq_false_iff.mp g6).2
                  simpa using this
                obtain ⟨x1, rfl⟩ : ∃ x, p1 = .str x := by
                  cases p1 <;> first | exact Bool.noConfusion i1 | exact ⟨_, rfl⟩
                obtain ⟨x2, rfl⟩ : ∃ x, p2 = .str x := by
                  cases p2 <;> first | exact Bool.noConfusion i2 | exact ⟨_, rfl⟩
                refine E1.is (e1_op (d1 := .str x1) (d2 := .str x2) (e1_op (e1_var rfl hv2) e1_int (r1_ixT (j := 1) rfl)) (e1_op (e1_var rfl hv2) e1_int (r1_ixT (j := 2) rfl)) r1_neS) (congrArg (fun b => PyData.bool (!b)) ?_)
                simp only [PyData.eqv]
                rw [Bool.eq_iff_iff, decide_eq_true_iff, beq_iff_eq]
              · have p2e : ∀ {σ : L2.St}, σ[0]? = some (some v) → E1 K U (U.view H2) (tOp (rIxT K) (tVar 0) (tC (.int 2))) σ p2 := fun h => e1_op (e1_var h hv2) e1_int (r1_ixT (j := 2) rfl)
                refine s1_ret (d := .bool (isCountD p2)) a7 (e1_and (e1_isi (p2e rfl) (kit_int _)) fun h1 => e1_and (e1_not (e1_isi (p2e rfl) (kit_bool _))) fun h2 => ?_) fun y H8 a8 s8 d8 => out _ (due_c3 g5 (of_decide_eq_false g7) g6).symm y H8 (up a8) ((((t4.trans s5).trans s6).trans s7).trans s8) d8
                cases p2 <;> first | exact Bool.noConfusion h1 | exact Bool.noConfusion h2 | exact e1_op (p2e rfl) e1_int r1_cmp
            · refine s1_if (b := true) a5 (t1_or (a := true) (t1_test (E1.is (e1_op (e1_var rfl d4) e1_int r1_neI) (congrArg (fun b => PyData.bool (!b)) (decide_eq_false (by omega))))) (b := true) fun z => Bool.noConfusion z) (fun _ H6 a6 s6 => ?_) (fun z => Bool.noConfusion z)
              exact s1_ret (d := .bool false) a6 e1_bl fun y H7 a7 s7 d7 => out _ (due_c0 g5 h2).symm y H7 (up a7) (((t4.trans s5).trans s6).trans s7) d7
          have one1 : ∀ {p : PyData}, decide ((([p] : List PyData).length : Int) = 1) = true := fun {p} => rfl
          refine s1_if (b := inText (.str w) ["row", "choice"]) a5 (t1_test (e1_op (e1_var rfl d3) (e1_tup (ds := [.str "row", .str "choice"]) (a1_cons e1_str (a1_cons e1_str a1_nil)) (by decide)) (r1_inA (neg := false) (ts := ["row", "choice"])))) (fun g6 H6 a6 s6 => ?_) (fun g6 H6 a6 s6 => ?_)
          · refine s1_ret (d := .bool (decide ((2 : Int) ≤ xs.length) && (xs.filter fun d => !treeD n bare d).isEmpty)) a6 (e1_and (e1_op (e1_var rfl d4) e1_int r1_cmp) fun _ => e1_op (d1 := .list (xs.filter fun d => !treeD n bare d)) (E1.is (e1_lc (p := fun d => !treeD n bare d) (f := fun d => d) (i1_tup (e1_tailT (e1_var rfl hv2) po_one po_non)) (by simp only [List.length_cons] at lz; omega) (fun _ => rfl) (fun U' M' v d e hm hd => t1_not (t1_val (K := K) ?e1)) (fun U' M' v d e hm _ hd => e1_var rfl hd)) (by rw [List.map_id'])) (e1_lst a1_nil (by decide)) r1_eq0L) fun y H7 a7 s7 d7 => out _ (due_d g6).symm y H7 (up a7) (((t4.trans s5).trans s6).trans s7) d7
            exact e1_due (a1_cons (e1_var rfl hd) (a1_cons (E1.is (e1_op (e1_var rfl (hu2.same e)) e1_int r1_int) (congrArg PyData.int sub1)) (a1_cons (e1_var rfl (hw2.same e)) a1_nil))) (fx d hm)
          refine s1_if (b := decide (w = "loop")) a6 (t1_test (e1_op (e1_var rfl d3) e1_str r1_eqS)) (fun g7 H7 a7 s7 => ?_) (fun g7 H7 a7 s7 => ?_)
          · rcases xs with _ | ⟨p1, _ | ⟨p2, ps⟩⟩
            rotate_left
            · exact s1_ret (d := .bool (true && (!bare && treeD n false p1))) a7 (e1_and (E1.is (e1_op (e1_var rfl d4) e1_int r1_eqI) rfl) fun _ => e1_and (e1_not (e1_var rfl hw2)) fun _ => e1_due (a1_cons (e1_op (e1_var rfl hv2) e1_int (r1_ixT (j := 1) rfl)) (a1_cons (E1.is (e1_op (e1_var rfl hu2) e1_int r1_int) (congrArg PyData.int sub1)) (a1_cons e1_bl a1_nil))) (fx _ (by simp))) fun y H8 a8 s8 d8 => out _ (due_e (of_decide_eq_true g7)).symm y H8 (up a8) ((((t4.trans s5).trans s6).trans s7).trans s8) d8
            rotate_left
            · exact s1_ret (d := .bool (false && true)) a7 (e1_and (E1.is (e1_op (e1_var rfl d4) e1_int r1_eqI) rfl) fun z => Bool.noConfusion z) fun y H8 a8 s8 d8 => out _ ((due_e (of_decide_eq_true g7)).trans (Bool.and_false _)).symm y H8 (up a8) ((((t4.trans s5).trans s6).trans s7).trans s8) d8
            · exact s1_ret (d := .bool (false && true)) a7 (e1_and (E1.is (e1_op (e1_var rfl d4) e1_int r1_eqI) (congrArg PyData.bool (decide_eq_false (by simp only [List.length_cons]; omega)))) fun z => Bool.noConfusion z) fun y H8 a8 s8 d8 => out _ ((due_e (of_decide_eq_true g7)).trans (Bool.and_false _)).symm y H8 (up a8) ((((t4.trans s5).trans s6).trans s7).trans s8) d8
          have last := fun r : Bool → PyData → Bool => due_f (bare := bare) (r := r) (xs := xs) g3 (of_decide_eq_false g4) g5 g6 (of_decide_eq_false g7)
          rcases xs with _ | ⟨p1, _ | ⟨p2, ps⟩⟩
          rotate_left
          · exact s1_ret (d := .bool (decide (w = "not") && (true && treeD n true p1))) a7 (e1_and (e1_op (e1_var rfl d3) e1_str r1_eqS) fun _ => e1_and (E1.is (e1_op (e1_var rfl d4) e1_int r1_eqI) rfl) fun _ => e1_due (a1_cons (e1_op (e1_var rfl hv2) e1_int (r1_ixT (j := 1) rfl)) (a1_cons (E1.is (e1_op (e1_var rfl hu2) e1_int r1_int) (congrArg PyData.int sub1)) (a1_cons e1_bl a1_nil))) (fx _ (by simp))) fun y H8 a8 s8 d8 => out _ (last _).symm y H8 (up a8) ((((t4.trans s5).trans s6).trans s7).trans s8) d8
          rotate_left
          · exact s1_ret (d := .bool (decide (w = "not") && (false && true))) a7 (e1_and (e1_op (e1_var rfl d3) e1_str r1_eqS) fun _ => e1_and (E1.is (e1_op (e1_var rfl d4) e1_int r1_eqI) rfl) fun z => Bool.noConfusion z) fun y H8 a8 s8 d8 => out _ (last _).symm y H8 (up a8) ((((t4.trans s5).trans s6).trans s7).trans s8) d8
          · exact s1_ret (d := .bool (decide (w = "not") && (false && true))) a7 (e1_and (e1_op (e1_var rfl d3) e1_str r1_eqS) fun _ => e1_and (E1.is (e1_op (e1_var rfl d4) e1_int r1_eqI) (congrArg PyData.bool (decide_eq_false (by simp only [List.length_cons]; omega)))) fun z => Bool.noConfusion z) fun y H8 a8 s8 d8 => out _ (last _).symm y H8 (up a8) ((((t4.trans s5).trans s6).trans s7).trans s8) d8
end
end Mw
/-! ### a dict that changes, out of sight -/
namespace Mw
open PySem PySem.Spec PyProof.Rows L2
/-- one object out of sight, of which Pm holds -/
def Wo.part (U : Wo) (F : Addr) (Pm : HO → Prop) : Wo where
  view := fun H => hideV F (U.view H)
  ok := fun n H => U.ok n H ∧ ∃ o, U.view H F = some o ∧ Pm o
  le := fun H => (hide_le F _).trans (U.le H)
  mono := fun h l => ⟨U.mono h.1 l, h.2⟩
  new := by
    intro n H H1 p o' h np e
    obtain ⟨x, y, z, w⟩ := U.new h.1 np e
    obtain ⟨o, ho, hp⟩ := h.2
    have pD : p ≠ F := fun q => by
      rw [q, U.le _ _ _ ho] at np
      cases np
    refine ⟨⟨x, o, y _ _ ho, hp⟩, hide_same y, hide_at z pD, ?_⟩
    unfold hideV
    rw [if_neg pD]
    exact w
  own := by
    intro n H H1 p o1 o2 h hp e
    obtain ⟨pD, hp⟩ := hide_of hp
    obtain ⟨o, ho, hm⟩ := h.2
    obtain ⟨x, y, z⟩ := U.own h.1 hp e
    exact ⟨⟨x, o, z _ _ pD.symm ho, hm⟩, hide_at y pD, fun a u n q => hide_at (z a u n (hide_of q).2) (hide_of q).1⟩
theorem Of.part {U : Wo} {W : Wd} (o : Of U W) (F : Addr) (Pm : HO → Prop) : Of (U.part F Pm) W where
  st := fun h => o.st h.1
  go := fun h s e => by
    obtain ⟨a, b⟩ := o.go h.1 s e
    obtain ⟨x, hx, px⟩ := h.2
    exact ⟨⟨a, x, b _ _ hx, px⟩, hide_same b⟩
  le := fun H => (hide_le F _).trans (o.le H)
  new := fun h nl e => hide_at (o.new h.1 nl e) (fun z => by
    obtain ⟨x, hx, _⟩ := h.2
    rw [z, U.le _ _ _ hx] at nl
    cases nl)
def frameK (tf ln : Addr) (m : Int) : List (Key × V) := [(.inr "fields", .ref tf), (.inr "numbers", .ref ln), (.inr "marks", .int m)]
/-- F is a frame there -/
structure Fr (U : Wo) (F tf ln : Addr) : Prop where
  get : ∀ {n H}, U.ok n H → ∃ m : Int, H F = some (.dK (frameK tf ln m))
  set : ∀ {n H H1} {m : Int}, U.ok n H → upd H F (.dK (frameK tf ln m)) = H1 → U.ok n H1 ∧ Same (U.view H) (U.view H1)
theorem Fr.hide {U : Wo} {F tf ln : Addr} (f : Fr U F tf ln) (D : Addr) (o : HO) : Fr (U.hide D o) F tf ln where
  get := fun h => f.get h.1
  set := fun h e => by
    obtain ⟨a, b⟩ := f.set h.1 e
    exact ⟨⟨a, b _ _ h.2⟩, hide_same b⟩
theorem fr_part (U : Wo) (F tf ln : Addr) : Fr (U.part F fun o => ∃ m : Int, o = .dK (frameK tf ln m)) F tf ln where
  get := fun h => by
    obtain ⟨o, ho, m, rfl⟩ := h.2
    exact ⟨m, U.le _ _ _ ho⟩
  set := by
    intro n H H1 m h e
    obtain ⟨o, ho, m0, rfl⟩ := h.2
    obtain ⟨x, y, z⟩ := U.own h.1 ho e
    exact ⟨⟨x, _, y, m, rfl⟩, fun a u q => hide_at (z a u (hide_of q).1 (hide_of q).2) (hide_of q).1⟩
section
variable {K : PySem.W.Frag} {U : Wo} {W : Wd} {M : Hp} {σ : L2.St} {n k k1 k2 m : Nat} {te ta tb : TE} {t : TA} {R S : PyData → Prop} {F tf ln : Addr} {i j : Nat}
theorem fr_fields (f : Fr U F tf ln) (h : σ[i]? = some (some (.ref F))) {d : PyData} (hd : Dd K M (.ref tf) d) : E1 K U M (tDGet (tVar i) (tC (.str "fields"))) σ d := fun n H a Q q => by
  obtain ⟨m, hF⟩ := f.get a.ok
  refine ⟨_, h, F, .ref tf, rfl, ?_, q _ H a.ok (Same.refl _) (hd.same a.up)⟩
  have g := DGet.k (k := (Sum.inr "fields" : Key)) hF
  exact g
theorem fr_numbers (f : Fr U F tf ln) (h : σ[i]? = some (some (.ref F))) {d : PyData} (hd : Dd K M (.ref ln) d) : E1 K U M (tDGet (tVar i) (tC (.str "numbers"))) σ d := fun n H a Q q => by
  obtain ⟨m, hF⟩ := f.get a.ok
  refine ⟨_, h, F, .ref ln, rfl, ?_, q _ H a.ok (Same.refl _) (hd.same a.up)⟩
  have g := DGet.k (k := (Sum.inr "numbers" : Key)) hF
  exact g
theorem fr_marks (f : Fr U F tf ln) (h : σ[i]? = some (some (.ref F))) : E3 K U M 0 (tDGet (tVar i) (tC (.str "marks"))) σ (fun d => ∃ m : Int, d = .int m) := fun n H a _ Q q => by
  obtain ⟨m, hF⟩ := f.get a.ok
  refine ⟨_, h, F, .int m, rfl, ?_, q _ _ H ⟨m, rfl⟩ a.ok (Same.refl _) (.int m)⟩
  have g := DGet.k (k := (Sum.inr "marks" : Key)) hF
  exact g
theorem s3_marks {D : Ends} {H : Hp} (a : At U n M H) (hn : n + k ≤ most) (f : Fr U F tf ln) (hi : σ[i]? = some (some (.ref F))) (h : E3 K U M k te σ (fun d => ∃ m : Int, d = .int m)) (q : ∀ H', At U (n + k) M H' → Same (U.view H) (U.view H') → D.nx σ H') : sDPut (tVar i) (tC (.str "marks")) te D σ H :=
  h n H a hn _ fun v d H1 r ok1 s1 d1 => by
    obtain ⟨m, rfl⟩ := r
    cases d1
    obtain ⟨m0, hF⟩ := f.get ok1
    refine ⟨_, hi, F, _, rfl, DPut.k (k := (Sum.inr "marks" : Key)) hF (by show 3 < sizeLine; decide), ?_⟩
    obtain ⟨ok2, s2⟩ := f.set (m := m) ok1 rfl
    exact q _ ⟨ok2, a.up.trans (s1.trans s2)⟩ (s1.trans s2)
/-! tuples put together -/
theorem r1_catA {xs ys : List PyData} (z : xs.length + ys.length ≤ 100000) : R1 K U (rCatA K) (.tuple xs) (.tuple ys) (.tuple (xs ++ ys)) := fun n H x y ok h1 h2 Q q => by
  cases h1 with
  | tup f1 a1 =>
    cases h2 with
    | tup f2 a2 =>
      refine ⟨_, _, _, _, rfl, rfl, seqT (U.le _) f1, seqT (U.le _) f2, thousand (by rw [a1.len, a2.len]; exact z), fun e => ?_, fun _ e => ?_, fun _ _ p np => ?_⟩
      · subst e
        cases a1
        exact q _ H ok (Same.refl _) (.tup f2 a2)
      · subst e
        cases a2
        rw [List.append_nil] at q
        exact q _ H ok (Same.refl _) (.tup f1 a1)
      · obtain ⟨ok2, s2, f2, _⟩ := U.new (o := .tup _) ok np rfl
        exact q _ _ ok2 s2 (.tup (.inl (.inl f2)) ((a1.app a2).same s2))
/-! two that draw, one behind the other -/
theorem e3_op {r : R2} {f : PyData → PyData → PyData} (ha : E3 K U M k1 ta σ R) (hb : E3 K U M k2 tb σ S) (hr : ∀ d e, R d → S e → R1 K U r d e (f d e)) : E3 K U M (k1 + k2) (tOp r ta tb) σ (fun x => ∃ d e, R d ∧ S e ∧ x = f d e) := fun n H a hn Q q =>
  ha n H a (by omega) _ fun x d H1 r1 ok1 s1 d1 => hb (n + k1) H1 ⟨ok1, a.up.trans s1⟩ (by omega) _ fun y e H2 r2 ok2 s2 e2 => hr d e r1 r2 _ H2 x y ok2 (d1.same s2) e2 Q fun v H3 ok3 s3 e3 => q v _ H3 ⟨d, e, r1, r2, rfl⟩ (by rw [← Nat.add_assoc]; exact ok3) ((s1.trans s2).trans s3) e3
theorem e3_tup (h : A3 K U M k t σ (Each m R)) (z : m ≤ 100000) : E3 K U M k (tTup t) σ (fun d => ∃ ds, d = .tuple ds ∧ Each m R ds) := fun n H a hn Q q =>
  h n H a hn _ fun vs ds H1 r ok1 s1 d1 => ⟨thousand (by rw [d1.len, r.1]; exact z), fun p np => by
    obtain ⟨ok2, s2, f2, _⟩ := U.new (o := .tup vs) ok1 np rfl
    exact q _ _ _ ⟨ds, rfl, r⟩ ok2 (s1.trans s2) (.tup (.inl (.inl f2)) (d1.same s2))⟩
theorem a3_cons1' {k2 m : Nat} {d : PyData} (h : E1 K U M te σ d) (r : R d) (hs : A3 K U M k2 t σ (Each m R)) : A3 K U M k2 (tCons te t) σ (Each (m + 1) R) := fun n H a hn Q q => by
  refine a3_cons (k1 := 0) (h.e3 r) hs n H a (by omega) Q ?_
  rw [Nat.zero_add]
  exact q
/-- int(a == b) -/
theorem e3_int1 (h : E3 K U M k te σ (fun d => ∃ b, d = .bool b)) : E3 K U M k (tCB (fun xs H Q => (∃ i, xs = [.int i] ∧ Q (.int i) H) ∨ ∃ k, xs = [.bl k] ∧ Q (.int (if k then 1 else 0)) H) (tCons te tNil)) σ (fun d => d = .int 0 ∨ d = .int 1) := fun n H a hn Q q => h n H a hn _ fun v d H1 r ok1 s1 d1 => by
  obtain ⟨b, rfl⟩ := r
  cases d1
  refine .inr ⟨b, rfl, ?_⟩
  cases b with
  | true => exact q _ _ H1 (.inr rfl) ok1 s1 (.int 1)
  | false => exact q _ _ H1 (.inl rfl) ok1 s1 (.int 0)
end
/-! what a drawn tree weighs -/
mutual
def fineB : PyData → Bool
  | .str x => decide (x.length ≤ 100000) && PyData.strOk x
  | .tuple xs => fineBs xs
  | .none => true
  | .bool _ => true
  | .int _ => true
  | .list _ => true
  | .dict _ => true
def fineBs : List PyData → Bool
  | [] => true
  | x :: xs => fineB x && fineBs xs
end
def okt (k m : Nat) (d : PyData) : Bool := d.showable && (d.leavesShort 64 && (decide (d.depth ≤ k) && (decide (d.weight ≤ m) && fineB d)))
theorem okt_iff {k m : Nat} {d : PyData} : okt k m d = true ↔ d.showable = true ∧ d.leavesShort 64 = true ∧ d.depth ≤ k ∧ d.weight ≤ m ∧ fineB d = true := by simp [okt]
theorem okt_more {k m k' m' : Nat} {d : PyData} (h : okt k m d = true) (hk : k ≤ k') (hm : m ≤ m') : okt k' m' d = true := by
  rw [okt_iff] at h ⊢
  exact ⟨h.1, h.2.1, Nat.le_trans h.2.2.1 hk, Nat.le_trans h.2.2.2.1 hm, h.2.2.2.2⟩
theorem okt_fit {k m : Nat} {d : PyData} (h : okt k m d = true) (hk : k ≤ 60) (hm : m ≤ 220000) : Fit d := by
  rw [okt_iff] at h
  refine ⟨h.1, Nat.le_trans h.2.2.1 hk, ?_⟩
  have a := PyData.shown_le 64 (by decide) d h.2.1
  have b : (15000000 : Nat) ≤ sizeLine := by decide
  omega
/-- what a list of them is -/
def oks (k m : Nat) (ds : List PyData) : Prop := PyData.showableAll ds = true ∧ PyData.leavesShortAll 64 ds = true ∧ PyData.depthAll ds ≤ k ∧ PyData.weightAll ds ≤ m ∧ fineBs ds = true
theorem oks_tup {k m : Nat} {ds : List PyData} (h : oks k m ds) : okt (k + 1) m (.tuple ds) = true := by
  rw [okt_iff]
  simp only [PyData.showable, PyData.leavesShort, PyData.depth, PyData.weight, fineB]
  exact ⟨h.1, h.2.1, Nat.add_le_add_right h.2.2.1 1, h.2.2.2.1, h.2.2.2.2⟩
theorem oks_lst {k m : Nat} {ds : List PyData} (h : oks k m ds) : okt (k + 1) m (.list ds) = true := by
  rw [okt_iff]
  simp only [PyData.showable, PyData.leavesShort, PyData.depth, PyData.weight, fineB]
  exact ⟨h.1, h.2.1, Nat.add_le_add_right h.2.2.1 1, h.2.2.2.1, trivial⟩
theorem tup_oks {k m : Nat} {ds : List PyData} (h : okt k m (.tuple ds) = true) : 1 ≤ k ∧ oks (k - 1) m ds := by
  rw [okt_iff] at h
  simp only [PyData.showable, PyData.leavesShort, PyData.depth, PyData.weight, fineB] at h
  obtain ⟨a, b, c, d, e⟩ := h
  exact ⟨by omega, a, b, by omega, d, e⟩
theorem oks_nil {k m : Nat} : oks k m [] := ⟨rfl, rfl, Nat.zero_le _, Nat.zero_le _, rfl⟩
theorem oks_cons {k m1 m2 m : Nat} {d : PyData} {ds : List PyData} (h : okt k m1 d = true) (hs : oks k m2 ds) (l : m1 + 1 + m2 ≤ m) : oks k m (d :: ds) := by
  rw [okt_iff] at h
  obtain ⟨a1, a2, a3, a4, a5⟩ := h
  obtain ⟨b1, b2, b3, b4, b5⟩ := hs
  refine ⟨by simp [PyData.showableAll, a1, b1], by simp [PyData.leavesShortAll, a2, b2], by simp only [PyData.depthAll]; omega, by simp only [PyData.weightAll]; omega, by simp [fineBs, a5, b5]⟩
theorem cons_oks {k m : Nat} {d : PyData} {ds : List PyData} (h : oks k m (d :: ds)) : okt k (PyData.weight d) d = true ∧ oks k (PyData.weightAll ds) ds ∧ PyData.weight d + 1 + PyData.weightAll ds ≤ m := by
  obtain ⟨b1, b2, b3, b4, b5⟩ := h
  simp only [PyData.showableAll, Bool.and_eq_true] at b1
  simp only [PyData.leavesShortAll, Bool.and_eq_true] at b2
  simp only [PyData.depthAll] at b3
  simp only [PyData.weightAll] at b4
  simp only [fineBs, Bool.and_eq_true] at b5
  exact ⟨okt_iff.mpr ⟨b1.1, b2.1, by omega, Nat.le_refl _, b5.1⟩, ⟨b1.2, b2.2, by omega, Nat.le_refl _, b5.2⟩, b4⟩
theorem oks_more {k m k' m' : Nat} {ds : List PyData} (h : oks k m ds) (hk : k ≤ k') (hm : m ≤ m') : oks k' m' ds := ⟨h.1, h.2.1, Nat.le_trans h.2.2.1 hk, Nat.le_trans h.2.2.2.1 hm, h.2.2.2.2⟩
theorem oks_app {k m1 m2 : Nat} : ∀ {xs ys : List PyData}, oks k m1 xs → oks k m2 ys → oks k (m1 + m2) (xs ++ ys)
  | [], ys, _, h => oks_more h (Nat.le_refl _) (by omega)
  | x :: xs, ys, h, h2 => by
    obtain ⟨a, b, c⟩ := cons_oks h
    exact oks_cons a (oks_app b h2) (by omega)
theorem app_oks {k m : Nat} : ∀ {xs ys : List PyData}, oks k m (xs ++ ys) → oks k (PyData.weightAll xs) xs ∧ oks k (PyData.weightAll ys) ys ∧ PyData.weightAll xs + PyData.weightAll ys ≤ m
  | [], ys, h => ⟨oks_nil, oks_more ⟨h.1, h.2.1, h.2.2.1, Nat.le_refl _, h.2.2.2.2⟩ (Nat.le_refl _) (Nat.le_refl _), by simpa [PyData.weightAll] using h.2.2.2.1⟩
  | x :: xs, ys, h => by
    obtain ⟨a, b, c⟩ := cons_oks h
    obtain ⟨d, e, f⟩ := app_oks b
    have w : PyData.weightAll (x :: xs) = PyData.weight x + 1 + PyData.weightAll xs := by simp only [PyData.weightAll]
    exact ⟨oks_cons a d (by omega), e, by omega⟩
theorem oks_each {k m : Nat} : ∀ {ds : List PyData}, (∀ d ∈ ds, okt k m d = true) → oks k (ds.length * (m + 1)) ds
  | [], _ => oks_nil
  | d :: ds, h => by
    refine oks_cons (h d (List.mem_cons_self ..)) (oks_each fun e he => h e (List.mem_cons_of_mem _ he)) ?_
    rw [List.length_cons, Nat.add_mul]
    omega
theorem okt_int {i : Int} (h : i.natAbs ≤ 10 ^ 12) : okt 0 41 (.int i) = true := by
  have h3 : i.natAbs.log2 < 40 ∨ i.natAbs = 0 := by
    by_cases z : i.natAbs = 0
    · exact .inr z
    · exact .inl ((Nat.log2_lt z).mpr (Nat.lt_of_le_of_lt h (by decide)))
  have h4 : i.natAbs.log2 < 40 := by
    rcases h3 with z | z
    · exact z
    · rw [z]
      decide
  rw [okt_iff]
  refine ⟨?_, ?_, Nat.le_refl _, ?_, rfl⟩
  · simp only [PyData.showable, decide_eq_true_eq]
    omega
  · have e := int_text_length_le10 (a := i) (k := 13) (by decide) (Nat.lt_of_le_of_lt h (by decide))
    simp only [PyData.leavesShort, decide_eq_true_eq]
    show (Str.ofString (toString i)).length ≤ 64
    rw [PySem.ofString_length]
    omega
  · simp only [PyData.weight]
    split <;> omega
section
variable {K : PySem.W.Frag} {U : Wo} {W : Wd} {M : Hp} {σ : L2.St} {n k k1 k2 m : Nat} {te ta tb : TE} {t : TA} {R S : PyData → Prop}
/-- [e for x in xs], e draws -/
theorem e3_lcC {C : Wo → Prop} (cU : C U) (cH : ∀ (U : Wo) D o, C U → C (U.hide D o)) {wi : TI} {j k0 m : Nat} {vs : List Nat} {P : List PyData → Prop} (h : I3 K U M k0 wi σ P) (z : ∀ ds, P ds → ds.length ≤ m) (z1 : m ≤ 100000) (hw : ∀ x, wipe ((wipe σ vs).set j (some x)) vs = wipe σ vs)
    (he : ∀ (U' : Wo) M' v, C U' → Same M M' → E3 K U' M' k te ((wipe σ vs).set j (some v)) R) :
    E3 K U M (k0 + m * k) (tLc wi (gName j) tYes te vs) σ (fun d => ∃ ds es, P ds ∧ d = .list es ∧ es.length = ds.length ∧ ∀ e ∈ es, R e) := fun n H a hn Q q => h n H a (by omega) _ fun J ds H1 p ok1 s1 w => by
  intro D nD
  have hm : ds.length ≤ m := z ds p
  have a1 : Same M (U.view H1) := a.up.trans s1
  have nD0 : U.view H1 D = none := by
    cases e : U.view H1 D with
    | none => rfl
    | some x =>
      rw [U.le _ _ _ e] at nD
      cases nD
  have off : Same (U.view H1) (hideV D (U.view H1)) := fun b x e => hide_at e (fun q => by
    rw [q, nD0] at e
    cases e)
  refine lc_it w (fun i H' => U.ok (n + k0 + i * k) H' ∧ Same (U.view H1) (hideV D (U.view H')) ∧ ∃ acc es, U.view H' D = some (.lst acc) ∧ DdAll K (hideV D (U.view H')) acc es ∧ es.length = i ∧ ∀ e ∈ es, R e) ?_ (fun i H' _ z => z.2.1.trans (hide_le _ _)) ?_ ?_
  · obtain ⟨ok2, s2, f2, _⟩ := U.new (o := .lst []) ok1 nD rfl
    exact ⟨by rw [Nat.zero_mul]; exact ok2, off.trans (hide_same s2), [], [], f2, .nil, rfl, fun _ h => nomatch h⟩
  · rintro i x H2 H3 hi ⟨ok2, s2, acc, es, f2, da, el, er⟩ ⟨rfl, d, hd, dx⟩
    have hik : i * k + k ≤ m * k := by
      have := Nat.mul_le_mul_right k (show i + 1 ≤ m by omega)
      rwa [Nat.add_mul, Nat.one_mul] at this
    refine ⟨hw x, ?_⟩
    refine rd_yes (L2.iteT ?_)
    refine he (U.hide D (.lst acc)) (U.view H1) x (cH _ D _ cU) a1 _ H3 ⟨⟨ok2, f2⟩, s2⟩ (by omega) _ fun y e H5 r5 ok5 s5 dy => ?_
    have hl : acc.length ≤ 100000 := by
      rw [da.len, el]
      omega
    refine ⟨acc, U.le _ _ _ ok5.2, Nat.lt_of_le_of_lt hl (by decide), ?_⟩
    obtain ⟨ok6, f6, o6⟩ := U.own (o := .lst (acc ++ [y])) ok5.1 ok5.2 rfl
    have k6 : Same (hideV D (U.view H5)) (hideV D (U.view (upd H5 D (.lst (acc ++ [y]))))) := fun b u e => hide_at (o6 b u (hide_of e).1 (hide_of e).2) (hide_of e).1
    refine ⟨?_, (s2.trans s5).trans k6, _, es ++ [e], f6, (da.same (s5.trans k6)).app (.cons (dy.same k6) .nil), ?_, ?_⟩
    · rw [Nat.add_mul, Nat.one_mul, ← Nat.add_assoc]
      exact ok6
    · rw [List.length_append, el] <;> rfl
    · intro e' he'
      rcases List.mem_append.mp he' with h1 | h1
      · exact er e' h1
      · rw [List.mem_singleton.mp h1]
        exact r5
  · rintro H2 ⟨ok2, s2, acc, es, f2, da, el, er⟩
    have hik := Nat.mul_le_mul_right k hm
    exact q _ _ _ ⟨ds, es, p, rfl, el, er⟩ (U.mono ok2 (by omega)) (s1.trans (s2.trans (hide_le _ _))) (.lst f2 (da.same (hide_le _ _)))
theorem a3_oks {kd m1 m2 k2 : Nat} (h : E3 K U M k1 te σ (fun d => okt kd m1 d = true)) (hs : A3 K U M k2 t σ (oks kd m2)) : A3 K U M (k1 + k2) (tCons te t) σ (oks kd (m1 + 1 + m2)) := fun n H a hn Q q =>
  h n H a (by omega) _ fun v d H1 r1 ok1 s1 d1 => hs (n + k1) H1 ⟨ok1, a.up.trans s1⟩ (by omega) _ fun vs ds H2 r2 ok2 s2 d2 => q _ (d :: ds) H2
    (oks_cons r1 r2 (Nat.le_refl _)) (by rw [← Nat.add_assoc]; exact ok2) (s1.trans s2) (.cons (d1.same s2) d2)
theorem a3_oks1 {kd m1 m2 k2 : Nat} {d : PyData} (h : E1 K U M te σ d) (r : okt kd m1 d = true) (hs : A3 K U M k2 t σ (oks kd m2)) : A3 K U M k2 (tCons te t) σ (oks kd (m1 + 1 + m2)) := fun n H a hn Q q => by
  refine a3_oks (k1 := 0) (h.e3 r) hs n H a (by omega) Q ?_
  rw [Nat.zero_add]
  exact q
theorem a3_oks0 {kd : Nat} : A3 K U M 0 tNil σ (oks kd 0) := fun n H a _ Q q => q [] [] H oks_nil a.ok (Same.refl _) .nil
theorem len_weight : ∀ ds : List PyData, ds.length ≤ PyData.weightAll ds
  | [] => Nat.zero_le _
  | d :: ds => by
    have := len_weight ds
    simp only [PyData.weightAll, List.length_cons]
    omega
theorem e3_tupO {kd m : Nat} (h : A3 K U M k t σ (oks kd m)) (z : m ≤ 100000) : E3 K U M k (tTup t) σ (fun d => okt (kd + 1) m d = true) := fun n H a hn Q q =>
  h n H a hn _ fun vs ds H1 r ok1 s1 d1 => ⟨thousand (by
    have := len_weight ds
    have := r.2.2.2.1
    rw [d1.len]
    omega), fun p np => by
    obtain ⟨ok2, s2, f2, _⟩ := U.new (o := .tup vs) ok1 np rfl
    exact q _ _ _ (oks_tup r) ok2 (s1.trans s2) (.tup (.inl (.inl f2)) (d1.same s2))⟩
end
end Mw
namespace Mw
open PySem PySem.Spec PyProof.Rows L2
mutual
theorem fine_of : ∀ d : PyData, fineB d = true → d.weight ≤ 99999 → fineD d = true
  | .tuple xs, h, l => by
    simp only [fineB] at h
    simp only [PyData.weight] at l
    have a := len_weight xs
    simp only [fineD, Bool.and_eq_true, decide_eq_true_eq]
    exact ⟨by omega, fine_ofs xs h l⟩
  | .str x, h, _ => by
    simp only [fineB] at h
    simp only [fineD]
    exact h
  | .none, _, _ => rfl
  | .bool _, _, _ => rfl
  | .int _, _, _ => rfl
  | .list _, _, _ => rfl
  | .dict _, _, _ => rfl
theorem fine_ofs : ∀ xs : List PyData, fineBs xs = true → PyData.weightAll xs ≤ 99999 → fineAll xs = true
  | [], _, _ => rfl
  | x :: xs, h, l => by
    simp only [fineBs, Bool.and_eq_true] at h
    simp only [PyData.weightAll] at l
    simp only [fineAll, Bool.and_eq_true]
    exact ⟨fine_of x h.1 (by omega), fine_ofs xs h.2 (by omega)⟩
end
def frameS : List Str := ["a", "at", "ab", "b", "dst", "note", "marks", "zz", "zzzzzz", "zzzzzy", "drops", "passes"]
structure FrOk (xs : List Str) (ns : List Int) : Prop where
  x1 : 1 ≤ xs.length
  x3 : xs.length ≤ 3
  xm : ∀ x ∈ xs, x ∈ frameS
  n1 : ns ≠ []
  n6 : ns.length ≤ 6
  nm : ∀ n ∈ ns, n.natAbs ≤ 10 ^ 12
theorem frame_ok {x : Str} (h : x ∈ frameS) : okt 0 6 (.str x) = true := by
  have a : frameS.all (fun x => okt 0 6 (.str x)) = true := by decide +kernel
  exact List.all_eq_true.mp a x h
/-- a def of the state and the frame, that draws -/
def spG (K : PySem.W.Frag) (m k : Nat) (pre : List PyData → Prop) (R : PyData → Prop) : Sp := fun vs H Q _ => ∃ (U : Wo) (W : Wd) (F tf ln : Addr) (xs : List Str) (ns : List Int) (n : Nat) (ws : List V) (ds : List PyData),
  Of U W ∧ Fr U F tf ln ∧ Dd K (U.view H) (.ref tf) (.tuple (xs.map .str)) ∧ Dd K (U.view H) (.ref ln) (.list (ns.map .int)) ∧ FrOk xs ns ∧ vs = .ref W.d :: .ref F :: ws ∧ U.ok n H ∧ n + k ≤ most ∧ DdAll K (U.view H) ws ds ∧ ds.length = m ∧ pre ds ∧
  ∀ v d H', R d → U.ok (n + k) H' → Same (U.view H) (U.view H') → Dd K (U.view H') v d → Q v H'
section
variable {K : PySem.W.Frag} {U : Wo} {W : Wd} {M : Hp} {σ : L2.St} {n k m : Nat} {te ta tb : TE} {t : TA} {R : PyData → Prop} {i j : Nat} {F tf ln : Addr} {xs : List Str} {ns : List Int}
theorem spG_len {pre : List PyData → Prop} {vs : List V} {H : Hp} {Q : VK} {E : XK} (h : spG K m k pre R vs H Q E) : vs.length = m + 2 := by
  obtain ⟨U, W, F, tf, ln, xs, ns, n, ws, ds, _, _, _, _, _, rfl, _, _, hd, e, _⟩ := h
  rw [List.length_cons, List.length_cons, hd.len, e]
theorem e3_gog {pre : List PyData → Prop} {ds : List PyData} (o : Of U W) (f : Fr U F tf ln) (h1 : Dd K M (.ref tf) (.tuple (xs.map .str))) (h2 : Dd K M (.ref ln) (.list (ns.map .int))) (fo : FrOk xs ns) (hv : σ[i]? = some (some (.ref W.d))) (hF : σ[j]? = some (some (.ref F))) (h : A1 K U M t σ ds) (hm : ds.length = m) (hp : pre ds) :
    E3 K U M k (tGo (spG K m k pre R) (tCons (tVar i) (tCons (tVar j) t))) σ R := fun n H a hn Q q =>
  ⟨_, hv, _, hF, h n H a _ fun vs H1 ok1 s1 d1 => ⟨U, W, F, tf, ln, xs, ns, n, vs, ds, o, f, (h1.same a.up).same s1, (h2.same a.up).same s1, fo, rfl, ok1, hn, d1, hm, hp, fun v d H2 r ok2 s2 d2 => q v d H2 r ok2 (s1.trans s2) d2⟩⟩
theorem e3_pickF (o : Of U W) (f : Fr U F tf ln) (h1 : Dd K M (.ref tf) (.tuple (xs.map .str))) (fo : FrOk xs ns) (hv : σ[i]? = some (some (.ref W.d))) (hF : σ[j]? = some (some (.ref F))) :
    E3 K U M 1 (tGo (spPick K) (tCons (tVar i) (tCons (tDGet (tVar j) (tC (.str "fields"))) tNil))) σ (fun d => okt 0 6 d = true) := by
  refine e3_pick (k := 0) o hv (E1.e3 (fr_fields f hF h1) ⟨_, .inr rfl, fun z => ?_, by rw [List.length_map]; have := fo.x3; omega, fun e he => ?_⟩)
  · have := fo.x1
    rw [List.map_eq_nil_iff.mp z] at this
    exact absurd this (by decide)
  · obtain ⟨x, hx, rfl⟩ := List.mem_map.mp he
    exact frame_ok (fo.xm x hx)
theorem e3_pickN (o : Of U W) (f : Fr U F tf ln) (h2 : Dd K M (.ref ln) (.list (ns.map .int))) (fo : FrOk xs ns) (hv : σ[i]? = some (some (.ref W.d))) (hF : σ[j]? = some (some (.ref F))) :
    E3 K U M 1 (tGo (spPick K) (tCons (tVar i) (tCons (tDGet (tVar j) (tC (.str "numbers"))) tNil))) σ (fun d => okt 0 41 d = true) := by
  refine e3_pick (k := 0) o hv (E1.e3 (fr_numbers f hF h2) ⟨_, .inl rfl, fun z => ?_, by rw [List.length_map]; have := fo.n6; omega, fun e he => ?_⟩)
  · exact fo.n1 (List.map_eq_nil_iff.mp z)
  · obtain ⟨x, hx, rfl⟩ := List.mem_map.mp he
    exact okt_int (fo.nm x hx)
end
def wT : Nat → Nat
  | 0 => 53
  | n + 1 => 3 * (wT n + 1) + 7
def kT : Nat → Nat
  | 0 => 3
  | n + 1 => 3 + 3 * kT n
theorem wT_53 : ∀ n, 53 ≤ wT n
  | 0 => Nat.le_refl _
  | n + 1 => by
    have := wT_53 n
    show 53 ≤ 3 * (wT n + 1) + 7
    omega
theorem kT_3 : ∀ n, 3 ≤ kT n
  | 0 => Nat.le_refl _
  | n + 1 => by
    show 3 ≤ 3 + 3 * kT n
    omega
abbrev spTest (K : PySem.W.Frag) (n : Nat) : Sp := spG K 1 (kT n) (fun ds => ds = [.int n]) (fun d => okt (n + 1) (wT n) d = true)
def spPrevT (K : PySem.W.Frag) : Nat → Sp
  | 0 => fun _ _ _ _ => False
  | n + 1 => spTest K n
section
variable {P : Program} {w : World} {K : PySem.W.Frag} {mg : Str → Option Value} {base : Heap}
theorem ok_test {f : Addr} {fd : FuncData} (n : Nat) (wn : wT n ≤ 90000) (F : Fun K "_law_test" "_law_test" s__law_test f fd) (T : Blt mg) (G__law_take : Def P w K mg base "_law_take" 2 ["state", "size"] spTake) (G__law_pick : Def P w K mg base "_law_pick" 3 ["state", "some"] (spPick K))
    (G__law_test : Def P w K mg base "_law_test" (n + 3) ["state", "frame", "deep"] (spPrevT K n)) : FnG P w K mg base (n + 4) f fd ["state", "frame", "deep"] (spTest K n) := by
  refine fnG F sc__law_test (fun vs H Q E h => spG_len h) (fun cdv A outer s H vs Q E hr h => ?_)
  obtain ⟨U, W, Fa, tf, ln, xs, ns, c, ws, ds, o, fr, h1, h2, fo, rfl, ok, hc, hd, hl, rfl, q⟩ := h
  obtain ⟨u, rfl, hu⟩ := dd1 hd
  have hu1 := hu_of hr.r
  have hrm : Rm (n + 3) _ := hr
  have a : At U c (U.view H) H := At.here ok
  refine ⟨_, pss_cons (ps_set (i := 3) sc__law_test.nd rfl (.inl rfl) (pe_go G__law_take hrm (pa_cons (pv 0) (pa_cons pe_int pa_nil)) (hj := by omega)))
        (pss_cons (ps_if (pt_cmpR op_eq (pv 3) pe_int (nomark _))
        (pss_one (ps_ret (pe_go G__law_pick hrm (pa_cons (pv 0) (pa_cons (pe_lst (pa_cons (pe_tup (pa_cons pe_str pa_nil)) (pa_cons (pe_tup (pa_cons pe_str pa_nil)) pa_nil))) pa_nil)) (hj := by omega))))
        pss_nil)
        (pss_cons (ps_if (PW.pt (pw_or (pt_cmpR op_eq (pv 2) pe_int (nomark _)) (pw_or1 (pt_cmpR op_lt (pv 3) pe_int (nomark _)))))
        (pss_one (ps_ret (pe_tup (pa_cons pe_str (pa_cons (pe_go G__law_pick hrm (pa_cons (pv 0) (pa_cons (pe_dget hu1 (pv 1) pe_str (fun _ _ => rfl)) pa_nil)) (hj := by omega)) (pa_cons (pe_go G__law_pick hrm (pa_cons (pv 0) (pa_cons (pe_dget hu1 (pv 1) pe_str (fun _ _ => rfl)) pa_nil)) (hj := by omega)) pa_nil))))))
        pss_nil)
        (pss_cons (ps_if (PW.pt (pw_or (pt_cmpR op_eq (pv 3) pe_int (nomark _)) (pw_or1 (pt_cmpR op_eq (pv 3) pe_int (nomark _)))))
        (pss_one (ps_ret (pe_tup (pa_cons pe_str (pa_cons (pe_go G__law_test hrm (pa_cons (pv 0) (pa_cons (pv 1) (pa_cons (pe_op op_sub (pv 2) pe_int) pa_nil))) (hj := by omega)) pa_nil)))))
        pss_nil)
        (pss_cons (ps_set (i := 4) sc__law_test.nd rfl (.inl rfl) (pe_op op_add pe_int (pe_callTy call_int1 (by rfl) T.int (by decide +kernel) (pa_cons (pe_cmpR op_eq (pe_go G__law_take hrm (pa_cons (pv 0) (pa_cons pe_int pa_nil)) (hj := by omega)) pe_int (nomark _)) pa_nil))))
        (pss_cons (ps_setLc (i := 5) (own := [("turn", 6)]) (g := gName 6) (tt := tYes) rfl sc__law_test.nd rfl rfl (sw_true rfl rfl rfl (by decide +kernel)) (pi_range1 (by rfl) T.range (pa_cons (pv 4) pa_nil)) (blkOk_by (N := ["state", "frame", "deep", "sort", "many", "portions", "turn"]) (sc := defScope s__law_test) (by decide +kernel)) (fun _ _ _ _ _ => (pg_name (i := 6) sc__law_test.nd rfl (.inl rfl))) (fun _ _ _ _ _ => pts_nil) (fun _ _ _ _ _ => (pe_go G__law_test hrm (pa_cons (pv 0) (pa_cons (pv 1) (pa_cons (pe_op op_sub (pv 2) pe_int) pa_nil))) (hj := by omega))))
        (pss_one (ps_ret (pe_op op_catA (pe_tup (pa_cons (pe_go G__law_pick hrm (pa_cons (pv 0) (pa_cons (pe_lst (pa_cons pe_str (pa_cons pe_str pa_nil))) pa_nil)) (hj := by omega)) pa_nil)) (pe_callTy call_tuple_of (by rfl) T.tuple (by decide +kernel) (pa_cons (pv 5) pa_nil)))))))))), ?_⟩
  have w53 := wT_53 n
  have k3 := kT_3 n
  refine s3_asg (K := K) (k := 1) a (by omega) (e3_take (z := 12) o rfl e1_int (by decide) (by decide)) fun v3 d3 H1 r1 a1 s1 d1 => ?_
  obtain ⟨z, rfl, z0, z1⟩ := r1
  cases d1
  refine s1_if (b := decide (z = 0)) a1 (t1_test (e1_op (K := K) (d1 := .int z) (e1_var rfl (.int _)) e1_int r1_eqI)) (fun _ H2 a2 s2 => ?_) (fun _ H2 a2 s2 => ?_)
  · refine s3_ret (K := K) (k := 1) (R := fun d => okt (n + 1) (wT n) d = true) a2 (by omega) (e3_pick (k := 0) o rfl (E1.e3 (d := .list [.tuple [.str "pass"], .tuple [.str "drop"]]) (e1_lst (a1_cons (e1_tup (a1_cons e1_str a1_nil) (by decide)) (a1_cons (e1_tup (a1_cons e1_str a1_nil) (by decide)) a1_nil)) (by decide)) ⟨_, .inl rfl, List.cons_ne_nil _ _, (show 2 ≤ 100000 by decide), fun e he => ?_⟩)) fun v d H3 r ok3 s3 d3 => q v d H3 r (U.mono ok3 (by omega)) ((s1.trans s2).trans s3) d3
    rcases List.mem_cons.mp he with rfl | he
    · exact okt_more (k := 1) (m := 5) (by decide +kernel) (by omega) (by omega)
    · rw [List.mem_singleton.mp he]
      exact okt_more (k := 1) (m := 5) (by decide +kernel) (by omega) (by omega)
  have g1 : Dd K (U.view H1) (.ref tf) (.tuple (xs.map .str)) := h1.same s1
  have g2 : Dd K (U.view H1) (.ref ln) (.list (ns.map .int)) := h2.same s1
  have leaf : ∀ {te : TE} {σ : L2.St}, E3 K U (U.view H1) 2 te σ (fun d => okt 1 53 d = true) → E3 K U (U.view H1) 2 te σ (fun d => okt (n + 1) (wT n) d = true) := fun h => E3.weak h fun d r => okt_more r (by omega) (by omega)
  cases n with
  | zero =>
    refine s1_if (b := true) a2 (t1_or (a := true) (t1_test (E1.is (e1_op (e1_var rfl (hu.same s1)) e1_int r1_eqI) rfl)) (b := true) fun z => Bool.noConfusion z) (fun _ H3 a3 s3 => ?_) (fun z => Bool.noConfusion z)
    refine s3_ret (K := K) (k := 2) (R := fun d => okt 1 53 d = true) a3 (by omega) (E3.weak (e3_tupO (a3_oks1 (m1 := 2) (kd := 0) (e1_str (x := "is")) (by decide +kernel) (a3_oks (k1 := 1) (k2 := 1) (e3_pickF o fr g1 fo rfl rfl) (a3_oks (k1 := 1) (k2 := 0) (e3_pickN o fr g2 fo rfl rfl) a3_oks0))) (by decide)) fun d r => okt_more r (by decide) (by decide)) fun v d H4 r ok4 s4 d4 => q v d H4 r (U.mono ok4 (show c + 1 + 2 ≤ c + 3 by omega)) (((s1.trans s2).trans s3).trans s4) d4
  | succ n =>
    have hk : kT (n + 1) = 3 + 3 * kT n := rfl
    have hw : wT (n + 1) = 3 * (wT n + 1) + 7 := rfl
    have k0 := kT_3 n
    have n0 : decide (((n + 1 : Nat) : Int) = 0) = false := decide_eq_false (by omega)
    have sub1 : (((n + 1 : Nat) : Int) - 1) = (n : Nat) := by omega
    refine s1_if (b := false || decide (z < 7)) a2 (t1_or (t1_test (E1.is (e1_op (e1_var rfl (hu.same s1)) e1_int r1_eqI) (congrArg PyData.bool n0))) fun _ => t1_test (e1_op (K := K) (d1 := .int z) (e1_var rfl (.int _)) e1_int r1_cmp)) (fun _ H3 a3 s3 => ?_) (fun _ H3 a3 s3 => ?_)
    · refine s3_ret (K := K) (k := 2) (R := fun d => okt 1 53 d = true) a3 (by omega) (E3.weak (e3_tupO (a3_oks1 (m1 := 2) (kd := 0) (e1_str (x := "is")) (by decide +kernel) (a3_oks (k1 := 1) (k2 := 1) (e3_pickF o fr g1 fo rfl rfl) (a3_oks (k1 := 1) (k2 := 0) (e3_pickN o fr g2 fo rfl rfl) a3_oks0))) (by decide)) fun d r => okt_more r (by decide) (by decide)) fun v d H4 r ok4 s4 d4 => q v d H4 (okt_more r (by omega) (by omega)) (U.mono ok4 (by omega)) (((s1.trans s2).trans s3).trans s4) d4
    refine s1_if (b := decide (z = 7) || decide (z = 8)) a3 (t1_or (t1_test (e1_op (K := K) (d1 := .int z) (e1_var rfl (.int _)) e1_int r1_eqI)) fun _ => t1_test (e1_op (K := K) (d1 := .int z) (e1_var rfl (.int _)) e1_int r1_eqI)) (fun _ H4 a4 s4 => ?_) (fun _ H4 a4 s4 => ?_)
    · refine s3_ret (K := K) (k := kT n) (R := fun d => okt (n + 1 + 1) (wT (n + 1)) d = true) a4 (by omega) (E3.weak (e3_tupO (k := kT n + 0) (a3_oks1 (m1 := 3) (kd := n + 1) (e1_str (x := "not")) (okt_more (k := 0) (m := 3) (by decide +kernel) (by omega) (by omega)) (a3_oks (k1 := kT n) (k2 := 0) (e3_gog (pre := fun ds => ds = [.int n]) o fr g1 g2 fo rfl rfl (a1_cons (E1.is (e1_op (e1_var rfl (hu.same s1)) e1_int r1_int) (congrArg PyData.int sub1)) a1_nil) rfl rfl) a3_oks0)) (by omega)) fun d r => okt_more r (by omega) (by omega)) fun v d H5 r ok5 s5 d5 => q v d H5 r (U.mono ok5 (by omega)) ((((s1.trans s2).trans s3).trans s4).trans s5) d5
    refine s3_asg (K := K) (k := 1) (R := fun d => ∃ j : Int, d = .int j ∧ 2 ≤ j ∧ j ≤ 3) a4 (by omega) (E3.weak (e3_op2 (f := fun d => match d with | .int i => .int (2 + i) | _ => .none) e1_int (e3_int1 (E3.weak (e3_op1 (f := fun d => match d with | .int i => .bool (decide (i = 0)) | _ => .none) (e3_take (z := 3) o rfl e1_int (by decide) (by decide)) e1_int ?p1) ?p2)) ?p3) ?p4) fun v4 d4 H5 r5 a5 s5 e4 => ?_
    case p1 =>
      rintro d ⟨j, rfl, _⟩
      exact r1_eqI
    case p2 =>
      rintro d ⟨e, ⟨j, rfl, _⟩, rfl⟩
      exact ⟨_, rfl⟩
    case p3 =>
      rintro d (rfl | rfl) <;> exact r1_int
    case p4 =>
      rintro d ⟨e, rfl | rfl, rfl⟩
      · exact ⟨2, rfl, by decide, by decide⟩
      · exact ⟨3, rfl, by decide, by decide⟩
    obtain ⟨j, rfl, j2, j3⟩ := r5
    have t5 := ((s2.trans s3).trans s4).trans s5
    have f1 := g1.same t5
    have f2 := g2.same t5
    have hu5 := (hu.same s1).same t5
    refine s3_asg (K := K) (k := 0 + 3 * kT n) (R := fun d => ∃ es, d = .list es ∧ es.length ≤ 3 ∧ ∀ e ∈ es, okt (n + 1) (wT n) e = true) a5 (by omega) (E3.weak (e3_lcC (C := fun U => Of U W ∧ Fr U Fa tf ln) (m := 3) (k := kT n) (k0 := 0) (R := fun d => okt (n + 1) (wT n) d = true) (P := fun ds => ds.length ≤ 3) ⟨o, fr⟩ (fun U D x c => ⟨c.1.hide D x, c.2.hide D x⟩) (I1.i3 (i1_rng (e1_var rfl e4) (by omega) (by omega)) ?p5) (fun ds p => p) (by decide) (fun _ => rfl) (fun U' M' v c e => e3_gog (pre := fun ds => ds = [.int n]) c.1 c.2 (f1.same e) (f2.same e) fo rfl rfl (a1_cons (E1.is (e1_op (e1_var rfl (hu5.same e)) e1_int r1_int) (congrArg PyData.int sub1)) a1_nil) rfl rfl)) ?p6) fun v5 d5 H6 r6 a6 s6 e5 => ?_
    case p5 =>
      rw [List.length_map, List.length_range]
      omega
    case p6 =>
      rintro d ⟨ds, es, p, e, el, er⟩
      exact ⟨es, e, by rw [el]; exact p, er⟩
    obtain ⟨es, rfl, el, er⟩ := r6
    refine s3_ret (K := K) (k := 1) (R := fun d => okt (n + 1 + 1) (wT (n + 1)) d = true) a6 (by omega) (E3.weak (e3_op1 (f := fun d => match d with | .tuple ws => .tuple (ws ++ es) | _ => .none) (e3_tup (k := 1 + 0) (m := 1) (R := fun d => okt 0 6 d = true) (a3_cons (k1 := 1) (k2 := 0) (e3_pick (k := 0) o rfl (E1.e3 (d := .list [.str "row", .str "choice"]) (e1_lst (a1_cons e1_str (a1_cons e1_str a1_nil)) (by decide)) ⟨_, .inl rfl, List.cons_ne_nil _ _, (show 2 ≤ 100000 by decide), ?p7⟩)) a3_nil) (by decide)) (e1_tuple (e1_var rfl e5) (.inl rfl)) ?p8) ?p9) fun v d H7 r ok7 s7 d7 => q v d H7 r (U.mono ok7 (by omega)) (((s1.trans t5).trans s6).trans s7) d7
    case p7 =>
      intro e he
      rcases List.mem_cons.mp he with rfl | he
      · decide +kernel
      · rw [List.mem_singleton.mp he]
        decide +kernel
    case p8 =>
      rintro d ⟨ds, rfl, l1, hd⟩
      exact r1_catA (by omega)
    case p9 =>
      rintro d ⟨e, ⟨ds, rfl, l1, hd⟩, rfl⟩
      match ds, l1, hd with
      | [y], _, hd =>
        refine oks_tup (oks_cons (okt_more (hd y (by simp)) (by omega) (Nat.le_refl _)) (oks_each er) ?_)
        have := Nat.mul_le_mul_right (wT n + 1) el
        show 6 + 1 + es.length * (wT n + 1) ≤ wT (n + 1)
        omega
end
end Mw
namespace Mw
open PySem PySem.Spec PyProof.Rows L2
section
variable {K : PySem.W.Frag} {U : Wo} {M : Hp} {σ : L2.St} {n k : Nat} {te ta tb : TE} {t : TA} {tt tu : TT} {R : PyData → Prop} {D : Ends} {H : Hp}
theorem a3_two {d : PyData} (h1 : E1 K U M ta σ d) (h2 : E3 K U M k tb σ R) : A3 K U M k (tCons ta (tCons tb tNil)) σ (fun ds => ∃ e, ds = [d, e] ∧ R e) := fun n H a hn Q q =>
  h1 n H a _ fun v H1 ok1 s1 d1 => h2 n H1 (a.step ok1 s1) hn _ fun w e H2 r ok2 s2 d2 => q [v, w] [d, e] H2 ⟨e, rfl, r⟩ ok2 (s1.trans s2) (.cons (d1.same s2) (.cons d2 .nil))
theorem s3_par {i j : Nat} {d : PyData} (a : At U n M H) (hn : n + k ≤ most) (h : A3 K U M k t σ (fun ds => ∃ e, ds = [d, e] ∧ R e)) (q : ∀ v w e H', R e → At U (n + k) (U.view H') H' → Same (U.view H) (U.view H') → Dd K (U.view H') v d → Dd K (U.view H') w e → D.nx ((σ.set i (some v)).set j (some w)) H') : tPar i j t D σ H :=
  h n H a hn _ fun vs ds H1 r ok1 s1 d1 => by
    obtain ⟨e, rfl, r⟩ := r
    obtain ⟨v, w, rfl, h1, h2⟩ := dd2 d1
    exact ⟨v, w, rfl, q v w e H1 r (At.here ok1) s1 h1 h2⟩
theorem t3_and {b : Bool} (h1 : T1 U M tt σ b) (h2 : T3 U M k tu σ) : T3 U M k (tAnd tt tu) σ := fun n H a hn Q q => h1 n H a _ fun H1 ok1 s1 => by
  cases b with
  | true => exact iteT (h2 n H1 (a.step ok1 s1) hn Q fun b H2 ok2 s2 => q b H2 ok2 (s1.trans s2))
  | false => exact iteF (q false H1 (U.mono ok1 (by omega)) s1)
theorem r1_ixL {ds : List PyData} {j : Nat} {d : PyData} (h : ds[j]? = some d) : R1 K U (rIxL K) (.list ds) (.int j) d := fun n H x y ok h1 h2 Q q => by
  cases h2
  cases h1 with
  | lst hq ha =>
    have hl := ha.len
    have hj : j < ds.length := (List.getElem?_eq_some_iff.mp h).1
    rename_i a xs
    have hx : xs[j]? = some (xs[j]'(by omega)) := List.getElem?_eq_getElem (by omega)
    obtain ⟨e, he, de⟩ := ha.at hx
    rw [h] at he
    cases he
    exact ⟨a, xs, _, _, rfl, rfl, .inl (.inl (U.le _ _ _ hq)), atI_nat hx, q _ H ok (Same.refl _) de⟩
end
abbrev spLeaf (K : PySem.W.Frag) : Sp := spG K 0 6 (fun ds => ds = []) (fun d => okt 1 53 d = true)
def wX : Nat → Nat
  | 0 => 517
  | n + 1 => 3 * (wX n + 1) + 7
def kX : Nat → Nat
  | 0 => 50
  | n + 1 => 53 + 3 * kX n
theorem wX_5 : ∀ n, 517 ≤ wX n
  | 0 => Nat.le_refl _
  | n + 1 => by
    have := wX_5 n
    show 517 ≤ 3 * (wX n + 1) + 7
    omega
theorem kX_5 : ∀ n, 50 ≤ kX n
  | 0 => Nat.le_refl _
  | n + 1 => by
    show 50 ≤ 53 + 3 * kX n
    omega
abbrev spTree (K : PySem.W.Frag) (n : Nat) : Sp := spG K 1 (kX n) (fun ds => ds = [.int n]) (fun d => okt (n + 3) (wX n) d = true)
def spPrevX (K : PySem.W.Frag) : Nat → Sp
  | 0 => fun _ _ _ _ => False
  | n + 1 => spTree K n
abbrev spMarked (K : PySem.W.Frag) : Sp := spG K 2 (kX 3) (fun ds => ∃ m : Int, ds = [.int 3, .int m]) (fun d => okt 6 (wX 3) d = true)
section
variable {P : Program} {w : World} {K : PySem.W.Frag} {mg : Str → Option Value} {base : Heap}
theorem ok_leaf {f : Addr} {fd : FuncData} (F : Fun K "_law_leaf" "_law_leaf" s__law_leaf f fd) (T : Blt mg) (G__law_take : Def P w K mg base "_law_take" 2 ["state", "size"] spTake) (G__law_pick : Def P w K mg base "_law_pick" 3 ["state", "some"] (spPick K)) (G__law_shuffled : Def P w K mg base "_law_shuffled" 3 ["state", "some"] (spShuf K))
    (G__law_test : Def P w K mg base "_law_test" 4 ["state", "frame", "deep"] (spTest K 0)) : FnG P w K mg base 5 f fd ["state", "frame"] (spLeaf K) := by
  refine fnG F sc__law_leaf (fun vs H Q E h => spG_len h) (fun cdv A outer s H vs Q E hr h => ?_)
  obtain ⟨U, W, Fa, tf, ln, xs, ns, c, ws, ds, o, fr, h1, h2, fo, rfl, ok, hc, hd, hl, rfl, q⟩ := h
  cases hd
  have hu := hu_of hr.r
  have a : At U c (U.view H) H := At.here ok
  refine ⟨_, pss_cons (ps_par (i := 2) (j := 3) rfl sc__law_leaf.nd rfl rfl (by decide) rfl rfl (pa_cons (pe_dget hu (pv 1) pe_str (fun _ _ => rfl)) (pa_cons (pe_go G__law_take hr (pa_cons (pv 0) (pa_cons pe_int pa_nil))) pa_nil)) (by rfl))
        (pss_cons (ps_if (PW.pt (pw_and (pt_cmpR op_lt (pv 3) pe_int (nomark _)) (pw_and1 (pt_cmpR op_gt (pe_dget hu (pv 1) pe_str (fun _ _ => rfl)) pe_int (nomark _)))))
        (pss_cons (ps_dput hu (pv 1) pe_str (pe_op op_sub (pe_dget hu (pv 1) pe_str (fun _ _ => rfl)) pe_int) rfl)
          (pss_one (ps_ret (pe_tup (pa_cons pe_str pa_nil)))))
        pss_nil)
        (pss_cons (ps_if (pt_cmpR op_lt (pv 3) pe_int (nomark _))
        (pss_one (ps_ret (pe_go G__law_test hr (pa_cons (pv 0) (pa_cons (pv 1) (pa_cons pe_int pa_nil))))))
        pss_nil)
        (pss_cons (ps_if (PW.pt (pw_and (pt_cmpR op_lt (pv 3) pe_int (nomark _)) (pw_and1 (pt_cmpR op_gt (pe_callB call_len (by rfl) T.len (by decide +kernel) (pa_cons (pv 2) pa_nil)) pe_int (nomark _)))))
        (pss_cons (ps_set (i := 2) sc__law_leaf.nd rfl (.inl rfl) (pe_go G__law_shuffled hr (pa_cons (pv 0) (pa_cons (pv 2) pa_nil))))
          (pss_one (ps_ret (pe_tup (pa_cons pe_str (pa_cons (pe_ix ix_list (pv 2) pe_int (fun _ _ => rfl)) (pa_cons (pe_ix ix_list (pv 2) pe_int (fun _ _ => rfl)) pa_nil)))))))
        pss_nil)
        (pss_one (ps_ret (pe_tup (pa_cons pe_str (pa_cons (pe_go G__law_pick hr (pa_cons (pv 0) (pa_cons (pv 2) pa_nil))) (pa_cons (pe_go G__law_pick hr (pa_cons (pv 0) (pa_cons (pe_dget hu (pv 1) pe_str (fun _ _ => rfl)) pa_nil))) pa_nil))))))))), ?_⟩
  refine s3_par (k := 1) a (by omega) (a3_two (fr_fields fr rfl h1) (e3_take (z := 10) o rfl e1_int (by decide) (by decide))) fun v2 v3 d3 H1 r1 a1 s1 d2 d3 => ?_
  obtain ⟨z, rfl, z0, z1⟩ := r1
  cases d3
  have g1 := h1.same s1
  have g2 := h2.same s1
  refine s3_if (k := 0) a1 (by omega) (t3_and (b := decide (z < 2)) (t1_test (e1_op (K := K) (d1 := .int z) (e1_var rfl (.int _)) e1_int r1_cmp)) (t3_test (K := K) (E3.weak (e3_op1 (f := fun d => match d with | .int i => .bool (decide (0 < i)) | _ => .none) (fr_marks fr rfl) e1_int (fun d ⟨m, e⟩ => ?p1)) ?p2))) (fun H2 a2 s2 => ?_) (fun H2 a2 s2 => ?_)
  case p1 =>
    subst e
    exact r1_cmp
  case p2 =>
    rintro d ⟨e, ⟨m, rfl⟩, rfl⟩
    exact ⟨_, rfl⟩
  · refine s3_marks (K := K) (k := 0) a2 (by omega) fr rfl (E3.weak (e3_op1 (f := fun d => match d with | .int i => .int (i - 1) | _ => .none) (fr_marks fr rfl) e1_int (fun d ⟨m, e⟩ => ?p3)) ?p4) fun H3 a3 s3 => ?_
    case p3 =>
      subst e
      exact r1_int
    case p4 =>
      rintro d ⟨e, ⟨m, rfl⟩, rfl⟩
      exact ⟨_, rfl⟩
    dsimp only
    refine s3_ret (K := K) (k := 0) (R := fun d => okt 1 53 d = true) a3 (by omega) (E3.weak (e3_tupO (a3_oks1 (m1 := 4) (kd := 0) (e1_str (x := "mark")) (by decide +kernel) a3_oks0) (by decide)) fun d r => okt_more r (by decide) (by decide)) fun v d H4 r ok4 s4 d4 => q v d H4 r (U.mono ok4 (by omega)) (((s1.trans s2).trans s3).trans s4) d4
  refine s1_if (b := decide (z < 5)) a2 (t1_test (e1_op (K := K) (d1 := .int z) (e1_var rfl (.int _)) e1_int r1_cmp)) (fun _ H3 a3 s3 => ?_) (fun _ H3 a3 s3 => ?_)
  · refine s3_ret (K := K) (k := 3) (R := fun d => okt 1 53 d = true) a3 (by omega) (e3_gog (pre := fun ds => ds = [.int (0 : Nat)]) o fr g1 g2 fo rfl rfl (a1_cons e1_int a1_nil) rfl rfl) fun v d H4 r ok4 s4 d4 => q v d H4 r (U.mono ok4 (by omega)) (((s1.trans s2).trans s3).trans s4) d4
  have hx3 := fo.x3
  refine s1_if (b := decide (z < 7) && decide ((1 : Int) < xs.length)) a3 (t1_and (t1_test (e1_op (K := K) (d1 := .int z) (e1_var rfl (.int _)) e1_int r1_cmp)) fun _ => t1_test (e1_op (K := K) (d1 := .int (xs.length : Nat)) (e1_len (e1_var rfl d2) (congrArg some (List.length_map ..)) (by omega)) e1_int r1_cmp)) (fun g H4 a4 s4 => ?_) (fun _ H4 a4 s4 => ?_)
  · have two : 1 < xs.length := by
      have := (Bool.and_eq_true_iff.mp g).2
      have := of_decide_eq_true this
      omega
    refine s3_asg (K := K) (k := 3) a4 (by omega) (E3.more (e3_shuf o rfl (e1_var rfl d2) (.inr rfl) (by rw [List.length_map]; omega) ?p5) (by rw [List.length_map]; omega)) fun v5 d5 H5 r5 a5 s5 e5 => ?_
    case p5 =>
      intro e he
      obtain ⟨x, hx, rfl⟩ := List.mem_map.mp he
      have h := frame_ok (fo.xm x hx)
      rw [okt_iff] at h
      have h5 := h.2.2.2.2
      simp only [fineB, Bool.and_eq_true] at h5
      exact ⟨by simpa [PyData.canLay0] using h5.2, Nat.zero_le _⟩
    obtain ⟨es, rfl, pe⟩ := r5
    have le : es.length = xs.length := pe.length_eq.trans (List.length_map ..)
    have mem : ∀ e ∈ es, okt 0 6 e = true := fun e he => by
      obtain ⟨x, hx, rfl⟩ := List.mem_map.mp (pe.mem_iff.mp he)
      exact frame_ok (fo.xm x hx)
    match es, le, mem, e5 with
    | [], le, _, _ => exact absurd le (by simp; omega)
    | [p], le, _, _ => exact absurd le (by simp; omega)
    | p1 :: p2 :: ps, le, mem, e5 =>
      refine s3_ret (K := K) (k := 0) (R := fun d => okt 1 53 d = true) a5 (by omega) (E3.weak (e3_tupO (a3_oks1 (m1 := 4) (kd := 0) (e1_str (x := "take")) (by decide +kernel) (a3_oks1 (e1_op (e1_var rfl e5) e1_int (r1_ixL (j := 0) rfl)) (mem p1 (by simp)) (a3_oks1 (e1_op (e1_var rfl e5) e1_int (r1_ixL (j := 1) rfl)) (mem p2 (by simp)) a3_oks0))) (by decide)) fun d r => okt_more r (by decide) (by decide)) fun v d H6 r ok6 s6 d6 => q v d H6 r (U.mono ok6 (by omega)) (((((s1.trans s2).trans s3).trans s4).trans s5).trans s6) d6
  · refine s3_ret (K := K) (k := 2) (R := fun d => okt 1 53 d = true) a4 (by omega) (E3.weak (e3_tupO (a3_oks1 (m1 := 3) (kd := 0) (e1_str (x := "set")) (by decide +kernel) (a3_oks (k1 := 1) (k2 := 1) (m1 := 6) (e3_pick (k := 0) o rfl (E1.e3 (e1_var rfl d2) ⟨_, .inr rfl, fun z => ?p6, by rw [List.length_map]; omega, ?p7⟩)) (a3_oks (k1 := 1) (k2 := 0) (e3_pickN o fr g2 fo rfl rfl) a3_oks0))) (by decide)) fun d r => okt_more r (by decide) (by decide)) fun v d H5 r ok5 s5 d5 => q v d H5 r (U.mono ok5 (by omega)) ((((s1.trans s2).trans s3).trans s4).trans s5) d5
    case p6 =>
      have := fo.x1
      rw [List.map_eq_nil_iff.mp z] at this
      exact absurd this (by decide)
    case p7 =>
      intro e he
      obtain ⟨x, hx, rfl⟩ := List.mem_map.mp he
      exact frame_ok (fo.xm x hx)
theorem ok_tree {f : Addr} {fd : FuncData} (n : Nat) (wn : wX n ≤ 90000) (F : Fun K "_law_tree" "_law_tree" s__law_tree f fd) (T : Blt mg) (G__law_take : Def P w K mg base "_law_take" 2 ["state", "size"] spTake) (G__law_leaf : Def P w K mg base "_law_leaf" 5 ["state", "frame"] (spLeaf K))
    (G__law_test : Def P w K mg base "_law_test" 6 ["state", "frame", "deep"] (spTest K 2)) (G__law_tree : Def P w K mg base "_law_tree" (n + 7) ["state", "frame", "deep"] (spPrevX K n)) : FnG P w K mg base (n + 8) f fd ["state", "frame", "deep"] (spTree K n) := by
  refine fnG F sc__law_tree (fun vs H Q E h => spG_len h) (fun cdv A outer s H vs Q E hr h => ?_)
  obtain ⟨U, W, Fa, tf, ln, xs, ns, c, ws, ds, o, fr, h1, h2, fo, rfl, ok, hc, hd, hl, rfl, q⟩ := h
  obtain ⟨u, rfl, hu⟩ := dd1 hd
  have hu1 := hu_of hr.r
  have hrm : Rm (n + 7) _ := hr
  have a : At U c (U.view H) H := At.here ok
  refine ⟨_, pss_cons (ps_set (i := 3) sc__law_tree.nd rfl (.inl rfl) (pe_go G__law_take hrm (pa_cons (pv 0) (pa_cons pe_int pa_nil)) (hj := by omega)))
        (pss_cons (ps_if (PW.pt (pw_or (pt_cmpR op_eq (pv 2) pe_int (nomark _)) (pw_or1 (pt_cmpR op_eq (pv 3) pe_int (nomark _)))))
        (pss_one (ps_ret (pe_go G__law_leaf hrm (pa_cons (pv 0) (pa_cons (pv 1) pa_nil)) (hj := by omega))))
        pss_nil)
        (pss_cons (ps_if (pt_cmpR op_eq (pv 3) pe_int (nomark _))
        (pss_one (ps_ret (pe_go G__law_test hrm (pa_cons (pv 0) (pa_cons (pv 1) (pa_cons pe_int pa_nil))) (hj := by omega))))
        pss_nil)
        (pss_cons (ps_if (pt_cmpR op_lt (pv 3) pe_int (nomark _))
        (pss_one (ps_ret (pe_tup (pa_cons pe_str (pa_cons (pe_go G__law_tree hrm (pa_cons (pv 0) (pa_cons (pv 1) (pa_cons (pe_op op_sub (pv 2) pe_int) pa_nil))) (hj := by omega)) pa_nil)))))
        pss_nil)
        (pss_cons (ps_set (i := 4) sc__law_tree.nd rfl (.inl rfl) (pe_op op_add pe_int (pe_callTy call_int1 (by rfl) T.int (by decide +kernel) (pa_cons (pe_cmpR op_eq (pe_go G__law_take hrm (pa_cons (pv 0) (pa_cons pe_int pa_nil)) (hj := by omega)) pe_int (nomark _)) pa_nil))))
        (pss_cons (ps_setLc (i := 5) (own := [("turn", 6)]) (g := gName 6) (tt := tYes) rfl sc__law_tree.nd rfl rfl (sw_true rfl rfl rfl (by decide +kernel)) (pi_range1 (by rfl) T.range (pa_cons (pv 4) pa_nil)) (blkOk_by (N := ["state", "frame", "deep", "sort", "many", "portions", "turn"]) (sc := defScope s__law_tree) (by decide +kernel)) (fun _ _ _ _ _ => (pg_name (i := 6) sc__law_tree.nd rfl (.inl rfl))) (fun _ _ _ _ _ => pts_nil) (fun _ _ _ _ _ => (pe_go G__law_tree hrm (pa_cons (pv 0) (pa_cons (pv 1) (pa_cons (pe_op op_sub (pv 2) pe_int) pa_nil))) (hj := by omega))))
        (pss_one (ps_ret (pe_op op_catA (pe_tup (pa_cons (pe_ifExp (pt_cmpR op_lt (pv 3) pe_int (nomark _)) pe_str pe_str) pa_nil)) (pe_callTy call_tuple_of (by rfl) T.tuple (by decide +kernel) (pa_cons (pv 5) pa_nil)))))))))), ?_⟩
  have w5 := wX_5 n
  have k5 := kX_5 n
  refine s3_asg (K := K) (k := 1) a (by omega) (e3_take (z := 12) o rfl e1_int (by decide) (by decide)) fun v3 d3 H1 r1 a1 s1 d1 => ?_
  obtain ⟨z, rfl, z0, z1⟩ := r1
  cases d1
  have g1 : Dd K (U.view H1) (.ref tf) (.tuple (xs.map .str)) := h1.same s1
  have g2 : Dd K (U.view H1) (.ref ln) (.list (ns.map .int)) := h2.same s1
  cases n with
  | zero =>
    refine s1_if (b := true) a1 (t1_or (a := true) (t1_test (E1.is (e1_op (e1_var rfl (hu.same s1)) e1_int r1_eqI) rfl)) (b := true) fun z => Bool.noConfusion z) (fun _ H3 a3 s3 => ?_) (fun z => Bool.noConfusion z)
    refine s3_ret (K := K) (k := 6) (R := fun d => okt 1 53 d = true) a3 (by omega) (e3_gog (pre := fun ds => ds = []) o fr g1 g2 fo rfl rfl a1_nil rfl rfl) fun v d H4 r ok4 s4 d4 => q v d H4 (okt_more r (by omega) (by omega)) (U.mono ok4 (by omega)) ((s1.trans s3).trans s4) d4
  | succ n =>
    have hk : kX (n + 1) = 53 + 3 * kX n := rfl
    have hw : wX (n + 1) = 3 * (wX n + 1) + 7 := rfl
    have k0 := kX_5 n
    have w0 := wX_5 n
    have kt2 : kT 2 = 39 := rfl
    have wt2 : wT 2 = 517 := rfl
    have n0 : decide (((n + 1 : Nat) : Int) = 0) = false := decide_eq_false (by omega)
    have sub1 : (((n + 1 : Nat) : Int) - 1) = (n : Nat) := by omega
    refine s1_if (b := false || decide (z = 0)) a1 (t1_or (t1_test (E1.is (e1_op (e1_var rfl (hu.same s1)) e1_int r1_eqI) (congrArg PyData.bool n0))) fun _ => t1_test (e1_op (K := K) (d1 := .int z) (e1_var rfl (.int _)) e1_int r1_eqI)) (fun _ H2 a2 s2 => ?_) (fun _ H2 a2 s2 => ?_)
    · refine s3_ret (K := K) (k := 6) (R := fun d => okt 1 53 d = true) a2 (by omega) (e3_gog (pre := fun ds => ds = []) o fr g1 g2 fo rfl rfl a1_nil rfl rfl) fun v d H4 r ok4 s4 d4 => q v d H4 (okt_more r (by omega) (by omega)) (U.mono ok4 (by omega)) ((s1.trans s2).trans s4) d4
    refine s1_if (b := decide (z = 1)) a2 (t1_test (e1_op (K := K) (d1 := .int z) (e1_var rfl (.int _)) e1_int r1_eqI)) (fun _ H3 a3 s3 => ?_) (fun _ H3 a3 s3 => ?_)
    · refine s3_ret (K := K) (k := kT 2) (R := fun d => okt (2 + 1) (wT 2) d = true) a3 (by omega) (e3_gog (pre := fun ds => ds = [.int (2 : Nat)]) o fr g1 g2 fo rfl rfl (a1_cons e1_int a1_nil) rfl rfl) fun v d H4 r ok4 s4 d4 => q v d H4 (okt_more r (by omega) (by omega)) (U.mono ok4 (by omega)) (((s1.trans s2).trans s3).trans s4) d4
    refine s1_if (b := decide (z < 4)) a3 (t1_test (e1_op (K := K) (d1 := .int z) (e1_var rfl (.int _)) e1_int r1_cmp)) (fun _ H4 a4 s4 => ?_) (fun _ H4 a4 s4 => ?_)
    · refine s3_ret (K := K) (k := kX n) (R := fun d => okt (n + 1 + 3) (wX (n + 1)) d = true) a4 (by omega) (E3.weak (e3_tupO (k := kX n + 0) (a3_oks1 (m1 := 4) (kd := n + 3) (e1_str (x := "loop")) (okt_more (k := 0) (m := 4) (by decide +kernel) (by omega) (by omega)) (a3_oks (k1 := kX n) (k2 := 0) (e3_gog (pre := fun ds => ds = [.int n]) o fr g1 g2 fo rfl rfl (a1_cons (E1.is (e1_op (e1_var rfl (hu.same s1)) e1_int r1_int) (congrArg PyData.int sub1)) a1_nil) rfl rfl) a3_oks0)) (by omega)) fun d r => okt_more r (by omega) (by omega)) fun v d H5 r ok5 s5 d5 => q v d H5 r (U.mono ok5 (by omega)) ((((s1.trans s2).trans s3).trans s4).trans s5) d5
    refine s3_asg (K := K) (k := 1) (R := fun d => ∃ j : Int, d = .int j ∧ 2 ≤ j ∧ j ≤ 3) a4 (by omega) (E3.weak (e3_op2 (f := fun d => match d with | .int i => .int (2 + i) | _ => .none) e1_int (e3_int1 (E3.weak (e3_op1 (f := fun d => match d with | .int i => .bool (decide (i = 0)) | _ => .none) (e3_take (z := 3) o rfl e1_int (by decide) (by decide)) e1_int ?p1) ?p2)) ?p3) ?p4) fun v4 d4 H5 r5 a5 s5 e4 => ?_
    case p1 =>
      rintro d ⟨j, rfl, _⟩
      exact r1_eqI
    case p2 =>
      rintro d ⟨e, ⟨j, rfl, _⟩, rfl⟩
      exact ⟨_, rfl⟩
    case p3 =>
      rintro d (rfl | rfl) <;> exact r1_int
    case p4 =>
      rintro d ⟨e, rfl | rfl, rfl⟩
      · exact ⟨2, rfl, by decide, by decide⟩
      · exact ⟨3, rfl, by decide, by decide⟩
    obtain ⟨j, rfl, j2, j3⟩ := r5
    have t5 := ((s2.trans s3).trans s4).trans s5
    have f1 := g1.same t5
    have f2 := g2.same t5
    have hu5 := (hu.same s1).same t5
    refine s3_asg (K := K) (k := 0 + 3 * kX n) (R := fun d => ∃ es, d = .list es ∧ es.length ≤ 3 ∧ ∀ e ∈ es, okt (n + 3) (wX n) e = true) a5 (by omega) (E3.weak (e3_lcC (C := fun U => Of U W ∧ Fr U Fa tf ln) (m := 3) (k := kX n) (k0 := 0) (R := fun d => okt (n + 3) (wX n) d = true) (P := fun ds => ds.length ≤ 3) ⟨o, fr⟩ (fun U D x c => ⟨c.1.hide D x, c.2.hide D x⟩) (I1.i3 (i1_rng (e1_var rfl e4) (by omega) (by omega)) ?p5) (fun ds p => p) (by decide) (fun _ => rfl) (fun U' M' v c e => e3_gog (pre := fun ds => ds = [.int n]) c.1 c.2 (f1.same e) (f2.same e) fo rfl rfl (a1_cons (E1.is (e1_op (e1_var rfl (hu5.same e)) e1_int r1_int) (congrArg PyData.int sub1)) a1_nil) rfl rfl)) ?p6) fun v5 d5 H6 r6 a6 s6 e5 => ?_
    case p5 =>
      rw [List.length_map, List.length_range]
      omega
    case p6 =>
      rintro d ⟨ds, es, p, e, el, er⟩
      exact ⟨es, e, by rw [el]; exact p, er⟩
    obtain ⟨es, rfl, el, er⟩ := r6
    refine s3_ret (K := K) (k := 0) (R := fun d => okt (n + 1 + 3) (wX (n + 1)) d = true) a6 (by omega) (E1.e3 (e1_op (d1 := .tuple [if z < 8 then .str "row" else .str "choice"]) (e1_tup (a1_cons (e1_if (b := decide (z < 8)) (t1_test (e1_op (K := K) (d1 := .int z) (e1_var rfl (.int _)) e1_int r1_cmp)) (fun g => ?p7) (fun g => ?p8)) a1_nil) (show 1 ≤ 100000 by decide)) (e1_tuple (e1_var rfl e5) (.inl rfl)) (r1_catA (by simp only [List.length_singleton]; omega))) ?p9) fun v d H7 r ok7 s7 d7 => q v d H7 r (U.mono ok7 (by omega)) (((s1.trans t5).trans s6).trans s7) d7
    case p7 =>
      rw [if_pos (of_decide_eq_true g)]
      exact e1_str
    case p8 =>
      rw [if_neg (of_decide_eq_false g)]
      exact e1_str
    case p9 =>
      refine oks_tup (oks_cons (m1 := 6) ?_ (oks_each er) ?_)
      · split <;> exact okt_more (k := 0) (m := 6) (by decide +kernel) (by omega) (by omega)
      · have := Nat.mul_le_mul_right (wX n + 1) el
        show 6 + 1 + es.length * (wX n + 1) ≤ wX (n + 1)
        omega
theorem ok_marked {f : Addr} {fd : FuncData} (F : Fun K "_law_marked_tree" "_law_marked_tree" s__law_marked_tree f fd) (T : Blt mg) (G__law_tree : Def P w K mg base "_law_tree" 11 ["state", "frame", "deep"] (spTree K 3)) : FnG P w K mg base 12 f fd ["state", "frame", "deep", "marks"] (spMarked K) := by
  refine fnG F sc__law_marked_tree (fun vs H Q E h => spG_len h) (fun cdv A outer s H vs Q E hr h => ?_)
  obtain ⟨U, W, Fa, tf, ln, xs, ns, c, ws, ds, o, fr, h1, h2, fo, rfl, ok, hc, hd, hl, hp, q⟩ := h
  obtain ⟨m, rfl⟩ := hp
  obtain ⟨u, v, rfl, hu, hv⟩ := dd2 hd
  have hu1 := hu_of hr.r
  have a : At U c (U.view H) H := At.here ok
  refine ⟨_, pss_cons (ps_dput hu1 (pv 1) pe_str (pv 3) rfl)
        (pss_one (ps_ret (pe_go G__law_tree hr (pa_cons (pv 0) (pa_cons (pv 1) (pa_cons (pv 2) pa_nil)))))), ?_⟩
  refine s3_marks (K := K) (k := 0) a (by omega) fr rfl (E1.e3 (e1_var rfl hv) ⟨m, rfl⟩) fun H1 a1 s1 => ?_
  dsimp only
  refine s3_ret (K := K) (k := kX 3) (R := fun d => okt (3 + 3) (wX 3) d = true) a1 (by omega) (e3_gog (pre := fun ds => ds = [.int (3 : Nat)]) o fr h1 h2 fo rfl rfl (a1_cons (e1_var rfl hu) a1_nil) rfl rfl) fun v d H2 r ok2 s2 d2 => q v d H2 r (U.mono ok2 (by omega)) (s1.trans s2) d2
end
end Mw
namespace Mw
open PySem PySem.Spec PyProof.Rows L2
local macro_rules | `(tactic| walk_at "e1c") => `(tactic| repeat' (first | exact e1_int | exact e1_str | exact e1_bl | exact e1_non | exact a1_nil | refine a1_cons ?_ ?_ | exact e1_dis0 | exact e1_dis1 | refine e1_tup ?_ (by decide) | refine e1_lst ?_ (by decide) | exact e1_neg e1_int))
theorem powC {a b : Int} {C : Int → Int → Prop} {K : PySem.W.Frag} {U : Wo} {M : Hp} {σ : L2.St} (c : C a b) : E1 K U M (tOp (rI C fun i j => .int (i ^ j.toNat)) (tC (.int a)) (tC (.int b))) σ (.int (a ^ b.toNat)) := e1_op e1_int e1_int (r1_I c)
section
variable {K : PySem.W.Frag} {U : Wo} {W : Wd} {M : Hp} {σ : L2.St} {n k : Nat} {te ta tb : TE} {t : TA} {tt tu : TT} {R : PyData → Prop} {D : Ends} {H : Hp}
theorem t3_or {b : Bool} (h1 : T1 U M tt σ b) (h2 : T3 U M k tu σ) : T3 U M k (tOr tt tu) σ := fun n H a hn Q q => h1 n H a _ fun H1 ok1 s1 => by
  cases b with
  | true => exact iteT (q true H1 (U.mono ok1 (by omega)) s1)
  | false => exact iteF (h2 n H1 (a.step ok1 s1) hn Q fun b H2 ok2 s2 => q b H2 ok2 (s1.trans s2))
/-- any piece of a tuple -/
theorem e1_slA {tl th : TO} {ds : List PyData} {lo hi : Option Int} (h : E1 K U M te σ (.tuple ds)) (hlo : ∀ H (Q : Option Int → Hp → Prop), Q lo H → tl σ H Q) (hhi : ∀ H (Q : Option Int → Hp → Prop), Q hi H → th σ H Q) :
    E1 K U M (tSl (rSlA K) te tl th) σ (.tuple (cutD ds lo hi)) := fun n H a Q q => h n H a _ fun v H1 ok1 s1 d1 => by
  cases d1 with
  | tup hq ha =>
    have hl := ha.len
    refine hlo H1 _ (hhi H1 _ ⟨_, _, rfl, seqT (U.le _) hq, fun e => ?_, fun _ p np => ?_⟩)
    · have e2 : cutD ds lo hi = ds := by
        unfold cutD
        rw [← hl, e.1, e.2, List.drop_zero, Nat.sub_zero, hl]
        exact List.take_of_length_le (Nat.le_refl _)
      rw [e2] at q
      exact q _ H1 ok1 s1 (.tup hq ha)
    · obtain ⟨ok2, s2, f2, _⟩ := U.new ok1 np rfl
      exact q _ _ ok2 (s1.trans s2) (.tup (.inl (.inl f2)) ((ha.cut lo hi).same s2))
end
def oddA : List PyData := [.none, .bool true, .int (-1), .str "pass", .str "", .str "mark", .tuple [], .tuple [.none], .tuple [.str "pas"], .tuple [.str "is", .str "a"], .tuple [.str "mark", .int 1], .list [], .dict []]
def oddB : List PyData := [.tuple [.str "row", .tuple [.str "pass"]], .tuple [.str "not", .tuple [.str "mark"]], .tuple [.str "set", .str "A", .int 1], .tuple [.str "take", .str "a", .str "a"], .list [.str "pass"], .dict [(.str "a", .int 1)]]
def oddC : List PyData := [.tuple [.str "loop"], .tuple [.int (-1), .int 0], .tuple [.bool true, .int 1], .int (10 ^ 40 + 7), .str "a=1", .tuple [.str "is", .str "pass", .int 1]]
section
variable {P : Program} {w : World} {K : PySem.W.Frag} {mg : Str → Option Value} {base : Heap}
abbrev spOdd (K : PySem.W.Frag) : Sp := spD K 0 1 (fun _ => True) (fun _ d => okt 3 200 d = true)
theorem ok_odd {f : Addr} {fd : FuncData} (F : Fun K "_law_odd" "_law_odd" s__law_odd f fd) (T : Blt mg) (G__law_pick : Def P w K mg base "_law_pick" 3 ["state", "some"] (spPick K)) : FnG P w K mg base 4 f fd ["state"] (spOdd K) := by
  refine fnG F sc__law_odd (fun vs H Q E h => spD_len h) (fun cdv A outer s H vs Q E hr h => ?_)
  obtain ⟨U, W, n, ws, ds, o, rfl, ok, hn, hd, hl, _, q⟩ := h
  obtain rfl : ds = [] := List.length_eq_zero_iff.mp hl
  cases hd
  have a : At U n (U.view H) H := At.here ok
  refine ⟨_, pss_cons (ps_set (i := 1) sc__law_odd.nd rfl (.inl rfl) (pe_lst (pa_cons pe_non (pa_cons pe_bl (pa_cons (pe_un un_neg pe_int) (pa_cons pe_str (pa_cons pe_str (pa_cons pe_str (pa_cons (pe_tup pa_nil) (pa_cons (pe_tup (pa_cons pe_non pa_nil)) (pa_cons (pe_tup (pa_cons pe_str pa_nil)) (pa_cons (pe_tup (pa_cons pe_str (pa_cons pe_str pa_nil))) (pa_cons (pe_tup (pa_cons pe_str (pa_cons pe_int pa_nil))) (pa_cons (pe_lst pa_nil) (pa_cons pe_dnewK pa_nil)))))))))))))))
        (pss_cons (ps_set (i := 1) sc__law_odd.nd rfl (.inl rfl) (pe_op op_cat (pv 1) (pe_lst (pa_cons (pe_tup (pa_cons pe_str (pa_cons (pe_tup (pa_cons pe_str pa_nil)) pa_nil))) (pa_cons (pe_tup (pa_cons pe_str (pa_cons (pe_tup (pa_cons pe_str pa_nil)) pa_nil))) (pa_cons (pe_tup (pa_cons pe_str (pa_cons pe_str (pa_cons pe_int pa_nil)))) (pa_cons (pe_tup (pa_cons pe_str (pa_cons pe_str (pa_cons pe_str pa_nil)))) (pa_cons (pe_lst (pa_cons pe_str pa_nil)) (pa_cons (pe_disp (pps_cons pe_str pe_int pps_nil) (by rfl) (by rfl) (fun z => by cases z) (by decide)) pa_nil)))))))))
        (pss_one (ps_ret (pe_go G__law_pick hr (pa_cons (pv 0) (pa_cons (pe_op op_cat (pv 1) (pe_lst (pa_cons (pe_tup (pa_cons pe_str pa_nil)) (pa_cons (pe_tup (pa_cons (pe_un un_neg pe_int) (pa_cons pe_int pa_nil))) (pa_cons (pe_tup (pa_cons pe_bl (pa_cons pe_int pa_nil))) (pa_cons (pe_op op_add (pe_op op_pow pe_int pe_int) pe_int) (pa_cons pe_str (pa_cons (pe_tup (pa_cons pe_str (pa_cons pe_str (pa_cons pe_int pa_nil)))) pa_nil)))))))) pa_nil)))))), ?_⟩
  refine s1_asg (K := K) (d := .list oddA) a (by unfold oddA; walk_at "e1c") fun v1 H1 a1 s1 d1 => ?_
  refine s1_asg (K := K) (d := .list (oddA ++ oddB)) a1 (e1_op (e1_var rfl d1) (d2 := .list oddB) (by unfold oddB; walk_at "e1c") (r1_cat (by decide))) fun v2 H2 a2 s2 d2 => ?_
  refine s3_ret a2 hn (e3_pick o rfl (E1.e3 (d := .list ((oddA ++ oddB) ++ oddC)) (e1_op (e1_var rfl d2) (d2 := .list oddC) ?_ (r1_cat (by decide))) ⟨_, .inl rfl, by decide, by decide, List.all_eq_true.mp (by decide +kernel)⟩)) fun v d H3 r ok3 s3 d3 => q v d H3 r ok3 ((s1.trans s2).trans s3) d3
  unfold oddC
  refine e1_lst ?_ (by decide)
  refine a1_cons (by walk_at "e1c") (a1_cons (by walk_at "e1c") (a1_cons (by walk_at "e1c") (a1_cons ?_ (by walk_at "e1c"))))
  exact E1.is (e1_op (powC ⟨by decide, by decide, by decide⟩) e1_int r1_int) (congrArg PyData.int (by decide +kernel))
/-! a chain -/
abbrev spChain (K : PySem.W.Frag) : Sp := spD K 1 20 (fun ds => ∃ m : Nat, ds = [.int m] ∧ m ≤ 13) (fun _ d => okt 20 1000 d = true)
theorem ok_chain {f : Addr} {fd : FuncData} (F : Fun K "_law_chain" "_law_chain" s__law_chain f fd) (T : Blt mg) (G__law_pick : Def P w K mg base "_law_pick" 3 ["state", "some"] (spPick K)) : FnG P w K mg base 4 f fd ["state", "many"] (spChain K) := by
  refine fnG F sc__law_chain (fun vs H Q E h => spD_len h) (fun cdv A outer s H vs Q E hr h => ?_)
  obtain ⟨U, W, n, ws, ds, o, rfl, ok, hn, hd, hl, hp, q⟩ := h
  obtain ⟨m, rfl, hm⟩ := hp
  obtain ⟨u, rfl, hu⟩ := dd1 hd
  have a : At U n (U.view H) H := At.here ok
  refine ⟨_, pss_cons (ps_set (i := 2) sc__law_chain.nd rfl (.inl rfl) (pe_go G__law_pick hr (pa_cons (pv 0) (pa_cons (pe_lst (pa_cons (pe_tup (pa_cons pe_str pa_nil)) (pa_cons (pe_tup (pa_cons pe_str (pa_cons pe_str (pa_cons pe_int pa_nil)))) (pa_cons (pe_tup (pa_cons pe_str pa_nil)) pa_nil)))) pa_nil))))
        (pss_cons (ps_for PassesOwn.never rfl (pi_range1 (by rfl) T.range (pa_cons (pe_op op_sub (pv 1) pe_int) pa_nil)) (pg_name (i := 3) sc__law_chain.nd rfl (.inl rfl))
        (pss_cons (ps_set (i := 4) sc__law_chain.nd rfl (.inl rfl) (pe_lst (pa_cons (pe_tup (pa_cons pe_str (pa_cons (pv 2) (pa_cons (pe_tup (pa_cons pe_str pa_nil)) pa_nil)))) (pa_cons (pe_tup (pa_cons pe_str (pa_cons (pe_tup (pa_cons pe_str pa_nil)) (pa_cons (pv 2) pa_nil)))) (pa_cons (pe_tup (pa_cons pe_str (pa_cons (pv 2) pa_nil))) (pa_cons (pe_tup (pa_cons pe_str (pa_cons (pv 2) pa_nil))) pa_nil))))))
          (pss_one (ps_set (i := 2) sc__law_chain.nd rfl (.inl rfl) (pe_go G__law_pick hr (pa_cons (pv 0) (pa_cons (pv 4) pa_nil)))))))
        (pss_one (ps_ret (pv 2)))), ?_⟩
  refine s3_asg (K := K) (k := 1) (R := fun d => okt (2 + 0) (20 + 16 * 0) d = true) a (by omega) (e3_pick (k := 0) o rfl (E1.e3 (d := .list [.tuple [.str "mark"], .tuple [.str "is", .str "a", .int 1], .tuple [.str "pass"]]) (by walk_at "e1c") ⟨_, .inl rfl, by decide, by decide, fun e he => ?f0⟩)) fun v2 d2 H1 r1 a1 s1 e2 => ?_
  case f0 =>
    simp only [List.mem_cons, List.not_mem_nil, or_false] at he
    rcases he with rfl | rfl | rfl <;> exact okt_more (k := 1) (m := 20) (by decide +kernel) (by decide) (by decide)
  have hu1 := hu.same s1
  refine s3_for (K := K) (k0 := 0) (k := 1) (m := 12) a1 (by omega) (I1.i3 (P := fun ds => ds.length ≤ 12) (i1_rng (e1_op (e1_var rfl hu1) e1_int r1_int) (by omega) (by omega)) ?f1) (fun ds p => p) (fun i σ H => ∃ x2 x3 x4 d, σ = [some (.ref W.d), some u, some x2, x3, x4] ∧ Dd K (U.view H) x2 d ∧ okt (2 + i) (20 + 16 * i) d = true) (fun H' s' => ⟨_, _, _, d2, rfl, e2.same s', r1⟩) ?_ ?_
  case f1 =>
    rw [List.length_map, List.length_range]
    omega
  · rintro i n' σ' H2 v d N hi hn' ⟨x2, x3, x4, d, rfl, hx, od⟩ a2 s2 dx hN
    have p1 : okt 0 6 (.str "row") = true := by decide +kernel
    have p2 : okt 0 6 (.str "choice") = true := by decide +kernel
    have p3 : okt 0 6 (.str "loop") = true := by decide +kernel
    have p4 : okt 0 6 (.str "not") = true := by decide +kernel
    have p5 : okt 1 5 (.tuple [.str "pass"]) = true := by decide +kernel
    have p6 : okt 1 5 (.tuple [.str "drop"]) = true := by decide +kernel
    have up : ∀ {k m : Nat} {e : PyData}, okt k m e = true → k ≤ 1 → okt (2 + i) m e = true := fun h l => okt_more h (by omega) (Nat.le_refl _)
    refine s1_asg (K := K) (d := .list [.tuple [.str "row", d, .tuple [.str "pass"]], .tuple [.str "choice", .tuple [.str "drop"], d], .tuple [.str "loop", d], .tuple [.str "not", d]]) (At.here a2.ok) (e1_lst (a1_cons (e1_tup (a1_cons e1_str (a1_cons (e1_var rfl hx) (a1_cons (e1_tup (a1_cons e1_str a1_nil) (by decide)) a1_nil))) (show 3 ≤ 100000 by decide)) (a1_cons (e1_tup (a1_cons e1_str (a1_cons (e1_tup (a1_cons e1_str a1_nil) (by decide)) (a1_cons (e1_var rfl hx) a1_nil))) (show 3 ≤ 100000 by decide)) (a1_cons (e1_tup (a1_cons e1_str (a1_cons (e1_var rfl hx) a1_nil)) (show 2 ≤ 100000 by decide)) (a1_cons (e1_tup (a1_cons e1_str (a1_cons (e1_var rfl hx) a1_nil)) (show 2 ≤ 100000 by decide)) a1_nil)))) (show 4 ≤ 100000 by decide)) fun v4 H3 a3 s3 e4 => ?_
    refine s3_asg (K := K) (k := 1) (R := fun e => okt (2 + (i + 1)) (20 + 16 * (i + 1)) e = true) a3 (by omega) (e3_pick (k := 0) o rfl (E1.e3 (e1_var rfl e4) ⟨_, .inl rfl, List.cons_ne_nil _ _, (show 4 ≤ 100000 by decide), fun e he => ?f2⟩)) fun v5 d5 H4 r5 a4 s4 e5 => ?_
    case f2 =>
      simp only [List.mem_cons, List.not_mem_nil, or_false] at he
      have fin : ∀ {ds : List PyData} {m : Nat}, oks (2 + i) m ds → m ≤ 20 + 16 * (i + 1) → okt (2 + (i + 1)) (20 + 16 * (i + 1)) (.tuple ds) = true := fun h l => okt_more (oks_tup h) (by omega) l
      rcases he with rfl | rfl | rfl | rfl
      · exact fin (oks_cons (up p1 (by decide)) (oks_cons od (oks_cons (up p5 (by decide)) oks_nil (Nat.le_refl (5 + 1 + 0))) (Nat.le_refl _)) (Nat.le_refl _)) (by omega)
      · exact fin (oks_cons (up p2 (by decide)) (oks_cons (up p6 (by decide)) (oks_cons od oks_nil (Nat.le_refl (20 + 16 * i + 1 + 0))) (Nat.le_refl _)) (Nat.le_refl _)) (by omega)
      · exact fin (oks_cons (up p3 (by decide)) (oks_cons od oks_nil (Nat.le_refl (20 + 16 * i + 1 + 0))) (Nat.le_refl _)) (by omega)
      · exact fin (oks_cons (up p4 (by decide)) (oks_cons od oks_nil (Nat.le_refl (20 + 16 * i + 1 + 0))) (Nat.le_refl _)) (by omega)
    exact hN _ _ ⟨v5, _, _, d5, rfl, e5, r5⟩ ⟨a4.ok, a2.up.trans (s3.trans s4)⟩ (s3.trans s4)
  · rintro i σ' H2 hi ⟨x2, x3, x4, d, rfl, hx, od⟩ a2 s2
    dsimp only
    refine s3_ret (K := K) (k := 0) (R := fun e => okt 20 1000 e = true) (At.here a2.ok) (by omega) (E1.e3 (e1_var rfl hx) (okt_more od (by omega) (by omega))) fun v e H3 r ok3 s3 e3 => q v e H3 r (U.mono ok3 (by omega)) ((s1.trans s2).trans s3) e3
end
end Mw
namespace Mw
open PySem PySem.Spec PyProof.Rows L2
local macro_rules | `(tactic| walk_at "e1c") => `(tactic| repeat' (first | exact e1_int | exact e1_str | exact e1_bl | exact e1_non | exact a1_nil | refine a1_cons ?_ ?_ | exact e1_dis0 | exact e1_dis1 | refine e1_tup ?_ (by decide) | refine e1_lst ?_ (by decide) | exact e1_neg e1_int))
theorem po_next {i : Nat} {j : Int} {σ : L2.St} (h : σ[i]? = some (some (.int j))) : ∀ H (Q : Option Int → Hp → Prop), Q (some (j + 1)) H → tPart (tOp (rI0 fun i j => .int (i + j)) (tVar i) (tC (.int 1))) σ H Q := fun H Q q => ⟨_, h, j, 1, rfl, rfl, j + 1, rfl, q⟩
theorem cutA {ds : List PyData} {j : Nat} (h : j ≤ ds.length) : cutD ds none (some (j : Int)) = ds.take j := by
  unfold cutD
  rw [HT.sIx_none, HT.sIx_nat, Nat.sub_zero, List.drop_zero, Nat.min_eq_left h]
theorem cutB {ds : List PyData} {j : Nat} (h : j ≤ ds.length) : cutD ds (some (j : Int)) none = ds.drop j := by
  unfold cutD
  rw [HT.sIx_none, HT.sIx_nat, Nat.min_eq_left h]
  exact List.take_of_length_le (by rw [List.length_drop]; exact Nat.le_refl _)
theorem cutC {ds : List PyData} {j : Nat} (h : j + 1 ≤ ds.length) : cutD ds (some (j : Int)) (some ((j + 1 : Nat) : Int)) = (ds.drop j).take 1 := by
  unfold cutD
  rw [HT.sIx_nat, HT.sIx_nat, Nat.min_eq_left h, Nat.min_eq_left (by omega), Nat.add_sub_cancel_left]
theorem split_at {ds : List PyData} {j : Nat} (h : j < ds.length) : ∃ p, ds[j]? = some p ∧ ds = ds.take j ++ p :: ds.drop (j + 1) ∧ ds.drop j = p :: ds.drop (j + 1) := by
  have e : ds.drop j = ds[j] :: ds.drop (j + 1) := List.drop_eq_getElem_cons h
  refine ⟨ds[j], List.getElem?_eq_getElem h, ?_, e⟩
  rw [← e, List.take_append_drop]
section
variable {K : PySem.W.Frag} {U : Wo} {W : Wd} {M : Hp} {σ : L2.St} {n k : Nat} {te ta tb tx : TE} {R : PyData → Prop}
theorem e3_mid {A B : List PyData} (hA : E1 K U M ta σ (.tuple A)) (hx : E3 K U M k tx σ R) (hB : E1 K U M tb σ (.tuple B)) (z : A.length + 1 + B.length ≤ 100000) : E3 K U M k (tOp (rCatA K) (tOp (rCatA K) ta (tTup (tCons tx tNil))) tb) σ (fun e => ∃ x, R x ∧ e = .tuple ((A ++ [x]) ++ B)) := by
  refine E3.weak (e3_op1 (f := fun d => match d with | .tuple ws => .tuple (ws ++ B) | _ => .none) (R := fun d => ∃ x, R x ∧ d = .tuple (A ++ [x])) (E3.weak (e3_op2 (f := fun d => match d with | .tuple ws => .tuple (A ++ ws) | _ => .none) hA (e3_tup (k := k + 0) (m := 1) (a3_cons (k1 := k) (k2 := 0) hx a3_nil) (by decide)) ?p1) ?p2) hB ?p3) ?p4
  case p1 =>
    rintro d ⟨ds, rfl, l, hd⟩
    exact r1_catA (by omega)
  case p2 =>
    rintro d ⟨e, ⟨ds, rfl, l, hd⟩, rfl⟩
    match ds, l, hd with
    | [x], _, hd => exact ⟨x, hd x (by simp), rfl⟩
  case p3 =>
    rintro d ⟨x, hx, rfl⟩
    exact r1_catA (by rw [List.length_append, List.length_singleton]; omega)
  case p4 =>
    rintro d ⟨e, ⟨x, hx, rfl⟩, rfl⟩
    exact ⟨x, hx, rfl⟩
end
section
variable {K : PySem.W.Frag} {U : Wo} {M : Hp} {σ : L2.St} {n k : Nat} {tt tu : TT} {D : Ends} {H : Hp} {B : Prop}
/-- if it is true, B holds -/
def T4 (U : Wo) (M : Hp) (k : Nat) (tt : TT) (σ : L2.St) (B : Prop) : Prop := ∀ n H, At U n M H → n + k ≤ most → ∀ Q : Bool → Hp → Prop, (∀ b H', (b = true → B) → U.ok (n + k) H' → Same (U.view H) (U.view H') → Q b H') → tt σ H Q
theorem T3.t4 (h : T3 U M k tt σ) : T4 U M k tt σ True := fun n H a hn Q q => h n H a hn Q fun b H' ok s => q b H' (fun _ => trivial) ok s
theorem t4_and {b : Bool} (h1 : T1 U M tt σ b) (h2 : b = true → T4 U M k tu σ B) : T4 U M k (tAnd tt tu) σ (b = true ∧ B) := fun n H a hn Q q => h1 n H a _ fun H1 ok1 s1 => by
  cases b with
  | true => exact iteT (h2 rfl n H1 (a.step ok1 s1) hn Q fun b H2 hb ok2 s2 => q b H2 (fun z => ⟨rfl, hb z⟩) ok2 (s1.trans s2))
  | false => exact iteF (q false H1 (fun z => Bool.noConfusion z) (U.mono ok1 (by omega)) s1)
theorem s4_if {t u : TS} (a : At U n M H) (hn : n + k ≤ most) (h : T4 U M k tt σ B) (q1 : B → ∀ H', At U (n + k) M H' → Same (U.view H) (U.view H') → t D σ H') (q2 : ∀ H', At U (n + k) M H' → Same (U.view H) (U.view H') → u D σ H') : tIfS tt t u D σ H :=
  h n H a hn _ fun b H1 hb ok1 s1 => by
    cases b with
    | true => exact iteT (q1 (hb rfl) H1 ⟨ok1, a.up.trans s1⟩ s1)
    | false => exact iteF (q2 H1 ⟨ok1, a.up.trans s1⟩ s1)
end
def kB (n : Nat) : Nat := 3 * n + 6
def spBent (K : PySem.W.Frag) (n : Nat) : Sp := fun vs H Q _ => ∃ (U : Wo) (W : Wd) (c : Nat) (v : V) (d : PyData) (m : Nat), Of U W ∧ vs = [.ref W.d, v] ∧ U.ok c H ∧ c + kB n ≤ most ∧ Dd K (U.view H) v d ∧ okt n m d = true ∧ m ≤ 40000 ∧
  ∀ v' d' H', okt (n + 6) (2 * m + 1500) d' = true → U.ok (c + kB n) H' → Same (U.view H) (U.view H') → Dd K (U.view H') v' d' → Q v' H'
theorem spBent_len {K : PySem.W.Frag} {n : Nat} {vs : List V} {H : Hp} {Q : VK} {E : XK} (h : spBent K n vs H Q E) : vs.length = 2 := by
  obtain ⟨U, W, c, v, d, m, _, rfl, _⟩ := h
  rfl
theorem e3_bent {K : PySem.W.Frag} {U : Wo} {W : Wd} {M : Hp} {σ : L2.St} {n m i : Nat} {te : TE} {d : PyData} (o : Of U W) (hv : σ[i]? = some (some (.ref W.d))) (h : E1 K U M te σ d) (hd : okt n m d = true) (hm : m ≤ 40000) : E3 K U M (kB n) (tGo (spBent K n) (tCons (tVar i) (tCons te tNil))) σ (fun e => okt (n + 6) (2 * m + 1500) e = true) := fun c H a hc Q q =>
  ⟨_, hv, h c H a _ fun v H1 ok1 s1 d1 => ⟨U, W, c, v, d, m, o, rfl, ok1, hc, d1, hd, hm, fun v' d' H2 r ok2 s2 d2 => q v' d' H2 r ok2 (s1.trans s2) d2⟩⟩
def spPrevB (K : PySem.W.Frag) : Nat → Sp
  | 0 => fun _ _ _ _ => False
  | n + 1 => spBent K n
def bentW : List PyData := [.str "row", .str "choice", .str "loop", .str "not", .str "is", .str "set", .str "take", .str "mark", .str "pass", .str "drop", .str "Row", .none, .str "a", .str "zz"]
def bentV : List PyData := [.int 0, .int 3, .int (-1), .bool true, .str "1", .tuple [.str "mark"], .tuple [.str "set", .str "a", .int 1], .list [.str "pass"], .tuple [.str "is", .str "a", .int 2], .str "pass", .int (10 ^ 30)]
section
variable {P : Program} {w : World} {K : PySem.W.Frag} {mg : Str → Option Value} {base : Heap}
theorem ok_bent {f : Addr} {fd : FuncData} (n : Nat) (F : Fun K "_law_bent" "_law_bent" s__law_bent f fd) (T : Blt mg) (G__law_take : Def P w K mg base "_law_take" 2 ["state", "size"] spTake) (G__law_pick : Def P w K mg base "_law_pick" 3 ["state", "some"] (spPick K)) (G__law_odd : Def P w K mg base "_law_odd" 4 ["state"] (spOdd K))
    (G__law_bent : Def P w K mg base "_law_bent" (n + 4) ["state", "matter"] (spPrevB K n)) : FnG P w K mg base (n + 5) f fd ["state", "matter"] (spBent K n) := by
  refine fnG F sc__law_bent (fun vs H Q E h => spBent_len h) (fun cdv A outer s H vs Q E hr h => ?_)
  obtain ⟨U, W, c, v, d, m, o, rfl, ok, hc, hv, od, hm, q⟩ := h
  have hu64 := hu64 hr.r
  have hrm : Rm (n + 4) _ := hr
  have a : At U c (U.view H) H := At.here ok
  refine ⟨_, pss_cons (ps_if (PW.pt (pw_or (pt_not (pt_val (pe_callB call_isi (by rfl) T.isinstance (by decide +kernel) (pa_cons (pv 1) (pa_cons (pe_bltn (v := .ty "tuple") (by rfl) T.tuple (by decide +kernel) rfl) pa_nil))))) (pw_or (pt_cmpR (op_eq0 hu64) (pv 1) (pe_tup pa_nil) (nomark _)) (pw_or1 (pt_cmpR op_eq (pe_go G__law_take hrm (pa_cons (pv 0) (pa_cons pe_int pa_nil)) (hj := by omega)) pe_int (nomark _))))))
        (pss_one (ps_ret (pe_go G__law_odd hrm (pa_cons (pv 0) pa_nil) (hj := by omega))))
        pss_nil)
        (pss_cons (ps_set (i := 2) sc__law_bent.nd rfl (.inl rfl) (pe_go G__law_take hrm (pa_cons (pv 0) (pa_cons (pe_callB call_len (by rfl) T.len (by decide +kernel) (pa_cons (pv 1) pa_nil)) pa_nil)) (hj := by omega)))
        (pss_cons (ps_if (PW.pt (pw_and (pt_cmpR op_gt (pv 2) pe_int (nomark _)) (pw_and (pt_val (pe_callB call_isi (by rfl) T.isinstance (by decide +kernel) (pa_cons (pe_ix ix_tup (pv 1) (pv 2) (fun _ _ => rfl)) (pa_cons (pe_bltn (v := .ty "tuple") (by rfl) T.tuple (by decide +kernel) rfl) pa_nil)))) (pw_and1 (pt_cmpR op_gt (pe_go G__law_take hrm (pa_cons (pv 0) (pa_cons pe_int pa_nil)) (hj := by omega)) pe_int (nomark _))))))
        (pss_one (ps_ret (pe_op op_catA (pe_op op_catA (pe_slice sl_tupA (pv 1) po_none (po_some (pv 2))) (pe_tup (pa_cons (pe_go G__law_bent hrm (pa_cons (pv 0) (pa_cons (pe_ix ix_tup (pv 1) (pv 2) (fun _ _ => rfl)) pa_nil)) (hj := by omega)) pa_nil))) (pe_slice sl_tupA (pv 1) (po_some (pe_op op_add (pv 2) pe_int)) po_none))))
        pss_nil)
        (pss_cons (ps_set (i := 3) sc__law_bent.nd rfl (.inl rfl) (pe_go G__law_take hrm (pa_cons (pv 0) (pa_cons pe_int pa_nil)) (hj := by omega)))
        (pss_cons (ps_if (pt_cmpR op_eq (pv 3) pe_int (nomark _))
        (pss_one (ps_ret (pe_op op_catA (pe_slice sl_tupA (pv 1) po_none (po_some (pv 2))) (pe_slice sl_tupA (pv 1) (po_some (pe_op op_add (pv 2) pe_int)) po_none))))
        pss_nil)
        (pss_cons (ps_if (pt_cmpR op_eq (pv 3) pe_int (nomark _))
        (pss_one (ps_ret (pe_op op_catA (pe_op op_catA (pe_slice sl_tupA (pv 1) po_none (po_some (pv 2))) (pe_slice sl_tupA (pv 1) (po_some (pv 2)) (po_some (pe_op op_add (pv 2) pe_int)))) (pe_slice sl_tupA (pv 1) (po_some (pv 2)) po_none))))
        pss_nil)
        (pss_cons (ps_if (pt_cmpR op_eq (pv 3) pe_int (nomark _))
        (pss_one (ps_ret (pe_go G__law_pick hrm (pa_cons (pv 0) (pa_cons (pe_lst (pa_cons (pe_callTy call_list_of (by rfl) T.list (by decide +kernel) (pa_cons (pv 1) pa_nil)) (pa_cons (pe_tup (pa_cons (pv 1) pa_nil)) (pa_cons (pe_op op_catA (pv 1) (pe_tup (pa_cons (pe_tup (pa_cons pe_str pa_nil)) pa_nil))) pa_nil)))) pa_nil)) (hj := by omega))))
        pss_nil)
        (pss_cons (ps_set (i := 4) sc__law_bent.nd rfl (.inl rfl) (pe_lst (pa_cons pe_str (pa_cons pe_str (pa_cons pe_str (pa_cons pe_str (pa_cons pe_str (pa_cons pe_str (pa_cons pe_str (pa_cons pe_str (pa_cons pe_str (pa_cons pe_str (pa_cons pe_str (pa_cons pe_non (pa_cons pe_str (pa_cons pe_str pa_nil))))))))))))))))
        (pss_cons (ps_set (i := 4) sc__law_bent.nd rfl (.inl rfl) (pe_op op_cat (pv 4) (pe_lst (pa_cons pe_int (pa_cons pe_int (pa_cons (pe_un un_neg pe_int) (pa_cons pe_bl (pa_cons pe_str (pa_cons (pe_tup (pa_cons pe_str pa_nil)) (pa_cons (pe_tup (pa_cons pe_str (pa_cons pe_str (pa_cons pe_int pa_nil)))) (pa_cons (pe_lst (pa_cons pe_str pa_nil)) (pa_cons (pe_tup (pa_cons pe_str (pa_cons pe_str (pa_cons pe_int pa_nil)))) (pa_cons pe_str (pa_cons (pe_op op_pow pe_int pe_int) pa_nil))))))))))))))
        (pss_one (ps_ret (pe_op op_catA (pe_op op_catA (pe_slice sl_tupA (pv 1) po_none (po_some (pv 2))) (pe_tup (pa_cons (pe_go G__law_pick hrm (pa_cons (pv 0) (pa_cons (pv 4) pa_nil)) (hj := by omega)) pa_nil))) (pe_slice sl_tupA (pv 1) (po_some (pe_op op_add (pv 2) pe_int)) po_none)))))))))))), ?_⟩
  have hkb : kB n = 3 * n + 6 := rfl
  have odd : ∀ (k : Nat) (H1 : Hp), k ≤ 5 → At U (c + k) (U.view H) H1 → Same (U.view H) (U.view H1) → tRet (tGo (spOdd K) (tCons (tVar 0) tNil)) { nx := fun _ H' => Q .non H', rt := Q } [some (.ref W.d), some v, none, none, none] H1 := fun k H1 hk a1 s1 => by
    refine s3_ret (K := K) (k := 1) (R := fun d => okt 3 200 d = true) a1 (by omega) (e3_god (m := 0) o rfl a1_nil rfl trivial) fun v d H2 r ok2 s2 d2 => q v d H2 (okt_more r (by omega) (by omega)) (U.mono ok2 (by omega)) (s1.trans s2) d2
  cases hs : isTupD d with
  | false =>
    refine s1_if (b := true) a (t1_or (a := true) (t1_not (b := false) (t1_val (e1_isi (e1_var rfl hv) ((kit_tup d).trans (congrArg some hs))))) (b := true) fun z => Bool.noConfusion z) (fun _ H1 a1 s1 => ?_) (fun z => Bool.noConfusion z)
    exact odd 0 H1 (by decide) a1 s1
  | true =>
    obtain ⟨ts, rfl⟩ : ∃ ts, d = .tuple ts := by
      cases d <;> first | exact Bool.noConfusion hs | exact ⟨_, rfl⟩
    obtain ⟨n1, os⟩ := tup_oks od
    cases ts with
    | nil =>
      refine s1_if (b := true) a (t1_or (a := false) (t1_not (b := true) (t1_val (e1_isi (e1_var rfl hv) (kit_tup _)))) (b := true) fun _ => t1_or (a := true) (t1_test (e1_op (e1_var rfl hv) (e1_tup a1_nil (by decide)) r1_eq0T)) (b := true) fun z => Bool.noConfusion z) (fun _ H1 a1 s1 => ?_) (fun z => Bool.noConfusion z)
      exact odd 0 H1 (by decide) a1 s1
    | cons x xs =>
      generalize hts : x :: xs = ts at hv od os hs
      have ne : ts.isEmpty = false := by rw [← hts]; rfl
      have lt : 0 < ts.length := by rw [← hts]; exact Nat.succ_pos _
      have ll : ts.length ≤ 40000 := Nat.le_trans (len_weight ts) (Nat.le_trans os.2.2.2.1 hm)
      refine s3_if (k := 1) a (by omega) (t3_or (b := false) (t1_not (b := true) (t1_val (e1_isi (e1_var rfl hv) (kit_tup _)))) (t3_or (b := false) (t1_test (E1.is (e1_op (e1_var rfl hv) (e1_tup a1_nil (by decide)) r1_eq0T) (congrArg PyData.bool ne))) (t3_test (K := K) (E3.weak (e3_op1 (f := fun d => match d with | .int i => .bool (decide (i = 0)) | _ => .none) (e3_take (z := 8) o rfl e1_int (by decide) (by decide)) e1_int ?p1) ?p2)))) (fun H1 a1 s1 => ?_) (fun H1 a1 s1 => ?_)
      case p1 =>
        rintro d ⟨j, rfl, _⟩
        exact r1_eqI
      case p2 =>
        rintro d ⟨e, ⟨j, rfl, _⟩, rfl⟩
        exact ⟨_, rfl⟩
      · exact odd 1 H1 (by decide) a1 s1
      refine s3_asg (K := K) (k := 1) a1 (by omega) (e3_take (z := ts.length) o rfl (e1_len (e1_var rfl hv) rfl (by omega)) (by omega) (by omega)) fun v2 d2 H2 r2 a2 s2 e2 => ?_
      obtain ⟨j0, rfl, g0, g1⟩ := r2
      obtain ⟨j, rfl⟩ : ∃ j : Nat, j0 = j := ⟨j0.toNat, by omega⟩
      cases e2
      have hj : j < ts.length := by omega
      obtain ⟨p, hp, hsp, hdr⟩ := split_at hj
      have os2 := os
      rw [hsp] at os2
      obtain ⟨oA, oPB, wAB⟩ := app_oks os2
      obtain ⟨op, oB, wPB⟩ := cons_oks oPB
      have lA := len_weight (ts.take j)
      have lB := len_weight (ts.drop (j + 1))
      have hv2 := (hv.same s1).same s2
      have t12 := s1.trans s2
      have nj : (j : Int) + 1 = ((j + 1 : Nat) : Int) := by omega
      have eA : ∀ {σ : L2.St}, σ[1]? = some (some v) → σ[2]? = some (some (.int (j : Int))) → E1 K U (U.view H2) (tSl (rSlA K) (tVar 1) tNoPart (tPart (tVar 2))) σ (.tuple (ts.take j)) := fun h1 h2 => E1.is (e1_slA (e1_var h1 hv2) po_non (po_var h2)) (congrArg PyData.tuple (cutA (by omega)))
      have eB : ∀ {σ : L2.St}, σ[1]? = some (some v) → σ[2]? = some (some (.int (j : Int))) → E1 K U (U.view H2) (tSl (rSlA K) (tVar 1) (tPart (tOp (rI0 fun i j => .int (i + j)) (tVar 2) (tC (.int 1)))) tNoPart) σ (.tuple (ts.drop (j + 1))) := fun h1 h2 => E1.is (e1_slA (e1_var h1 hv2) (po_next h2) po_non) (congrArg PyData.tuple (by rw [nj]; exact cutB (by omega)))
      have eP : ∀ {σ : L2.St}, σ[1]? = some (some v) → σ[2]? = some (some (.int (j : Int))) → E1 K U (U.view H2) (tOp (rIxT K) (tVar 1) (tVar 2)) σ p := fun h1 h2 => e1_op (d2 := .int (j : Int)) (e1_var h1 hv2) (e1_var h2 (.int _)) (r1_ixT hp)
      obtain ⟨n', rfl⟩ : ∃ n', n = n' + 1 := ⟨n - 1, by omega⟩
      have hkb' : kB n' = 3 * n' + 6 := rfl
      refine s4_if (k := 1) a2 (by omega) (t4_and (b := decide ((0 : Int) < j)) (t1_test (e1_op (K := K) (d1 := .int (j : Int)) (e1_var rfl (.int _)) e1_int r1_cmp)) fun _ => t4_and (b := isTupD p) (t1_val (e1_isi (eP rfl rfl) (kit_tup p))) fun _ => T3.t4 (t3_test (K := K) (E3.weak (e3_op1 (f := fun d => match d with | .int i => .bool (decide (0 < i)) | _ => .none) (e3_take (z := 3) o rfl e1_int (by decide) (by decide)) e1_int ?p3) ?p4))) (fun g H3 a3 s3 => ?_) (fun H3 a3 s3 => ?_)
      case p3 =>
        rintro d ⟨j, rfl, _⟩
        exact r1_cmp
      case p4 =>
        rintro d ⟨e, ⟨j, rfl, _⟩, rfl⟩
        exact ⟨_, rfl⟩
      · refine s3_ret (K := K) (k := kB n') (R := fun d => okt (n' + 1 + 6) (2 * m + 1500) d = true) a3 (by omega) (E3.weak (e3_mid (eA rfl rfl) (e3_bent o rfl (eP rfl rfl) op (by omega)) (eB rfl rfl) (by omega)) ?p5) fun v d H4 r ok4 s4 d4 => q v d H4 r (U.mono ok4 (by omega)) ((t12.trans s3).trans s4) d4
        rintro d ⟨e, he, rfl⟩
        exact okt_more (oks_tup (oks_app (oks_app (oks_more oA (k' := n' + 6) (by omega) (Nat.le_refl _)) (oks_cons he (oks_nil (m := 0)) (Nat.le_refl _))) (oks_more oB (k' := n' + 6) (by omega) (Nat.le_refl _)))) (by omega) (by omega)
      refine s3_asg (K := K) (k := 1) a3 (by omega) (e3_take (z := 5) o rfl e1_int (by decide) (by decide)) fun v3 d3 H4 r4 a4 s4 e4 => ?_
      obtain ⟨z, rfl, z0, z1⟩ := r4
      cases e4
      have t34 := s3.trans s4
      have up : ∀ {te : TE} {σ : L2.St} {d : PyData}, E1 K U (U.view H2) te σ d → E1 K U (U.view H4) te σ d := fun h => E1.mono h t34
      refine s1_if (b := decide (z = 0)) a4 (t1_test (e1_op (K := K) (d1 := .int z) (e1_var rfl (.int _)) e1_int r1_eqI)) (fun _ H5 a5 s5 => ?_) (fun _ H5 a5 s5 => ?_)
      · refine s3_ret (K := K) (k := 0) (R := fun d => okt (n' + 1 + 6) (2 * m + 1500) d = true) a5 (by omega) (E1.e3 (e1_op (up (eA rfl rfl)) (up (eB rfl rfl)) (r1_catA (by omega))) ?p6) fun v d H6 r ok6 s6 d6 => q v d H6 r (U.mono ok6 (by omega)) (((t12.trans t34).trans s5).trans s6) d6
        exact okt_more (oks_tup (oks_app oA oB)) (by omega) (by omega)
      have zz : (ts.take j ++ [p]).length + (ts.drop j).length ≤ 100000 := by
        rw [hdr, List.length_append, List.length_cons]
        show (ts.take j).length + 1 + ((ts.drop (j + 1)).length + 1) ≤ 100000
        omega
      refine s1_if (b := decide (z = 1)) a5 (t1_test (e1_op (K := K) (d1 := .int z) (e1_var rfl (.int _)) e1_int r1_eqI)) (fun _ H6 a6 s6 => ?_) (fun _ H6 a6 s6 => ?_)
      · refine s3_ret (K := K) (k := 0) (R := fun d => okt (n' + 1 + 6) (2 * m + 1500) d = true) a6 (by omega) (E1.e3 (e1_op (e1_op (up (eA rfl rfl)) (E1.is (e1_slA (e1_var rfl (hv2.same t34)) (po_var rfl) (po_next rfl)) (d := .tuple _) (e := .tuple [p]) (congrArg PyData.tuple ?p7)) (r1_catA (by simp only [List.length_singleton]; omega))) (E1.is (e1_slA (e1_var rfl (hv2.same t34)) (po_var rfl) po_non) (congrArg PyData.tuple (cutB (by omega)))) (r1_catA zz)) ?p8) fun v d H7 r ok7 s7 d7 => q v d H7 r (U.mono ok7 (by omega)) ((((t12.trans t34).trans s5).trans s6).trans s7) d7
        case p7 =>
          rw [nj, cutC (by omega), hdr]
          rfl
        case p8 =>
          rw [hdr]
          exact okt_more (oks_tup (oks_app (oks_app oA (oks_cons op (oks_nil (m := 0)) (Nat.le_refl _))) (oks_cons op oB (Nat.le_refl _)))) (by omega) (by omega)
      have os6 : okt (n' + 1) m (.list ts) = true := oks_lst (oks_more os (by omega) (Nat.le_refl _))
      have pw : okt 1 5 (.tuple [.str "pass"]) = true := by decide +kernel
      refine s1_if (b := decide (z = 2)) a6 (t1_test (e1_op (K := K) (d1 := .int z) (e1_var rfl (.int _)) e1_int r1_eqI)) (fun _ H7 a7 s7 => ?_) (fun _ H7 a7 s7 => ?_)
      · have lists : ∀ {σ : L2.St}, σ[1]? = some (some v) → E1 K U (U.view H4) (tCB (fun xs H Q => ∃ p ys, xs = [.ref p] ∧ (SqL K H p ys ∨ SqT K H p ys) ∧ ∀ l, H l = none → Q (.ref l) (upd H l (.lst ys))) (tCons (tVar 1) tNil)) σ (.list ts) := fun h n H a Q q => (e1_var h (hv2.same t34)) n H a _ fun x H1 ok1 s1 d1 => by
          cases d1 with
          | tup hq ha =>
            refine ⟨_, _, rfl, .inr (seqT (U.le _) hq), fun l nl => ?_⟩
            obtain ⟨ok2, s2, f2, _⟩ := U.new (o := .lst _) ok1 nl rfl
            exact q _ _ ok2 (s1.trans s2) (.lst f2 (ha.same s2))
        refine s3_ret (K := K) (k := 1) (R := fun d => okt (n' + 1 + 6) (2 * m + 1500) d = true) a7 (by omega) (e3_pick (k := 0) o rfl (E1.e3 (e1_lst (a1_cons (lists rfl) (a1_cons (e1_tup (a1_cons (up (e1_var rfl hv2)) a1_nil) (show 1 ≤ 100000 by decide)) (a1_cons (e1_op (up (e1_var rfl hv2)) (e1_tup (a1_cons (e1_tup (a1_cons e1_str a1_nil) (show 1 ≤ 100000 by decide)) a1_nil) (show 1 ≤ 100000 by decide)) (r1_catA (by show ts.length + 1 ≤ 100000; omega))) a1_nil))) (show 3 ≤ 100000 by decide)) ⟨_, .inl rfl, List.cons_ne_nil _ _, (show 3 ≤ 100000 by decide), fun e he => ?p9⟩)) fun v d H8 r ok8 s8 d8 => q v d H8 r (U.mono ok8 (by omega)) (((((t12.trans t34).trans s5).trans s6).trans s7).trans s8) d8
        simp only [List.mem_cons, List.not_mem_nil, or_false] at he
        rcases he with rfl | rfl | rfl
        · exact okt_more os6 (by omega) (by omega)
        · exact okt_more (oks_tup (oks_cons od (oks_nil (m := 0)) (Nat.le_refl _))) (by omega) (by omega)
        · exact okt_more (oks_tup (oks_app (oks_more os (k' := n' + 1) (by omega) (Nat.le_refl _)) (oks_cons (okt_more pw (k' := n' + 1) (by omega) (Nat.le_refl _)) (oks_nil (m := 0)) (Nat.le_refl _)))) (by omega) (by omega)
      refine rd_next ?_
      dsimp only
      refine rd_seq ?_
      refine s1_asg (K := K) (d := .list bentW) a7 (by unfold bentW; walk_at "e1c") fun v5 H8 a8 s8 e8 => ?_
      refine s1_asg (K := K) (d := .list (bentW ++ bentV)) a8 (e1_op (e1_var rfl e8) (d2 := .list bentV) ?p10 (r1_cat (by decide))) fun v6 H9 a9 s9 e9 => ?_
      case p10 =>
        unfold bentV
        refine e1_lst ?_ (by decide)
        refine a1_cons (by walk_at "e1c") (a1_cons (by walk_at "e1c") (a1_cons (by walk_at "e1c") (a1_cons (by walk_at "e1c") (a1_cons (by walk_at "e1c") (a1_cons (by walk_at "e1c") (a1_cons (by walk_at "e1c") (a1_cons (by walk_at "e1c") (a1_cons (by walk_at "e1c") (a1_cons (by walk_at "e1c") (a1_cons ?_ a1_nil))))))))))
        exact powC ⟨by decide, by decide, by decide⟩
      have t9 := (((t34.trans s5).trans s6).trans s7).trans (s8.trans s9)
      have up9 : ∀ {te : TE} {σ : L2.St} {d : PyData}, E1 K U (U.view H2) te σ d → E1 K U (U.view H9) te σ d := fun h => E1.mono h t9
      refine s3_ret (K := K) (k := 1) (R := fun d => okt (n' + 1 + 6) (2 * m + 1500) d = true) a9 (by omega) (E3.weak (e3_mid (R := fun d => okt 1 100 d = true) (up9 (eA rfl rfl)) (e3_pick (k := 0) o rfl (E1.e3 (e1_var rfl e9) ⟨_, .inl rfl, by decide, by decide, List.all_eq_true.mp (by decide +kernel)⟩)) (up9 (eB rfl rfl)) (by omega)) ?p11) fun v d H10 r ok10 s10 d10 => q v d H10 r (U.mono ok10 (by omega)) ((t12.trans t9).trans s10) d10
      rintro d ⟨e, he, rfl⟩
      exact okt_more (oks_tup (oks_app (oks_app (oks_more oA (k' := n' + 6) (by omega) (Nat.le_refl _)) (oks_cons (okt_more he (k' := n' + 6) (by omega) (Nat.le_refl _)) (oks_nil (m := 0)) (Nat.le_refl _))) (oks_more oB (k' := n' + 6) (by omega) (Nat.le_refl _)))) (by omega) (by omega)
end
end Mw
namespace Mw
open PySem PySem.Spec PyProof.Rows L2
local macro_rules | `(tactic| walk_at "e1c") => `(tactic| repeat' (first | exact e1_int | exact e1_str | exact e1_bl | exact e1_non | exact a1_nil | refine a1_cons ?_ ?_ | exact e1_dis0 | exact e1_dis1 | refine e1_tup ?_ (by decide) | refine e1_lst ?_ (by decide) | exact e1_neg e1_int))
section
variable {K : PySem.W.Frag} {U : Wo} {W : Wd} {M : Hp} {σ : L2.St} {n k k1 k2 m : Nat} {te ta tb : TE} {t : TA} {tt : TT} {R : PyData → Prop} {H : Hp}
theorem dis3_raw {x1 x2 x3 : Str} {t1 t2 t3 : TE} {d1 d2 d3 : PyData} (a : At U n M H) (n1 : (x1 == x2) = false) (n2 : (x1 == x3) = false) (n3 : (x2 == x3) = false)
    (h1 : ∀ (U' : Wo) M', Same M M' → E1 K U' M' t1 σ d1) (h2 : ∀ (U' : Wo) M', Same M M' → E1 K U' M' t2 σ d2) (h3 : ∀ (U' : Wo) M', Same M M' → E1 K U' M' t3 σ d3) {Q : VK}
    (q : ∀ p v1 v2 v3 H', H p = none → U.ok n H' → Same (U.view H) (U.view H') → U.view H' p = some (.dK [(.inr x1, v1), (.inr x2, v2), (.inr x3, v3)]) → Dd K (hideV p (U.view H')) v1 d1 → Dd K (hideV p (U.view H')) v2 d2 → Dd K (hideV p (U.view H')) v3 d3 → Q (.ref p) H') :
    tDisp [(tC (.str x1), t1), (tC (.str x2), t2), (tC (.str x3), t3)] σ H Q := fun p np => by
  have off : Same (U.view H) (hideV p (U.view (upd H p (.dK [])))) := fun b o e => by
    obtain ⟨_, s2, _, _⟩ := U.new (o := .dK []) a.ok np rfl
    refine hide_at (s2 _ _ e) (fun z => ?_)
    rw [z] at e
    rw [U.le _ _ _ e] at np
    cases np
  obtain ⟨ok2, s2, f2, _⟩ := U.new (o := .dK []) a.ok np rfl
  have a2 : At (U.hide p (.dK [])) n (U.view H) (upd H p (.dK [])) := ⟨⟨ok2, f2⟩, off⟩
  refine h1 (U.hide p (.dK [])) (U.view H) a.up n _ a2 _ fun v1 H1 ok3 s3 e1 => ?_
  refine h2 (U.hide p (.dK [])) (U.view H) a.up n _ (a2.step ok3 s3) _ fun v2 H4 ok4 s4 e2 => ?_
  refine h3 (U.hide p (.dK [])) (U.view H) a.up n _ ((a2.step ok3 s3).step ok4 s4) _ fun v3 H5 ok5 s5 e3 => ?_
  refine ⟨U.le _ _ _ ok5.2, [(.inr x1, v1), (.inr x2, v2), (.inr x3, v3)], rfl, (show 3 ≤ 15 by decide), ?_⟩
  have mm : mergeK [] [((.inr x1 : Key), v1), (.inr x2, v2), (.inr x3, v3)] = [(.inr x1, v1), (.inr x2, v2), (.inr x3, v3)] := by
    have k1 : (Sum.inr x1 : Key) ≠ .inr x2 := fun z => by
      rw [Sum.inr.inj z] at n1
      simp at n1
    have k2 : (Sum.inr x1 : Key) ≠ .inr x3 := fun z => by
      rw [Sum.inr.inj z] at n2
      simp at n2
    have k3 : (Sum.inr x2 : Key) ≠ .inr x3 := fun z => by
      rw [Sum.inr.inj z] at n3
      simp at n3
    simp [mergeK, putK, k1, k2, k3]
  rw [mm]
  obtain ⟨ok6, f6, o6⟩ := U.own (o := .dK [((.inr x1 : Key), v1), (.inr x2, v2), (.inr x3, v3)]) ok5.1 ok5.2 rfl
  have k6 : Same (hideV p (U.view H5)) (hideV p (U.view (upd H5 p (.dK [((.inr x1 : Key), v1), (.inr x2, v2), (.inr x3, v3)])))) := fun b u e => hide_at (o6 b u (hide_of e).1 (hide_of e).2) (hide_of e).1
  exact q p v1 v2 v3 _ np ok6 (off.trans ((s3.trans (s4.trans s5)).trans (k6.trans (hide_le _ _)))) f6 ((e1.same (s4.trans s5)).same k6) ((e2.same s5).same k6) (e3.same k6)
theorem e3_if (h : T3 U M k1 tt σ) (h1 : E3 K U M k2 ta σ R) (h2 : E3 K U M k2 tb σ R) : E3 K U M (k1 + k2) (tIf tt ta tb) σ R := fun n H a hn Q q => h n H a (by omega) _ fun b H1 ok1 s1 => by
  have q2 : ∀ v d H', R d → U.ok (n + k1 + k2) H' → Same (U.view H1) (U.view H') → Dd K (U.view H') v d → Q v H' := fun v d H' r ok s dd => q v d H' r (by rw [← Nat.add_assoc]; exact ok) (s1.trans s) dd
  cases b with
  | true => exact iteT (h1 _ H1 ⟨ok1, a.up.trans s1⟩ (by omega) Q q2)
  | false => exact iteF (h2 _ H1 ⟨ok1, a.up.trans s1⟩ (by omega) Q q2)
theorem a3_one (h : E3 K U M k te σ R) : A3 K U M k (tCons te tNil) σ (fun ds => ∃ e, ds = [e] ∧ R e) := fun n H a hn Q q => h n H a hn _ fun v d H1 r ok1 s1 d1 => q [v] [d] H1 ⟨d, rfl, r⟩ ok1 s1 (.cons d1 .nil)
theorem e3_goA {pre : List PyData → Prop} {P : List PyData → Prop} {i : Nat} (o : Of U W) (hv : σ[i]? = some (some (.ref W.d))) (h : A3 K U M k1 t σ P) (hp : ∀ ds, P ds → ds.length = m ∧ pre ds) : E3 K U M (k1 + k) (tGo (spD K m k pre fun _ d => R d) (tCons (tVar i) t)) σ R := fun n H a hn Q q =>
  ⟨_, hv, h n H a (by omega) _ fun vs ds H1 r ok1 s1 d1 => ⟨U, W, n + k1, vs, ds, o, rfl, ok1, by omega, d1, (hp ds r).1, (hp ds r).2, fun v d H2 r ok2 s2 d2 => q v d H2 r (by rw [← Nat.add_assoc]; exact ok2) (s1.trans s2) d2⟩⟩
end
theorem perm_map {α : Type} {f : α → PyData} {es ms : List PyData} (h : es.Perm ms) : ∀ {l : List α}, ms = l.map f → ∃ l' : List α, l'.Perm l ∧ es = l'.map f := by
  induction h with
  | nil => exact fun {l} e => ⟨l, List.Perm.refl _, e⟩
  | cons x p ih =>
    intro l e
    cases l with
    | nil => cases e
    | cons y l =>
      rw [List.map_cons] at e
      obtain ⟨e1, e2⟩ := List.cons.inj e
      obtain ⟨l', p', e'⟩ := ih e2
      exact ⟨y :: l', p'.cons _, by rw [List.map_cons, e1, e']⟩
  | swap x y l0 =>
    intro l e
    cases l with
    | nil => cases e
    | cons a l =>
      rw [List.map_cons] at e
      obtain ⟨e1, e2⟩ := List.cons.inj e
      cases l with
      | nil => cases e2
      | cons b l =>
        rw [List.map_cons] at e2
        obtain ⟨e3, e4⟩ := List.cons.inj e2
        exact ⟨b :: a :: l, List.Perm.swap _ _ _, by rw [List.map_cons, List.map_cons, e1, e3, e4]⟩
  | trans p1 p2 ih1 ih2 =>
    intro l e
    obtain ⟨l1, q1, e1⟩ := ih2 e
    obtain ⟨l2, q2, e2⟩ := ih1 e1
    exact ⟨l2, q2.trans q1, e2⟩
theorem cut_to {ds : List PyData} {j : Int} (h : 0 ≤ j) : cutD ds none (some j) = ds.take j.toNat := by
  obtain ⟨k, rfl⟩ : ∃ k : Nat, j = k := ⟨j.toNat, by omega⟩
  unfold cutD
  rw [HT.sIx_none, HT.sIx_nat, Int.toNat_natCast, Nat.sub_zero, List.drop_zero]
  by_cases h : k ≤ ds.length
  · rw [Nat.min_eq_left h]
  · rw [Nat.min_eq_right (by omega), List.take_of_length_le (Nat.le_refl _), List.take_of_length_le (by omega)]
section
variable {K : PySem.W.Frag}
/-- the first so many, drawn -/
theorem e3_slTo {U : Wo} {M : Hp} {σ : L2.St} {te ta : TE} {k1 k2 : Nat} {Pe : List PyData → Prop} {Pj : Int → Prop} (h : E3 K U M k1 te σ (fun d => ∃ es, d = .list es ∧ Pe es)) (hj : E3 K U M k2 ta σ (fun d => ∃ j, d = .int j ∧ Pj j)) (j0 : ∀ j, Pj j → 0 ≤ j) :
    E3 K U M (k1 + k2) (tSl (rSlL K) te tNoPart (tPart ta)) σ (fun d => ∃ es j, Pe es ∧ Pj j ∧ d = .list (es.take j.toNat)) := fun n H a hn Q q => h n H a (by omega) _ fun v d H1 r1 ok1 s1 d1 => by
  obtain ⟨es, rfl, pe⟩ := r1
  refine hj (n + k1) H1 ⟨ok1, a.up.trans s1⟩ (by omega) _ fun u e H2 r2 ok2 s2 d2 => ?_
  obtain ⟨j, rfl, pj⟩ := r2
  cases d2
  cases d1 with
  | lst hq ha =>
    refine ⟨j, rfl, _, _, rfl, .inl (.inl (U.le _ _ _ (s2 _ _ hq))), fun p np => ?_⟩
    obtain ⟨ok3, s3, f3, _⟩ := U.new ok2 np rfl
    refine q _ _ _ ⟨es, j, pe, pj, rfl⟩ (by rw [← Nat.add_assoc]; exact ok3) ((s1.trans s2).trans s3) (.lst f3 ?_)
    rw [← cut_to (j0 j pj)]
    exact ((ha.cut none (some j)).same s2).same s3
theorem e3_sortedE {U : Wo} {M : Hp} {σ : L2.St} {te : TE} {k : Nat} {Px : List Str → Prop} (h : E3 K U M k te σ (fun d => ∃ xs : List Str, d = .list (xs.map .str) ∧ Px xs)) (hl : ∀ xs, Px xs → xs.length < 64) :
    E3 K U M k (tCB (rSortedB K) (tCons te tNil)) σ (fun e => ∃ xs ys : List Str, Px xs ∧ ys.Perm xs ∧ e = .list (ys.map .str)) := fun n H a hn Q q => h n H a hn _ fun v d H1 r ok1 s1 d1 => by
  obtain ⟨xs, rfl, px⟩ := r
  have e0 : xs.map PyData.str = (xs.map (Sum.inr : Str → Key)).map keyD := by rw [List.map_map] <;> rfl
  have sh : ∀ (ys : List Str) (H : Hp), DdAll K H (ys.map V.str) (ys.map PyData.str) := fun ys H => by
    induction ys with
    | nil => exact .nil
    | cons y ys ih => exact .cons (.str y) ih
  cases d1 with
  | lst hq ha =>
    rw [e0] at ha
    have e1 := key_vals ha
    rw [List.map_map] at e1
    subst e1
    refine ⟨_, xs, rfl, .inl (.inl (.inl (U.le _ _ _ hq))), hl xs px, fun ys p hp np => ?_⟩
    obtain ⟨ok2, s2, f2, _⟩ := U.new (o := .lst (ys.map V.str)) ok1 np rfl
    exact q _ _ _ ⟨xs, ys, px, hp, rfl⟩ ok2 (s1.trans s2) (.lst f2 (sh ys _))
end
section
variable {P : Program} {w : World} {K : PySem.W.Frag} {mg : Str → Option Value} {base : Heap}
def spFrame5 (K : PySem.W.Frag) : Sp := fun vs H Q _ => ∃ (U : Wo) (W : Wd) (n : Nat) (v : V) (u : Int), Of U W ∧ vs = [.ref W.d, v] ∧ U.ok n H ∧ n + 20 ≤ most ∧ Dd K (U.view H) v (.int u) ∧ 1 ≤ u ∧ u ≤ 3 ∧
  ∀ (F tf ln : Addr) (xs : List Str) (ns : List Int) H', FrOk xs ns → U.view H F = none → U.ok (n + 20) H' → Same (U.view H) (U.view H') → U.view H' F = some (.dK (frameK tf ln 0)) → Dd K (hideV F (U.view H')) (.ref tf) (.tuple (xs.map .str)) → Dd K (hideV F (U.view H')) (.ref ln) (.list (ns.map .int)) → Q (.ref F) H'
theorem spFrame5_len {vs : List V} {H : Hp} {Q : VK} {E : XK} (h : spFrame5 K vs H Q E) : vs.length = 2 := by
  obtain ⟨U, W, n, v, u, _, rfl, _⟩ := h
  rfl
theorem ok_frame {f : Addr} {fd : FuncData} (F : Fun K "_law_frame" "_law_frame" s__law_frame f fd) (T : Blt mg) (G__law_take : Def P w K mg base "_law_take" 2 ["state", "size"] spTake) (G__law_shuffled : Def P w K mg base "_law_shuffled" 3 ["state", "some"] (spShuf K)) :
    FnG P w K mg base 4 f fd ["state", "upto"] (spFrame5 K) := by
  refine fnG F sc__law_frame (fun vs H Q E h => spFrame5_len h) (fun cdv A outer s H vs Q E hr h => ?_)
  obtain ⟨U, W, n, v, u, o, rfl, ok, hn, hv, u1, u3, q⟩ := h
  have a : At U n (U.view H) H := At.here ok
  refine ⟨_, pss_cons (ps_set (i := 2) sc__law_frame.nd rfl (.inl rfl) (pe_lst (pa_cons pe_str (pa_cons pe_str (pa_cons pe_str (pa_cons pe_str (pa_cons pe_str (pa_cons pe_str (pa_cons pe_str (pa_cons pe_str (pa_cons pe_str (pa_cons pe_str (pa_cons pe_str (pa_cons pe_str pa_nil))))))))))))))
        (pss_cons (ps_set (i := 3) sc__law_frame.nd rfl (.inl rfl) (pe_callB cr_sortedB (by rfl) T.sorted (by decide +kernel) (pa_cons (pe_slice sl_list (pe_go G__law_shuffled hr (pa_cons (pv 0) (pa_cons (pv 2) pa_nil))) po_none (po_some (pe_op op_add pe_int (pe_go G__law_take hr (pa_cons (pv 0) (pa_cons (pv 1) pa_nil)))))) pa_nil)))
        (pss_cons (ps_set (i := 4) sc__law_frame.nd rfl (.inl rfl) (pe_slice sl_list (pe_go G__law_shuffled hr (pa_cons (pv 0) (pa_cons (pe_lst (pa_cons pe_int (pa_cons pe_int (pa_cons pe_int (pa_cons pe_int (pa_cons pe_int (pa_cons (pe_op op_pow pe_int pe_int) pa_nil))))))) pa_nil))) po_none (po_some (pe_op op_add pe_int (pe_go G__law_take hr (pa_cons (pv 0) (pa_cons pe_int pa_nil)))))))
        (pss_one (ps_ret (pe_disp (pps_cons pe_str (pe_callTy call_tuple_of (by rfl) T.tuple (by decide +kernel) (pa_cons (pv 3) pa_nil)) (pps_cons pe_str (pv 4) (pps_cons pe_str pe_int pps_nil))) (by rfl) (by rfl) (fun z => by cases z) (by decide)))))), ?_⟩
  refine s1_asg (K := K) (d := .list (frameS.map .str)) a (by unfold frameS; walk_at "e1c") fun v1 H1 a1 s1 d1 => ?_
  have hv1 := hv.same s1
  have addC : ∀ {U : Wo} {M : Hp} {σ : L2.St} {te : TE} {z : Int}, E3 K U M 1 te σ (fun d => ∃ j : Int, d = .int j ∧ 0 ≤ j ∧ j < z) → E3 K U M 1 (tOp (rI0 fun i j => .int (i + j)) (tC (.int 1)) te) σ (fun d => ∃ j : Int, d = .int j ∧ 1 ≤ j ∧ j ≤ z) := fun {U M σ te z} h => by
    refine E3.weak (e3_op2 (f := fun d => match d with | .int i => .int (1 + i) | _ => .none) e1_int h (fun d ⟨j, e, _⟩ => ?_)) (fun d ⟨e, ⟨j, e1, j0, j1⟩, e2⟩ => ?_)
    · subst e
      exact r1_int
    · subst e1
      exact ⟨1 + j, e2, by omega, by omega⟩
  refine s3_asg (k := 12 + 1) a1 (by omega) (e3_sortedE (Px := fun xs => 1 ≤ xs.length ∧ xs.length ≤ 3 ∧ xs.Nodup ∧ ∀ x ∈ xs, x ∈ frameS) (E3.weak (e3_slTo (e3_shuf o rfl (e1_var rfl d1) (.inl rfl) (by decide) (by decide +kernel)) (addC (e3_take o rfl (e1_var rfl hv1) (by omega) (by omega))) (fun j pj => by omega)) ?g1) (fun xs px => by omega)) fun v2 d2 H2 r2 a2 s2 e2 => ?_
  case g1 =>
    rintro d ⟨es, j, pe, ⟨j1, j2⟩, rfl⟩
    obtain ⟨xs, px, rfl⟩ := perm_map pe rfl
    have hl : xs.length = 12 := px.length_eq
    have nd : xs.Nodup := px.nodup_iff.mpr (by decide +kernel)
    refine ⟨xs.take j.toNat, by rw [List.map_take], ?_, ?_, nd.sublist (List.take_sublist _ _), fun x hx => px.mem_iff.mp (List.mem_of_mem_take hx)⟩
    · rw [List.length_take]
      omega
    · rw [List.length_take]
      omega
  obtain ⟨xs, ys, ⟨x1, x3, xn, xm⟩, hp, rfl⟩ := r2
  refine s3_asg (k := 6 + 1) (R := fun d => ∃ ns : List Int, d = .list (ns.map .int) ∧ ns ≠ [] ∧ ns.length ≤ 6 ∧ ∀ n ∈ ns, n.natAbs ≤ 10 ^ 12) a2 (by omega) (E3.weak (e3_slTo (e3_shuf (ds := ([0, 1, 2, 3, 7, 10 ^ 12] : List Int).map .int) o rfl (e1_lst (a1_cons e1_int (a1_cons e1_int (a1_cons e1_int (a1_cons e1_int (a1_cons e1_int (a1_cons (E1.is (powC ⟨by decide, by decide, by decide⟩) (congrArg PyData.int (by decide +kernel))) a1_nil)))))) (by decide)) (.inl rfl) (by decide) (by decide +kernel)) (addC (z := 3) (e3_take o rfl e1_int (by decide) (by decide))) (fun j pj => by omega)) ?g2) fun v3 d3 H3 r3 a3 s3 e3 => ?_
  case g2 =>
    rintro d ⟨es, j, pe, ⟨j1, j2⟩, rfl⟩
    obtain ⟨ns, pn, rfl⟩ := perm_map (l := ([0, 1, 2, 3, 7, 10 ^ 12] : List Int)) pe rfl
    have hl : ns.length = 6 := pn.length_eq
    refine ⟨ns.take j.toNat, by rw [List.map_take], fun z => ?_, by rw [List.length_take]; omega, fun x hx => ?_⟩
    · have := congrArg List.length z
      rw [List.length_take, hl] at this
      have : min j.toNat 6 = 0 := this
      omega
    · have h6 : ∀ x ∈ ([0, 1, 2, 3, 7, 10 ^ 12] : List Int), x.natAbs ≤ 10 ^ 12 := by decide +kernel
      exact h6 x (pn.mem_iff.mp (List.mem_of_mem_take hx))
  obtain ⟨ns, rfl, n1, n6, nm⟩ := r3
  refine dis3_raw a3 (by decide) (by decide) (by decide) (fun U' M' e => e1_tuple (e1_var rfl ((e2.same s3).same e)) (.inl rfl)) (fun U' M' e => e1_var rfl (e3.same e)) (fun U' M' e => e1_int) fun p w1 w2 w3 H4 np ok4 s4 f4 g1 g2 g3 => ?_
  cases g3
  cases g1 with
  | tup hq1 ha1 =>
    cases g2 with
    | lst hq2 ha2 =>
      have pn : U.view H p = none := by
        cases e : U.view H p with
        | none => rfl
        | some x =>
          rw [U.le _ _ _ (((s1.trans s2).trans s3) _ _ e)] at np
          cases np
      exact q p _ _ ys ns H4 ⟨by rw [hp.length_eq]; exact x1, by rw [hp.length_eq]; exact x3, fun x hx => xm x (hp.mem_iff.mp hx), n1, n6, nm⟩ pn ok4 (((s1.trans s2).trans s3).trans s4) f4 (.tup hq1 ha1) (.lst hq2 ha2)
@[irreducible] def tree12 (bare : Bool) (d : PyData) : Bool := treeD 12 bare d
theorem tree12_eq {bare : Bool} {d : PyData} : treeD 12 bare d = tree12 bare d := by
  unfold tree12
  rfl
abbrev spTreeJ (K : PySem.W.Frag) (bare : Bool) : Sp := spF K 1 (fun ds => ds.all fineD = true) (f1 fun d => .bool (tree12 bare d))
theorem ok_is_tree {f : Addr} {fd : FuncData} (F : Fun K "is_tree" "is_tree" s_is_tree f fd) (C : TupC K mg "TREE_WORDS" treeW) (L : ∃ t, mg "MOST_LEVELS" = some (.int 12 t)) (G_made : Def P w K mg base "is_made_of" 15 ["thing", "words", "levels"] (spMade K 12)) : FnG P w K mg base 16 f fd ["thing"] (spTreeJ K false) := by
  refine fnG F sc_is_tree (fun vs H Q E h => spF_len h) (fun cdv A outer s H vs Q E hr h => ?_)
  obtain ⟨U, n, ds, a, hd, hl, hp, q⟩ := spF_go h
  obtain ⟨d, rfl⟩ := pick1 hl
  obtain ⟨v, rfl, hv⟩ := dd1 hd
  obtain ⟨b, o, its, k, gb, kb, ob, od, oz, ov⟩ := C
  obtain ⟨tl, gl⟩ := L
  have hb : ∀ H, Dd K H (.ref b) (.tuple (treeW.map .str)) := fun H => tupC_dd kb ob od oz ov
  refine ⟨_, pss_one (ps_ret (pe_go G_made hr (pa_cons (pv 0) (pa_cons (pe_glob (v := .ref b) rfl gb rfl) (pa_cons (pe_glob (v := .int 12) rfl gl ⟨_, rfl⟩) pa_nil))))), ?_⟩
  refine s1_ret (d := .bool (tree12 false d)) a (E1.is (e1_made (bare := false) (a1_cons (e1_var rfl hv) (a1_cons (e1_kt hb) (a1_cons e1_int a1_nil))) (by simpa using hp)) (congrArg PyData.bool tree12_eq)) fun v H1 a1 s1 d1 => q v H1 a1.ok s1 d1
theorem ok_is_test {f : Addr} {fd : FuncData} (F : Fun K "is_test" "is_test" s_is_test f fd) (C : TupC K mg "TEST_WORDS" testW) (L : ∃ t, mg "MOST_LEVELS" = some (.int 12 t)) (G_made : Def P w K mg base "is_made_of" 15 ["thing", "words", "levels"] (spMade K 12)) : FnG P w K mg base 16 f fd ["thing"] (spTreeJ K true) := by
  refine fnG F sc_is_test (fun vs H Q E h => spF_len h) (fun cdv A outer s H vs Q E hr h => ?_)
  obtain ⟨U, n, ds, a, hd, hl, hp, q⟩ := spF_go h
  obtain ⟨d, rfl⟩ := pick1 hl
  obtain ⟨v, rfl, hv⟩ := dd1 hd
  obtain ⟨b, o, its, k, gb, kb, ob, od, oz, ov⟩ := C
  obtain ⟨tl, gl⟩ := L
  have hb : ∀ H, Dd K H (.ref b) (.tuple (testW.map .str)) := fun H => tupC_dd kb ob od oz ov
  refine ⟨_, pss_one (ps_ret (pe_go G_made hr (pa_cons (pv 0) (pa_cons (pe_glob (v := .ref b) rfl gb rfl) (pa_cons (pe_glob (v := .int 12) rfl gl ⟨_, rfl⟩) pa_nil))))), ?_⟩
  refine s1_ret (d := .bool (tree12 true d)) a (E1.is (e1_made (bare := true) (a1_cons (e1_var rfl hv) (a1_cons (e1_kt hb) (a1_cons e1_int a1_nil))) (by simpa using hp)) (congrArg PyData.bool tree12_eq)) fun v H1 a1 s1 d1 => q v H1 a1.ok s1 d1
end
end Mw
namespace Mw
open PySem PySem.Spec PyProof.Rows L2
abbrev rRepr (K : PySem.W.Frag) : List V → Hp → VK → Prop := fun xs H Q => ∃ v d, xs = [v] ∧ Dd K H v d ∧ Fit d ∧ Q (.str d.shown) H
section
variable {K : PySem.W.Frag} {U : Wo} {W : Wd} {M : Hp} {σ : L2.St} {n k m : Nat} {te ta tb : TE} {t : TA} {tt : TT} {D : Ends} {H : Hp} {R : PyData → Prop}
theorem e1_repr {d : PyData} (h : E1 K U M te σ d) (f : Fit d) : E1 K U M (tCB (rRepr K) (tCons te tNil)) σ (.str d.shown) := fun n H a Q q => h n H a _ fun v H1 ok1 s1 d1 => ⟨v, d, rfl, d1.same (U.le _), f, q _ H1 ok1 s1 (.str _)⟩
theorem e3_repr (h : E3 K U M k te σ R) (f : ∀ d, R d → Fit d) : E3 K U M k (tCB (rRepr K) (tCons te tNil)) σ (fun e => ∃ d, R d ∧ e = .str d.shown) := fun n H a hn Q q => h n H a hn _ fun v d H1 r ok1 s1 d1 => ⟨v, d, rfl, d1.same (U.le _), f d r, q _ _ H1 ⟨d, r, rfl⟩ ok1 s1 (.str _)⟩
theorem e1_goK {m j : Nat} {pre : List PyData → Prop} {f : List PyData → PyData} {gV : List V → List V} {ds es : List PyData} (h : A1 K U M t σ ds) (hj : ds.length = j) (g : ∀ H vs, DdAll K H vs ds → DdAll K H (gV vs) es) (hm : es.length = m) (hp : pre es) :
    E1 K U M (tGoK j (spF K m pre f) gV t) σ (f es) := fun n H a Q q =>
  h n H a _ fun vs H1 ok1 s1 d1 => ⟨d1.len.trans hj, U, n, es, ok1, g _ _ d1, hm, hp, fun v H2 ok2 s2 d2 => q v H2 ok2 (s1.trans s2) d2⟩
theorem e3_goK {m j : Nat} {pre : List PyData → Prop} {S : List PyData → PyData → Prop} {gV : List V → List V} {ds es : List PyData} (h : A1 K U M t σ ds) (hj : ds.length = j) (g : ∀ H vs, DdAll K H vs ds → DdAll K H (gV vs) es) (hm : es.length = m) (hp : pre es) :
    E3 K U M 0 (tGoK j (spR K m pre S) gV t) σ (S es) := fun n H a hn Q q =>
  h n H a _ fun vs H1 ok1 s1 d1 => ⟨d1.len.trans hj, U, n, es, ok1, by omega, g _ _ d1, hm, hp, fun v d H2 r ok2 s2 d2 => q v d H2 r ok2 (s1.trans s2) d2⟩
theorem e1_min {i j : Int} (ha : E1 K U M ta σ (.int i)) (hb : E1 K U M tb σ (.int j)) : E1 K U M (tCB (fun xs H Q => ∃ i j, xs = [.int i, .int j] ∧ Q (.int (if j < i then j else i)) H) (tCons ta (tCons tb tNil))) σ (.int (if j < i then j else i)) := fun n H a Q q =>
  ha n H a _ fun v H1 ok1 s1 d1 => hb n H1 (a.step ok1 s1) _ fun w H2 ok2 s2 d2 => by
    cases d1
    cases d2
    exact ⟨i, j, rfl, q _ H2 ok2 (s1.trans s2) (.int _)⟩
theorem e1_lenOf {a : Addr} {xs : List V} {i : Nat} (h : σ[i]? = some (some (.ref a))) (hS : SqL K M a xs) : E1 K U M (tCB (fun xs H Q => ∃ x n, xs = [x] ∧ LenV K x H n ∧ Q (.int n) H) (tCons (tVar i) tNil)) σ (.int xs.length) := fun n H at_ Q q =>
  ⟨_, h, _, xs.length, rfl, .inl ⟨xs, (U.le _).seq (at_.up.seq hS), rfl⟩, q _ H at_.ok (Same.refl _) (.int _)⟩
theorem same_shown {a : Str} : (!decide (a = a)) = false := by rw [decide_eq_true rfl] <;> rfl
end
theorem fit_bb (b c : Bool) : Fit (.list [.bool b, .bool c]) := okt_fit (k := 1) (m := 10) (by cases b <;> cases c <;> decide +kernel) (by decide) (by decide)
theorem e1_due12 {K : PySem.W.Frag} {U : Wo} {M : Hp} {σ : L2.St} {t : TA} {d : PyData} {bare : Bool} (h : A1 K U M t σ [d, .int (12 : Nat), .bool bare]) (f : fineD d = true) : E1 K U M (tGo (spDue K 12) t) σ (.bool (tree12 bare d)) := E1.is (e1_due h f) (congrArg PyData.bool tree12_eq)
theorem e1_goT {K : PySem.W.Frag} {U : Wo} {M : Hp} {σ : L2.St} {t : TA} {d : PyData} {bare : Bool} (h : A1 K U M t σ [d]) (f : [d].all fineD = true) : E1 K U M (tGo (spTreeJ K bare) t) σ (.bool (tree12 bare d)) := e1_go h rfl f
theorem e1_goKT {K : PySem.W.Frag} {U : Wo} {M : Hp} {σ : L2.St} {t : TA} {d : PyData} {bare : Bool} (h : A1 K U M t σ [d]) (f : [d].all fineD = true) : E1 K U M (tGoK 1 (spTreeJ K bare) (fun zs => zs) t) σ (.bool (tree12 bare d)) := e1_goK h rfl (fun _ _ h => h) rfl f
def spBentU (K : PySem.W.Frag) : Sp := fun vs H Q E => ∃ n, n ≤ 26 ∧ spBent K n vs H Q E
theorem e3_bentU {K : PySem.W.Frag} {U : Wo} {W : Wd} {M : Hp} {σ : L2.St} {n m i : Nat} {te : TE} {d : PyData} (o : Of U W) (hn : n ≤ 26) (hv : σ[i]? = some (some (.ref W.d))) (h : E1 K U M te σ d) (hd : okt n m d = true) (hm : m ≤ 40000) : E3 K U M 84 (tGo (spBentU K) (tCons (tVar i) (tCons te tNil))) σ (fun e => okt (n + 6) (2 * m + 1500) e = true) := fun c H a hc Q q =>
  have hk : kB n ≤ 84 := by
    show 3 * n + 6 ≤ 84
    omega
  ⟨_, hv, h c H a _ fun v H1 ok1 s1 d1 => ⟨n, hn, U, W, c, v, d, m, o, rfl, ok1, by omega, d1, hd, hm, fun v' d' H2 r ok2 s2 d2 => q v' d' H2 r (U.mono ok2 (by omega)) (s1.trans s2) d2⟩⟩
def wBt : Nat → Nat
  | 0 => 14089
  | i + 1 => 2 * wBt i + 1500
section
variable {P : Program} {w : World} {K : PySem.W.Frag} {mg : Str → Option Value} {base : Heap}
def spLaw (K : PySem.W.Frag) : Sp := fun vs H Q _ => ∃ (a : Addr) (ns : List Int), vs = [.ref a] ∧ Only H ∧ SqL K H a (ns.map V.int) ∧ ns.length ≤ 63 ∧ ∀ H', Q (.bl true) H'
theorem ok_law {f : Addr} {fd : FuncData} (F : Fun K "law" "law" s_law f fd) (T : Blt mg) (hs : ∃ m, base.Ns sysModules m) (G__law_begun : Def P w K mg base "_law_begun" 1 ["script"] (spBegun K)) (G__law_take : Def P w K mg base "_law_take" 2 ["state", "size"] spTake) (G__law_pick : Def P w K mg base "_law_pick" 3 ["state", "some"] (spPick K))
    (G__law_frame : Def P w K mg base "_law_frame" 4 ["state", "upto"] (spFrame5 K)) (G__law_marked_tree : Def P w K mg base "_law_marked_tree" 12 ["state", "frame", "deep", "marks"] (spMarked K)) (G__law_test : Def P w K mg base "_law_test" 7 ["state", "frame", "deep"] (spTest K 3)) (G__law_chain : Def P w K mg base "_law_chain" 4 ["state", "many"] (spChain K))
    (G__law_bent : Def P w K mg base "_law_bent" 31 ["state", "matter"] (spBentU K)) (G_due : Def P w K mg base "_law_is_due" 15 ["matter", "levels", "is_bare"] (spDue K 12)) (G_is_tree : Def P w K mg base "is_tree" 16 ["thing"] (spTreeJ K false)) (G_is_test : Def P w K mg base "is_test" 16 ["thing"] (spTreeJ K true))
    (B_is_tree : DefK P w K mg base "is_tree" 16 ["thing"] ["thing"] (fun zs => zs) (spTreeJ K false)) (B_is_test : DefK P w K mg base "is_test" 16 ["thing"] ["thing"] (fun zs => zs) (spTreeJ K true)) : FnG P w K mg base 33 f fd ["script"] (spLaw K) := by
  refine fnG F sc_law (fun vs H Q E h => ?_) (fun cdv A outer s H vs Q E hr h => ?_)
  · obtain ⟨a, ns, rfl, _⟩ := h
    rfl
  · obtain ⟨a, ns, rfl, hO, hS, hl, q⟩ := h
    refine ⟨_, pss_cons (ps_set (i := 1) sc_law.nd rfl (.inl rfl) (pe_go G__law_begun hr (pa_cons (pv 0) pa_nil)))
        (pss_cons (ps_for PassesOwn.never rfl (pi_range1 (by rfl) T.range (pa_cons (pe_op op_add pe_int (pe_callB (call_min2 rfl) (by rfl) T.min (by decide +kernel) (pa_cons (pe_callB call_len (by rfl) T.len (by decide +kernel) (pa_cons (pv 0) pa_nil)) (pa_cons pe_int pa_nil)))) pa_nil)) (pg_name (i := 2) sc_law.nd rfl (.inl rfl))
        (pss_cons (ps_set (i := 3) sc_law.nd rfl (.inl rfl) (pe_go G__law_frame hr (pa_cons (pv 1) (pa_cons pe_int pa_nil))))
          (pss_cons (ps_set (i := 4) sc_law.nd rfl (.inl rfl) (pe_ifExp (pt_cmpR op_gt (pe_go G__law_take hr (pa_cons (pv 1) (pa_cons pe_int pa_nil))) pe_int (nomark _)) (pe_go G__law_marked_tree hr (pa_cons (pv 1) (pa_cons (pv 3) (pa_cons pe_int (pa_cons pe_int pa_nil))))) (pe_go G__law_test hr (pa_cons (pv 1) (pa_cons (pv 3) (pa_cons pe_int pa_nil))))))
          (Evl.pss_cut (ps_if (pt_cmpR op_eq (pe_go G__law_take hr (pa_cons (pv 1) (pa_cons pe_int pa_nil))) pe_int (nomark _))
          (pss_one (ps_set (i := 4) sc_law.nd rfl (.inl rfl) (pe_go G__law_chain hr (pa_cons (pv 1) (pa_cons (pe_op op_add pe_int (pe_go G__law_take hr (pa_cons (pv 1) (pa_cons pe_int pa_nil)))) pa_nil)))))
          pss_nil)
          (pss_cons (ps_for PassesOwn.never rfl (pi_range1 (by rfl) T.range (pa_cons (pe_go G__law_pick hr (pa_cons (pv 1) (pa_cons (pe_lst (pa_cons pe_int (pa_cons pe_int (pa_cons pe_int (pa_cons pe_int pa_nil))))) pa_nil))) pa_nil)) (pg_name (i := 5) sc_law.nd rfl (.inl rfl))
          (pss_one (ps_set (i := 4) sc_law.nd rfl (.inl rfl) (pe_go G__law_bent hr (pa_cons (pv 1) (pa_cons (pv 4) pa_nil))))))
          (pss_cons (ps_par (i := 6) (j := 7) rfl sc_law.nd rfl rfl (by decide) rfl rfl (pa_cons (pe_lst (pa_cons (pe_go G_due hr (pa_cons (pv 4) (pa_cons pe_int (pa_cons pe_bl pa_nil)))) (pa_cons (pe_go G_due hr (pa_cons (pv 4) (pa_cons pe_int (pa_cons pe_bl pa_nil)))) pa_nil))) (pa_cons (pe_callB (call_repr hr hs) (by rfl) T.repr (by decide +kernel) (pa_cons (pv 4) pa_nil)) pa_nil)) (by rfl))
          (pss_cons (ps_if (pt_cmpR op_ne (pe_callB (call_repr hr hs) (by rfl) T.repr (by decide +kernel) (pa_cons (pe_lst (pa_cons (pe_go G_is_tree hr (pa_cons (pv 4) pa_nil)) (pa_cons (pe_go G_is_test hr (pa_cons (pv 4) pa_nil)) pa_nil))) pa_nil)) (pe_callB (call_repr hr hs) (by rfl) T.repr (by decide +kernel) (pa_cons (pv 6) pa_nil)) (nomark _))
          (pss_one (ps_ret pe_bl))
          pss_nil)
          (pss_one (ps_if (PW.pt (pw_or (pt_cmpR op_ne (pe_callB (call_repr hr hs) (by rfl) T.repr (by decide +kernel) (pa_cons (pe_lst (pa_cons (pe_goK B_is_tree hr (pk_cons (pv 4) pk_nil)) (pa_cons (pe_goK B_is_test hr (pk_cons (pv 4) pk_nil)) pa_nil))) pa_nil)) (pe_callB (call_repr hr hs) (by rfl) T.repr (by decide +kernel) (pa_cons (pv 6) pa_nil)) (nomark _)) (pw_or1 (pt_cmpR op_ne (pe_callB (call_repr hr hs) (by rfl) T.repr (by decide +kernel) (pa_cons (pv 4) pa_nil)) (pv 7) (nomark _)))))
          (pss_one (ps_ret pe_bl))
          pss_nil)))))))))
        (pss_one (ps_ret pe_bl))), ?_⟩
    refine rd_seq ?_
    refine rd_asg ?_
    refine rd_go (rd_cons ?_)
    refine rd_var rfl ?_
    refine rd_nil ?_
    refine ⟨a, ns, rfl, hS, hl, fun W H0 e0 S0 nd nw => ?_⟩
    refine rd_name ?_
    have off : ∀ b, H b ≠ none → b ≠ W.d ∧ b ≠ W.w ∧ b ≠ W.c := fun b hb => by
      refine ⟨fun z => hb (z ▸ nd), fun z => hb (z ▸ nw), fun z => ?_⟩
      obtain ⟨r, t, ms, cs, S, _⟩ := S0
      rcases hO b with h1 | ⟨ob, xs, h1⟩
      · exact hb h1
      · have h2 := e0 _ _ h1
        rw [z, S.c] at h2
        cases h2
    have up0 : Same H (mk W H0) := fun b x e => mk_of (e0 b x e) (off b (by rw [e]; intro z; cases z)).1 (off b (by rw [e]; intro z; cases z)).2.1 (off b (by rw [e]; intro z; cases z)).2.2
    have a0 : At (wd W) 0 (mk W H0) H0 := ⟨S0, Same.refl _⟩
    have hS0 : SqL K (mk W H0) a (ns.map V.int) := up0.seq hS
    have big : (36 : Nat) * 2400 + 200 ≤ most := by decide
    refine s3_for (K := K) (k0 := 0) (k := 2400) (m := 36) a0 (by omega) (I1.i3 (P := fun ds => ds.length ≤ 36) (i1_rng (e1_op e1_int (e1_min (e1_lenOf rfl hS0) e1_int) r1_int) ?b1 ?b2) ?b3) (fun ds p => p) (fun i σ H => ∃ x2 x3 x4 x5 x6 x7, σ = [some (.ref a), some (.ref W.d), x2, x3, x4, x5, x6, x7]) (fun H' s' => ⟨_, _, _, _, _, _, rfl⟩) ?_ ?_
    case b1 =>
      split <;> omega
    case b2 =>
      split <;> omega
    case b3 =>
      rw [List.length_map, List.length_range]
      split <;> omega
    · rintro i n σ' H1 v2 d2 N hi hn ⟨x2, x3, x4, x5, x6, x7, rfl⟩ a1 s1 e2 hN
      refine rd_seq ?_
      refine rd_asg ?_
      refine rd_go (rd_cons ?_)
      refine rd_var rfl ?_
      refine rd_cons ?_
      refine rd_c ?_
      refine rd_nil ?_
      refine ⟨wd W, W, n, _, 3, of_wd W, rfl, a1.ok, by omega, .int 3, by decide, by decide, fun Fa tf ln xs ns H3 fo nF ok3 s3 f3 g1 g2 => ?_⟩
      refine rd_name ?_
      dsimp only
      let U1 : Wo := (wd W).part Fa fun o => ∃ m : Int, o = .dK (frameK tf ln m)
      have o : Of U1 W := (of_wd W).part Fa _
      have fr : Fr U1 Fa tf ln := fr_part _ _ _ _
      have a3 : At U1 (n + 20) (U1.view H3) H3 := ⟨⟨ok3, _, f3, 0, rfl⟩, Same.refl _⟩
      have s13 : Same (mk W H1) (U1.view H3) := fun b x e => hide_at (s3 b x e) (fun z => by
        rw [z] at e
        have := nF.symm.trans e
        cases this)
      have kx : kX 3 = 2039 := rfl
      have kt : kT 3 = 120 := rfl
      have wx : wX 3 = 14089 := rfl
      have wt : wT 3 = 1561 := rfl
      refine rd_seq ?_
      refine s3_asg (K := K) (U := U1) (k := 1 + kX 3) (R := fun d => okt 20 14089 d = true) a3 (by omega) (e3_if (k1 := 1) (k2 := kX 3) (t3_test (K := K) (E3.weak (e3_op1 (f := fun d => match d with | .int i => .bool (decide (0 < i)) | _ => .none) (e3_take (z := 3) o rfl e1_int (by decide) (by decide)) e1_int ?p1) ?p2)) (E3.weak (e3_gog (R := fun d => okt 6 (wX 3) d = true) (pre := fun ds => ∃ m : Int, ds = [.int 3, .int m]) o fr g1 g2 fo rfl rfl (a1_cons e1_int (a1_cons e1_int a1_nil)) rfl ⟨9, rfl⟩) fun d r => okt_more r (by decide) (by decide)) (E3.more (E3.weak (e3_gog (R := fun d => okt (3 + 1) (wT 3) d = true) (k := kT 3) (pre := fun ds => ds = [.int (3 : Nat)]) o fr g1 g2 fo rfl rfl (a1_cons e1_int a1_nil) rfl rfl) fun d r => okt_more r (by decide) (by decide)) (by omega))) fun v4 d4 H4 r4 a4 s4 e4 => ?_
      case p1 =>
        rintro d ⟨j, rfl, _⟩
        exact r1_cmp
      case p2 =>
        rintro d ⟨e, ⟨j, rfl, _⟩, rfl⟩
        exact ⟨_, rfl⟩
      refine ⟨fun σ H' => ∃ vm d, σ = [some (.ref a), some (.ref W.d), some v2, some (.ref Fa), some vm, x5, x6, x7] ∧ okt 20 14089 d = true ∧ U1.ok (n + 2090) H' ∧ Same (U1.view H3) (U1.view H') ∧ Dd K (U1.view H') vm d, ?_, ?_⟩
      · refine s3_if (k := 1) a4 (by omega) (t3_test (K := K) (E3.weak (e3_op1 (f := fun d => match d with | .int i => .bool (decide (i = 0)) | _ => .none) (e3_take (z := 5) o rfl e1_int (by decide) (by decide)) e1_int ?p3) ?p4)) (fun H5 a5 s5 => ?_) (fun H5 a5 s5 => ?_)
        case p3 =>
          rintro d ⟨j, rfl, _⟩
          exact r1_eqI
        case p4 =>
          rintro d ⟨e, ⟨j, rfl, _⟩, rfl⟩
          exact ⟨_, rfl⟩
        · refine s3_asg (K := K) (k := 1 + 20) (R := fun d => okt 20 1000 d = true) a5 (by omega) (e3_goA (k1 := 1) (k := 20) (m := 1) (P := fun ds => ∃ e, ds = [e] ∧ ∃ j : Int, e = .int j ∧ 11 ≤ j ∧ j ≤ 13) o rfl (a3_one (E3.weak (e3_op2 (f := fun d => match d with | .int i => .int (11 + i) | _ => .none) e1_int (e3_take (z := 3) o rfl e1_int (by decide) (by decide)) ?p5) ?p6)) ?p7) fun v6 d6 H6 r6 a6 s6 e6 => ?_
          case p5 =>
            rintro d ⟨j, rfl, _⟩
            exact r1_int
          case p6 =>
            rintro d ⟨e, ⟨j, rfl, j0, j1⟩, rfl⟩
            exact ⟨11 + j, rfl, by omega, by omega⟩
          case p7 =>
            rintro ds ⟨e, rfl, j, rfl, j0, j1⟩
            exact ⟨rfl, j.toNat, by rw [Int.toNat_of_nonneg (by omega)], by omega⟩
          exact ⟨v6, d6, rfl, okt_more r6 (by decide) (by decide), U1.mono a6.ok (by omega), (s4.trans s5).trans s6, e6⟩
        · exact ⟨v4, d4, rfl, r4, U1.mono a5.ok (by omega), s4.trans s5, e4.same s5⟩
      · rintro σ5 H5 ⟨vm, dm, rfl, rm, ok5, t5, em⟩
        have a5 : At U1 (n + 2090) (U1.view H5) H5 := At.here ok5
        refine rd_seq ?_
        refine s3_for (K := K) (U := U1) (k0 := 1) (k := 84) (m := 2) a5 (by omega) (i3_rng (P := fun j => 0 ≤ j ∧ j ≤ 2) (e3_pick (k := 0) o rfl (E1.e3 (d := .list [.int 0, .int 1, .int 1, .int 2]) (e1_lst (a1_cons e1_int (a1_cons e1_int (a1_cons e1_int (a1_cons e1_int a1_nil)))) (by decide)) ⟨_, .inl rfl, by decide, by decide, ?f1⟩))) ?f2 (fun i σ H => ∃ vm y5 d, σ = [some (.ref a), some (.ref W.d), some v2, some (.ref Fa), some vm, y5, x6, x7] ∧ okt (20 + 6 * i) (wBt i) d = true ∧ Dd K (U1.view H) vm d) (fun H' s' => ⟨vm, x5, dm, rfl, rm, em.same s'⟩) ?_ ?_
        case f1 =>
          intro e he
          simp only [List.mem_cons, List.not_mem_nil, or_false] at he
          rcases he with rfl | rfl | rfl | rfl <;> exact ⟨_, rfl, ⟨by decide, by decide⟩, by decide, by decide⟩
        case f2 =>
          rintro ds ⟨j, ⟨j0, j1⟩, rfl⟩
          rw [List.length_map, List.length_range]
          omega
        · rintro i2 n2 σ2 H6 v6 d6 N2 hi2 hn2 ⟨vm, y5, dm, rfl, rm, em⟩ a6 s6 e6 hN2
          have w40 : wBt i2 ≤ 40000 := by
            match i2, hi2 with
            | 0, _ => decide
            | 1, _ => decide
          refine s3_asg (K := K) (U := U1) (k := 84) (At.here a6.ok) (by omega) (e3_bentU (n := 20 + 6 * i2) (m := wBt i2) o (by omega) rfl (e1_var rfl em) rm w40) fun v7 d7 H7 r7 a7 s7 e7 => ?_
          exact hN2 _ _ ⟨v7, _, d7, rfl, okt_more r7 (by omega) (Nat.le_refl _), e7⟩ ⟨a7.ok, a6.up.trans s7⟩ s7
        · rintro i2 σ2 H6 hi2 ⟨vm, y5, dm, rfl, rm, em⟩ a6 s6
          dsimp only
          have w6 : wBt i2 ≤ 60856 := by
            match i2, hi2 with
            | 0, _ => decide
            | 1, _ => decide
            | 2, _ => decide
          have fD : Fit dm := okt_fit rm (by omega) (by omega)
          have fi : fineD dm = true := fine_of dm (okt_iff.mp rm).2.2.2.2 (Nat.le_trans (okt_iff.mp rm).2.2.2.1 (by omega))
          have fis : [dm].all fineD = true := by
            rw [List.all_cons, fi]
            rfl
          refine rd_seq ?_
          refine s1_par (At.here a6.ok) (a1_cons (e1_lst (a1_cons (e1_due12 (bare := false) (a1_cons (e1_var rfl em) (a1_cons e1_int (a1_cons e1_bl a1_nil))) fi) (a1_cons (e1_due12 (bare := true) (a1_cons (e1_var rfl em) (a1_cons e1_int (a1_cons e1_bl a1_nil))) fi) a1_nil)) (show 2 ≤ 100000 by decide)) (a1_cons (e1_repr (e1_var rfl em) fD) a1_nil)) fun v8 v9 H7 a7 s7 e8 e9 => ?_
          have em7 := em.same s7
          have fb := fit_bb (tree12 false dm) (tree12 true dm)
          refine rd_seq ?_
          refine s1_if (b := false) a7 (t1_test (E1.is (e1_op (e1_repr (e1_lst (a1_cons (e1_goT (a1_cons (e1_var rfl em7) a1_nil) fis) (a1_cons (e1_goT (a1_cons (e1_var rfl em7) a1_nil) fis) a1_nil)) (show 2 ≤ 100000 by decide)) fb) (e1_repr (e1_var rfl e8) fb) r1_neS) (congrArg PyData.bool same_shown))) (fun z => Bool.noConfusion z) fun _ H8 a8 s8 => ?_
          refine s1_if (b := false) a8 (t1_or (a := false) (b := false) (t1_test (E1.is (e1_op (e1_repr (e1_lst (a1_cons (e1_goKT (a1_cons (e1_var rfl em7) a1_nil) fis) (a1_cons (e1_goKT (a1_cons (e1_var rfl em7) a1_nil) fis) a1_nil)) (show 2 ≤ 100000 by decide)) fb) (e1_repr (e1_var rfl e8) fb) r1_neS) (congrArg PyData.bool same_shown))) fun _ => t1_test (E1.is (e1_op (e1_repr (e1_var rfl em7) fD) (e1_var rfl e9) r1_neS) (congrArg PyData.bool same_shown))) (fun z => Bool.noConfusion z) fun _ H9 a9 s9 => ?_
          have tot : Same (mk W H1) (mk W H9) := s13.trans ((t5.trans s6).trans ((s7.trans s8).trans (s9.trans (hide_le _ _))))
          exact hN _ _ ⟨_, _, _, _, _, _, rfl⟩ ⟨(wd W).mono a9.ok.1 (by omega), a1.up.trans tot⟩ tot
    · rintro i σ' H1 hi ⟨x2, x3, x4, x5, x6, x7, rfl⟩ a1 s1
      dsimp only
      exact q _
end
end Mw
namespace Mw
open PySem PySem.Spec PyProof.Rows L2
theorem kb_thing {K : PySem.W.Frag} {st : Stmt} {qual x : Str} {dV kV doc pm cdv ct : Value} {an : Option Addr} (h : ∀ w : Value, bindArgs (PySem.W.fnOf x qual (defArgs st) (defBody st) (defScope st) .none kV doc pm an cdv ct) ⟨[], [("thing", w)]⟩ = (pure [(("thing" : Str), w)] : Sem (List (Str × Value)))) :
    KBn K (PySem.W.fnOf x qual (defArgs st) (defBody st) (defScope st) .none kV doc pm an cdv ct) ["thing"] 0 ["thing"] (fun _ ws => ws) (fun _ zs => zs) where
  to := fun s us ws _ l1 l2 => match us, ws, l1, l2 with
    | [], [w], _, _ => .of_eq (h w)
  rel := fun _ r => r
theorem fnG_false {P : Program} {w : World} {K : PySem.W.Frag} {mg : Str → Option Value} {base : Heap} {k : Nat} {f : Addr} {fd : FuncData} {ps : List Str} : FnG P w K mg base k f fd ps (fun _ _ _ _ => False) := ⟨fun _ _ _ _ h => h.elim, fun _ _ _ _ _ _ _ _ _ _ _ _ _ h => h.elim⟩
/-! what the top has written; the law's own head -/
theorem all_mk {l : PySem.W.OpenLaw} {w : World} {K : PySem.W.Frag} {h : Heap} {mg : Str → Option Value} {fa f1 f2 f3 f4 f5 f6 f7 f8 f9 f10 f11 f12 f13 f14 f15 f16 f17 f18 f19 f20 f21 : Addr} (X : K.In h) (G : h.Ns mainGlobals mg) (hfa : mg "law" = some (.ref fa))
    {od1 an1 : Option Addr} {sl1 : Array (Option Value)} {oc1 kV1 dc1 pm1 cd1 ct1 : Value} (a1 : PySem.W.nsIn K mainGlobals "is_count" = some (some (.ref f1)))
    (l1 : K.lookup f1 = some ⟨oc1, od1, .func (PySem.W.fnOf "is_count" "is_count" (defArgs s_is_count) (defBody s_is_count) (defScope s_is_count) .none kV1 dc1 pm1 an1 cd1 ct1), sl1⟩) (c1 : PySem.W.codeIn K cd1 "is_count" = true) (k1 : PySem.W.keepIn K (.ref f1) = true)
    {od2 an2 : Option Addr} {sl2 : Array (Option Value)} {oc2 kV2 dc2 pm2 cd2 ct2 : Value} (a2 : PySem.W.nsIn K mainGlobals "is_field" = some (some (.ref f2)))
    (l2 : K.lookup f2 = some ⟨oc2, od2, .func (PySem.W.fnOf "is_field" "is_field" (defArgs s_is_field) (defBody s_is_field) (defScope s_is_field) .none kV2 dc2 pm2 an2 cd2 ct2), sl2⟩) (c2 : PySem.W.codeIn K cd2 "is_field" = true) (k2 : PySem.W.keepIn K (.ref f2) = true)
    {od3 an3 : Option Addr} {sl3 : Array (Option Value)} {oc3 kV3 dc3 pm3 cd3 ct3 : Value} (a3 : PySem.W.nsIn K mainGlobals "is_tree" = some (some (.ref f3)))
    (l3 : K.lookup f3 = some ⟨oc3, od3, .func (PySem.W.fnOf "is_tree" "is_tree" (defArgs s_is_tree) (defBody s_is_tree) (defScope s_is_tree) .none kV3 dc3 pm3 an3 cd3 ct3), sl3⟩) (c3 : PySem.W.codeIn K cd3 "is_tree" = true) (k3 : PySem.W.keepIn K (.ref f3) = true)
    {od4 an4 : Option Addr} {sl4 : Array (Option Value)} {oc4 kV4 dc4 pm4 cd4 ct4 : Value} (a4 : PySem.W.nsIn K mainGlobals "is_test" = some (some (.ref f4)))
    (l4 : K.lookup f4 = some ⟨oc4, od4, .func (PySem.W.fnOf "is_test" "is_test" (defArgs s_is_test) (defBody s_is_test) (defScope s_is_test) .none kV4 dc4 pm4 an4 cd4 ct4), sl4⟩) (c4 : PySem.W.codeIn K cd4 "is_test" = true) (k4 : PySem.W.keepIn K (.ref f4) = true)
    {od5 an5 : Option Addr} {sl5 : Array (Option Value)} {oc5 kV5 dc5 pm5 cd5 ct5 : Value} (a5 : PySem.W.nsIn K mainGlobals "is_made_of" = some (some (.ref f5)))
    (l5 : K.lookup f5 = some ⟨oc5, od5, .func (PySem.W.fnOf "is_made_of" "is_made_of" (defArgs s_is_made_of) (defBody s_is_made_of) (defScope s_is_made_of) .none kV5 dc5 pm5 an5 cd5 ct5), sl5⟩) (c5 : PySem.W.codeIn K cd5 "is_made_of" = true) (k5 : PySem.W.keepIn K (.ref f5) = true)
    {od6 an6 : Option Addr} {sl6 : Array (Option Value)} {oc6 kV6 dc6 pm6 cd6 ct6 : Value} (a6 : PySem.W.nsIn K mainGlobals "_law_begun" = some (some (.ref f6)))
    (l6 : K.lookup f6 = some ⟨oc6, od6, .func (PySem.W.fnOf "_law_begun" "_law_begun" (defArgs s__law_begun) (defBody s__law_begun) (defScope s__law_begun) .none kV6 dc6 pm6 an6 cd6 ct6), sl6⟩) (c6 : PySem.W.codeIn K cd6 "_law_begun" = true) (k6 : PySem.W.keepIn K (.ref f6) = true)
    {od7 an7 : Option Addr} {sl7 : Array (Option Value)} {oc7 kV7 dc7 pm7 cd7 ct7 : Value} (a7 : PySem.W.nsIn K mainGlobals "_law_mixed" = some (some (.ref f7)))
    (l7 : K.lookup f7 = some ⟨oc7, od7, .func (PySem.W.fnOf "_law_mixed" "_law_mixed" (defArgs s__law_mixed) (defBody s__law_mixed) (defScope s__law_mixed) .none kV7 dc7 pm7 an7 cd7 ct7), sl7⟩) (c7 : PySem.W.codeIn K cd7 "_law_mixed" = true) (k7 : PySem.W.keepIn K (.ref f7) = true)
    {od8 an8 : Option Addr} {sl8 : Array (Option Value)} {oc8 kV8 dc8 pm8 cd8 ct8 : Value} (a8 : PySem.W.nsIn K mainGlobals "_law_take" = some (some (.ref f8)))
    (l8 : K.lookup f8 = some ⟨oc8, od8, .func (PySem.W.fnOf "_law_take" "_law_take" (defArgs s__law_take) (defBody s__law_take) (defScope s__law_take) .none kV8 dc8 pm8 an8 cd8 ct8), sl8⟩) (c8 : PySem.W.codeIn K cd8 "_law_take" = true) (k8 : PySem.W.keepIn K (.ref f8) = true)
    {od9 an9 : Option Addr} {sl9 : Array (Option Value)} {oc9 kV9 dc9 pm9 cd9 ct9 : Value} (a9 : PySem.W.nsIn K mainGlobals "_law_pick" = some (some (.ref f9)))
    (l9 : K.lookup f9 = some ⟨oc9, od9, .func (PySem.W.fnOf "_law_pick" "_law_pick" (defArgs s__law_pick) (defBody s__law_pick) (defScope s__law_pick) .none kV9 dc9 pm9 an9 cd9 ct9), sl9⟩) (c9 : PySem.W.codeIn K cd9 "_law_pick" = true) (k9 : PySem.W.keepIn K (.ref f9) = true)
    {od10 an10 : Option Addr} {sl10 : Array (Option Value)} {oc10 kV10 dc10 pm10 cd10 ct10 : Value} (a10 : PySem.W.nsIn K mainGlobals "_law_shuffled" = some (some (.ref f10)))
    (l10 : K.lookup f10 = some ⟨oc10, od10, .func (PySem.W.fnOf "_law_shuffled" "_law_shuffled" (defArgs s__law_shuffled) (defBody s__law_shuffled) (defScope s__law_shuffled) .none kV10 dc10 pm10 an10 cd10 ct10), sl10⟩) (c10 : PySem.W.codeIn K cd10 "_law_shuffled" = true) (k10 : PySem.W.keepIn K (.ref f10) = true)
    {od11 an11 : Option Addr} {sl11 : Array (Option Value)} {oc11 kV11 dc11 pm11 cd11 ct11 : Value} (a11 : PySem.W.nsIn K mainGlobals "_law_odd" = some (some (.ref f11)))
    (l11 : K.lookup f11 = some ⟨oc11, od11, .func (PySem.W.fnOf "_law_odd" "_law_odd" (defArgs s__law_odd) (defBody s__law_odd) (defScope s__law_odd) .none kV11 dc11 pm11 an11 cd11 ct11), sl11⟩) (c11 : PySem.W.codeIn K cd11 "_law_odd" = true) (k11 : PySem.W.keepIn K (.ref f11) = true)
    {od12 an12 : Option Addr} {sl12 : Array (Option Value)} {oc12 kV12 dc12 pm12 cd12 ct12 : Value} (a12 : PySem.W.nsIn K mainGlobals "_law_frame" = some (some (.ref f12)))
    (l12 : K.lookup f12 = some ⟨oc12, od12, .func (PySem.W.fnOf "_law_frame" "_law_frame" (defArgs s__law_frame) (defBody s__law_frame) (defScope s__law_frame) .none kV12 dc12 pm12 an12 cd12 ct12), sl12⟩) (c12 : PySem.W.codeIn K cd12 "_law_frame" = true) (k12 : PySem.W.keepIn K (.ref f12) = true)
    {od13 an13 : Option Addr} {sl13 : Array (Option Value)} {oc13 kV13 dc13 pm13 cd13 ct13 : Value} (a13 : PySem.W.nsIn K mainGlobals "_law_test" = some (some (.ref f13)))
    (l13 : K.lookup f13 = some ⟨oc13, od13, .func (PySem.W.fnOf "_law_test" "_law_test" (defArgs s__law_test) (defBody s__law_test) (defScope s__law_test) .none kV13 dc13 pm13 an13 cd13 ct13), sl13⟩) (c13 : PySem.W.codeIn K cd13 "_law_test" = true) (k13 : PySem.W.keepIn K (.ref f13) = true)
    {od14 an14 : Option Addr} {sl14 : Array (Option Value)} {oc14 kV14 dc14 pm14 cd14 ct14 : Value} (a14 : PySem.W.nsIn K mainGlobals "_law_leaf" = some (some (.ref f14)))
    (l14 : K.lookup f14 = some ⟨oc14, od14, .func (PySem.W.fnOf "_law_leaf" "_law_leaf" (defArgs s__law_leaf) (defBody s__law_leaf) (defScope s__law_leaf) .none kV14 dc14 pm14 an14 cd14 ct14), sl14⟩) (c14 : PySem.W.codeIn K cd14 "_law_leaf" = true) (k14 : PySem.W.keepIn K (.ref f14) = true)
    {od15 an15 : Option Addr} {sl15 : Array (Option Value)} {oc15 kV15 dc15 pm15 cd15 ct15 : Value} (a15 : PySem.W.nsIn K mainGlobals "_law_tree" = some (some (.ref f15)))
    (l15 : K.lookup f15 = some ⟨oc15, od15, .func (PySem.W.fnOf "_law_tree" "_law_tree" (defArgs s__law_tree) (defBody s__law_tree) (defScope s__law_tree) .none kV15 dc15 pm15 an15 cd15 ct15), sl15⟩) (c15 : PySem.W.codeIn K cd15 "_law_tree" = true) (k15 : PySem.W.keepIn K (.ref f15) = true)
    {od16 an16 : Option Addr} {sl16 : Array (Option Value)} {oc16 kV16 dc16 pm16 cd16 ct16 : Value} (a16 : PySem.W.nsIn K mainGlobals "_law_marked_tree" = some (some (.ref f16)))
    (l16 : K.lookup f16 = some ⟨oc16, od16, .func (PySem.W.fnOf "_law_marked_tree" "_law_marked_tree" (defArgs s__law_marked_tree) (defBody s__law_marked_tree) (defScope s__law_marked_tree) .none kV16 dc16 pm16 an16 cd16 ct16), sl16⟩) (c16 : PySem.W.codeIn K cd16 "_law_marked_tree" = true) (k16 : PySem.W.keepIn K (.ref f16) = true)
    {od17 an17 : Option Addr} {sl17 : Array (Option Value)} {oc17 kV17 dc17 pm17 cd17 ct17 : Value} (a17 : PySem.W.nsIn K mainGlobals "_law_is_word" = some (some (.ref f17)))
    (l17 : K.lookup f17 = some ⟨oc17, od17, .func (PySem.W.fnOf "_law_is_word" "_law_is_word" (defArgs s__law_is_word) (defBody s__law_is_word) (defScope s__law_is_word) .none kV17 dc17 pm17 an17 cd17 ct17), sl17⟩) (c17 : PySem.W.codeIn K cd17 "_law_is_word" = true) (k17 : PySem.W.keepIn K (.ref f17) = true)
    {od18 an18 : Option Addr} {sl18 : Array (Option Value)} {oc18 kV18 dc18 pm18 cd18 ct18 : Value} (a18 : PySem.W.nsIn K mainGlobals "_law_is_due" = some (some (.ref f18)))
    (l18 : K.lookup f18 = some ⟨oc18, od18, .func (PySem.W.fnOf "_law_is_due" "_law_is_due" (defArgs s__law_is_due) (defBody s__law_is_due) (defScope s__law_is_due) .none kV18 dc18 pm18 an18 cd18 ct18), sl18⟩) (c18 : PySem.W.codeIn K cd18 "_law_is_due" = true) (k18 : PySem.W.keepIn K (.ref f18) = true)
    {od19 an19 : Option Addr} {sl19 : Array (Option Value)} {oc19 kV19 dc19 pm19 cd19 ct19 : Value} (a19 : PySem.W.nsIn K mainGlobals "_law_bent" = some (some (.ref f19)))
    (l19 : K.lookup f19 = some ⟨oc19, od19, .func (PySem.W.fnOf "_law_bent" "_law_bent" (defArgs s__law_bent) (defBody s__law_bent) (defScope s__law_bent) .none kV19 dc19 pm19 an19 cd19 ct19), sl19⟩) (c19 : PySem.W.codeIn K cd19 "_law_bent" = true) (k19 : PySem.W.keepIn K (.ref f19) = true)
    {od20 an20 : Option Addr} {sl20 : Array (Option Value)} {oc20 kV20 dc20 pm20 cd20 ct20 : Value} (a20 : PySem.W.nsIn K mainGlobals "_law_chain" = some (some (.ref f20)))
    (l20 : K.lookup f20 = some ⟨oc20, od20, .func (PySem.W.fnOf "_law_chain" "_law_chain" (defArgs s__law_chain) (defBody s__law_chain) (defScope s__law_chain) .none kV20 dc20 pm20 an20 cd20 ct20), sl20⟩) (c20 : PySem.W.codeIn K cd20 "_law_chain" = true) (k20 : PySem.W.keepIn K (.ref f20) = true)
    {od21 an21 : Option Addr} {sl21 : Array (Option Value)} {oc21 kV21 dc21 pm21 cd21 ct21 : Value} (a21 : PySem.W.nsIn K mainGlobals "law" = some (some (.ref f21)))
    (l21 : K.lookup f21 = some ⟨oc21, od21, .func (PySem.W.fnOf "law" "law" (defArgs s_law) (defBody s_law) (defScope s_law) .none kV21 dc21 pm21 an21 cd21 ct21), sl21⟩) (c21 : PySem.W.codeIn K cd21 "law" = true) (k21 : PySem.W.keepIn K (.ref f21) = true)
    (z1 : PySem.W.nsIn K mainGlobals "abs" = some none)
    (z2 : PySem.W.nsIn K mainGlobals "int" = some none)
    (z3 : PySem.W.nsIn K mainGlobals "len" = some none)
    (z4 : PySem.W.nsIn K mainGlobals "list" = some none)
    (z5 : PySem.W.nsIn K mainGlobals "tuple" = some none)
    (z6 : PySem.W.nsIn K mainGlobals "range" = some none)
    (z7 : PySem.W.nsIn K mainGlobals "sorted" = some none)
    (z8 : PySem.W.nsIn K mainGlobals "isinstance" = some none)
    (z9 : PySem.W.nsIn K mainGlobals "str" = some none)
    (z10 : PySem.W.nsIn K mainGlobals "bool" = some none)
    (z11 : PySem.W.nsIn K mainGlobals "all" = some none)
    (z12 : PySem.W.nsIn K mainGlobals "set" = some none)
    (z13 : PySem.W.nsIn K mainGlobals "repr" = some none)
    (z14 : PySem.W.nsIn K mainGlobals "min" = some none)
    {t1 t2 t3 : Tok} {bb be bt : Addr} {bo eo to : Obj} {its ets tts : Array Value} {bn en tn : Nat} (y1 : PySem.W.nsIn K mainGlobals "LETTERS" = some (some (.str lettersS t1))) (y2 : PySem.W.nsIn K mainGlobals "MOST_LETTERS" = some (some (.int 6 t2))) (y3 : PySem.W.nsIn K mainGlobals "MOST_LEVELS" = some (some (.int 12 t3)))
    (y4 : PySem.W.nsIn K mainGlobals "BARRED" = some (some (.ref bb))) (y5 : K.lookup bb = some bo) (y6 : bo.cls = .type "tuple") (y7 : bo.data = .seq its bn) (y8 : its.size ≤ sizeLine) (y9 : Vals (barredD.map valD) its.toList)
    (u4 : PySem.W.nsIn K mainGlobals "TEST_WORDS" = some (some (.ref be))) (u5 : K.lookup be = some eo) (u6 : eo.cls = .type "tuple") (u7 : eo.data = .seq ets en) (u8 : ets.size ≤ sizeLine) (u9 : Vals (testW.map V.str) ets.toList)
    (v4 : PySem.W.nsIn K mainGlobals "TREE_WORDS" = some (some (.ref bt))) (v5 : K.lookup bt = some to) (v6 : to.cls = .type "tuple") (v7 : to.data = .seq tts tn) (v8 : tts.size ≤ sizeLine) (v9 : Vals (treeW.map V.str) tts.toList) :
    ∃ fd : FuncData, (∀ (s : Shared) (u : Value), BindsTo s fd ⟨[u], []⟩ [("script", u)]) ∧ ∀ base : Heap, K.In base → base.Ns mainGlobals mg → (∃ m, base.Ns sysModules m) → FnG l.prog w K mg base 33 fa fd ["script"] (spLaw K) := by
  have e := hfa.symm.trans (PySem.W.mg_of X G a21)
  cases e
  have F1 := fun_mk (st := s_is_count) l1 c1 k1
  have F2 := fun_mk (st := s_is_field) l2 c2 k2
  have F3 := fun_mk (st := s_is_tree) l3 c3 k3
  have F4 := fun_mk (st := s_is_test) l4 c4 k4
  have F5 := fun_mk (st := s_is_made_of) l5 c5 k5
  have F6 := fun_mk (st := s__law_begun) l6 c6 k6
  have F7 := fun_mk (st := s__law_mixed) l7 c7 k7
  have F8 := fun_mk (st := s__law_take) l8 c8 k8
  have F9 := fun_mk (st := s__law_pick) l9 c9 k9
  have F10 := fun_mk (st := s__law_shuffled) l10 c10 k10
  have F11 := fun_mk (st := s__law_odd) l11 c11 k11
  have F12 := fun_mk (st := s__law_frame) l12 c12 k12
  have F13 := fun_mk (st := s__law_test) l13 c13 k13
  have F14 := fun_mk (st := s__law_leaf) l14 c14 k14
  have F15 := fun_mk (st := s__law_tree) l15 c15 k15
  have F16 := fun_mk (st := s__law_marked_tree) l16 c16 k16
  have F17 := fun_mk (st := s__law_is_word) l17 c17 k17
  have F18 := fun_mk (st := s__law_is_due) l18 c18 k18
  have F19 := fun_mk (st := s__law_bent) l19 c19 k19
  have F20 := fun_mk (st := s__law_chain) l20 c20 k20
  have F21 := fun_mk (st := s_law) l21 c21 k21
  have T : Blt mg := { abs := PySem.W.mg_none_of X G z1, int := PySem.W.mg_none_of X G z2, len := PySem.W.mg_none_of X G z3, list := PySem.W.mg_none_of X G z4, tuple := PySem.W.mg_none_of X G z5, range := PySem.W.mg_none_of X G z6, sorted := PySem.W.mg_none_of X G z7, isinstance := PySem.W.mg_none_of X G z8, str := PySem.W.mg_none_of X G z9, bool := PySem.W.mg_none_of X G z10, all := PySem.W.mg_none_of X G z11, set := PySem.W.mg_none_of X G z12, repr := PySem.W.mg_none_of X G z13, min := PySem.W.mg_none_of X G z14 }
  have C : Cst K mg := { letters := ⟨_, PySem.W.mg_of X G y1⟩, most_letters := ⟨_, PySem.W.mg_of X G y2⟩, barred := ⟨bb, bo, its, bn, PySem.W.mg_of X G y4, y5, y6, y7, y8, y9⟩ }
  have C1 : TupC K mg "TEST_WORDS" testW := ⟨be, eo, ets, en, PySem.W.mg_of X G u4, u5, u6, u7, u8, u9⟩
  have C2 : TupC K mg "TREE_WORDS" treeW := ⟨bt, to, tts, tn, PySem.W.mg_of X G v4, v5, v6, v7, v8, v9⟩
  have C3 : ∃ t, mg "MOST_LEVELS" = some (.int 12 t) := ⟨_, PySem.W.mg_of X G y3⟩
  refine ⟨PySem.W.fnOf "law" "law" (defArgs s_law) (defBody s_law) (defScope s_law) .none kV21 dc21 pm21 an21 cd21 ct21, fun s u => .of_eq rfl, fun base _ _ hs => ?_⟩
  have M1 : ∀ {k : Nat} {sp : Sp} {fd : FuncData}, fd = PySem.W.fnOf "is_count" "is_count" (defArgs s_is_count) (defBody s_is_count) (defScope s_is_count) .none kV1 dc1 pm1 an1 cd1 ct1 → FnG l.prog w K mg base k f1 fd ["thing"] sp → Def l.prog w K mg base "is_count" k ["thing"] sp := fun e ok => ⟨_, _, PySem.W.mg_of X G a1, k1, e ▸ F1.binds (ps := ["thing"]) fun _ _ _ _ _ _ us hl => match us, hl with | [_], _ => rfl, ok⟩
  have M2 : ∀ {k : Nat} {sp : Sp} {fd : FuncData}, fd = PySem.W.fnOf "is_field" "is_field" (defArgs s_is_field) (defBody s_is_field) (defScope s_is_field) .none kV2 dc2 pm2 an2 cd2 ct2 → FnG l.prog w K mg base k f2 fd ["thing"] sp → Def l.prog w K mg base "is_field" k ["thing"] sp := fun e ok => ⟨_, _, PySem.W.mg_of X G a2, k2, e ▸ F2.binds (ps := ["thing"]) fun _ _ _ _ _ _ us hl => match us, hl with | [_], _ => rfl, ok⟩
  have M3 : ∀ {k : Nat} {sp : Sp} {fd : FuncData}, fd = PySem.W.fnOf "is_tree" "is_tree" (defArgs s_is_tree) (defBody s_is_tree) (defScope s_is_tree) .none kV3 dc3 pm3 an3 cd3 ct3 → FnG l.prog w K mg base k f3 fd ["thing"] sp → Def l.prog w K mg base "is_tree" k ["thing"] sp := fun e ok => ⟨_, _, PySem.W.mg_of X G a3, k3, e ▸ F3.binds (ps := ["thing"]) fun _ _ _ _ _ _ us hl => match us, hl with | [_], _ => rfl, ok⟩
  have M4 : ∀ {k : Nat} {sp : Sp} {fd : FuncData}, fd = PySem.W.fnOf "is_test" "is_test" (defArgs s_is_test) (defBody s_is_test) (defScope s_is_test) .none kV4 dc4 pm4 an4 cd4 ct4 → FnG l.prog w K mg base k f4 fd ["thing"] sp → Def l.prog w K mg base "is_test" k ["thing"] sp := fun e ok => ⟨_, _, PySem.W.mg_of X G a4, k4, e ▸ F4.binds (ps := ["thing"]) fun _ _ _ _ _ _ us hl => match us, hl with | [_], _ => rfl, ok⟩
  have M5 : ∀ {k : Nat} {sp : Sp} {fd : FuncData}, fd = PySem.W.fnOf "is_made_of" "is_made_of" (defArgs s_is_made_of) (defBody s_is_made_of) (defScope s_is_made_of) .none kV5 dc5 pm5 an5 cd5 ct5 → FnG l.prog w K mg base k f5 fd ["thing", "words", "levels"] sp → Def l.prog w K mg base "is_made_of" k ["thing", "words", "levels"] sp := fun e ok => ⟨_, _, PySem.W.mg_of X G a5, k5, e ▸ F5.binds (ps := ["thing", "words", "levels"]) fun _ _ _ _ _ _ us hl => match us, hl with | [_, _, _], _ => rfl, ok⟩
  have M6 : ∀ {k : Nat} {sp : Sp} {fd : FuncData}, fd = PySem.W.fnOf "_law_begun" "_law_begun" (defArgs s__law_begun) (defBody s__law_begun) (defScope s__law_begun) .none kV6 dc6 pm6 an6 cd6 ct6 → FnG l.prog w K mg base k f6 fd ["script"] sp → Def l.prog w K mg base "_law_begun" k ["script"] sp := fun e ok => ⟨_, _, PySem.W.mg_of X G a6, k6, e ▸ F6.binds (ps := ["script"]) fun _ _ _ _ _ _ us hl => match us, hl with | [_], _ => rfl, ok⟩
  have M7 : ∀ {k : Nat} {sp : Sp} {fd : FuncData}, fd = PySem.W.fnOf "_law_mixed" "_law_mixed" (defArgs s__law_mixed) (defBody s__law_mixed) (defScope s__law_mixed) .none kV7 dc7 pm7 an7 cd7 ct7 → FnG l.prog w K mg base k f7 fd ["state"] sp → Def l.prog w K mg base "_law_mixed" k ["state"] sp := fun e ok => ⟨_, _, PySem.W.mg_of X G a7, k7, e ▸ F7.binds (ps := ["state"]) fun _ _ _ _ _ _ us hl => match us, hl with | [_], _ => rfl, ok⟩
  have M8 : ∀ {k : Nat} {sp : Sp} {fd : FuncData}, fd = PySem.W.fnOf "_law_take" "_law_take" (defArgs s__law_take) (defBody s__law_take) (defScope s__law_take) .none kV8 dc8 pm8 an8 cd8 ct8 → FnG l.prog w K mg base k f8 fd ["state", "size"] sp → Def l.prog w K mg base "_law_take" k ["state", "size"] sp := fun e ok => ⟨_, _, PySem.W.mg_of X G a8, k8, e ▸ F8.binds (ps := ["state", "size"]) fun _ _ _ _ _ _ us hl => match us, hl with | [_, _], _ => rfl, ok⟩
  have M9 : ∀ {k : Nat} {sp : Sp} {fd : FuncData}, fd = PySem.W.fnOf "_law_pick" "_law_pick" (defArgs s__law_pick) (defBody s__law_pick) (defScope s__law_pick) .none kV9 dc9 pm9 an9 cd9 ct9 → FnG l.prog w K mg base k f9 fd ["state", "some"] sp → Def l.prog w K mg base "_law_pick" k ["state", "some"] sp := fun e ok => ⟨_, _, PySem.W.mg_of X G a9, k9, e ▸ F9.binds (ps := ["state", "some"]) fun _ _ _ _ _ _ us hl => match us, hl with | [_, _], _ => rfl, ok⟩
  have M10 : ∀ {k : Nat} {sp : Sp} {fd : FuncData}, fd = PySem.W.fnOf "_law_shuffled" "_law_shuffled" (defArgs s__law_shuffled) (defBody s__law_shuffled) (defScope s__law_shuffled) .none kV10 dc10 pm10 an10 cd10 ct10 → FnG l.prog w K mg base k f10 fd ["state", "some"] sp → Def l.prog w K mg base "_law_shuffled" k ["state", "some"] sp := fun e ok => ⟨_, _, PySem.W.mg_of X G a10, k10, e ▸ F10.binds (ps := ["state", "some"]) fun _ _ _ _ _ _ us hl => match us, hl with | [_, _], _ => rfl, ok⟩
  have M11 : ∀ {k : Nat} {sp : Sp} {fd : FuncData}, fd = PySem.W.fnOf "_law_odd" "_law_odd" (defArgs s__law_odd) (defBody s__law_odd) (defScope s__law_odd) .none kV11 dc11 pm11 an11 cd11 ct11 → FnG l.prog w K mg base k f11 fd ["state"] sp → Def l.prog w K mg base "_law_odd" k ["state"] sp := fun e ok => ⟨_, _, PySem.W.mg_of X G a11, k11, e ▸ F11.binds (ps := ["state"]) fun _ _ _ _ _ _ us hl => match us, hl with | [_], _ => rfl, ok⟩
  have M12 : ∀ {k : Nat} {sp : Sp} {fd : FuncData}, fd = PySem.W.fnOf "_law_frame" "_law_frame" (defArgs s__law_frame) (defBody s__law_frame) (defScope s__law_frame) .none kV12 dc12 pm12 an12 cd12 ct12 → FnG l.prog w K mg base k f12 fd ["state", "upto"] sp → Def l.prog w K mg base "_law_frame" k ["state", "upto"] sp := fun e ok => ⟨_, _, PySem.W.mg_of X G a12, k12, e ▸ F12.binds (ps := ["state", "upto"]) fun _ _ _ _ _ _ us hl => match us, hl with | [_, _], _ => rfl, ok⟩
  have M13 : ∀ {k : Nat} {sp : Sp} {fd : FuncData}, fd = PySem.W.fnOf "_law_test" "_law_test" (defArgs s__law_test) (defBody s__law_test) (defScope s__law_test) .none kV13 dc13 pm13 an13 cd13 ct13 → FnG l.prog w K mg base k f13 fd ["state", "frame", "deep"] sp → Def l.prog w K mg base "_law_test" k ["state", "frame", "deep"] sp := fun e ok => ⟨_, _, PySem.W.mg_of X G a13, k13, e ▸ F13.binds (ps := ["state", "frame", "deep"]) fun _ _ _ _ _ _ us hl => match us, hl with | [_, _, _], _ => rfl, ok⟩
  have M14 : ∀ {k : Nat} {sp : Sp} {fd : FuncData}, fd = PySem.W.fnOf "_law_leaf" "_law_leaf" (defArgs s__law_leaf) (defBody s__law_leaf) (defScope s__law_leaf) .none kV14 dc14 pm14 an14 cd14 ct14 → FnG l.prog w K mg base k f14 fd ["state", "frame"] sp → Def l.prog w K mg base "_law_leaf" k ["state", "frame"] sp := fun e ok => ⟨_, _, PySem.W.mg_of X G a14, k14, e ▸ F14.binds (ps := ["state", "frame"]) fun _ _ _ _ _ _ us hl => match us, hl with | [_, _], _ => rfl, ok⟩
  have M15 : ∀ {k : Nat} {sp : Sp} {fd : FuncData}, fd = PySem.W.fnOf "_law_tree" "_law_tree" (defArgs s__law_tree) (defBody s__law_tree) (defScope s__law_tree) .none kV15 dc15 pm15 an15 cd15 ct15 → FnG l.prog w K mg base k f15 fd ["state", "frame", "deep"] sp → Def l.prog w K mg base "_law_tree" k ["state", "frame", "deep"] sp := fun e ok => ⟨_, _, PySem.W.mg_of X G a15, k15, e ▸ F15.binds (ps := ["state", "frame", "deep"]) fun _ _ _ _ _ _ us hl => match us, hl with | [_, _, _], _ => rfl, ok⟩
  have M16 : ∀ {k : Nat} {sp : Sp} {fd : FuncData}, fd = PySem.W.fnOf "_law_marked_tree" "_law_marked_tree" (defArgs s__law_marked_tree) (defBody s__law_marked_tree) (defScope s__law_marked_tree) .none kV16 dc16 pm16 an16 cd16 ct16 → FnG l.prog w K mg base k f16 fd ["state", "frame", "deep", "marks"] sp → Def l.prog w K mg base "_law_marked_tree" k ["state", "frame", "deep", "marks"] sp := fun e ok => ⟨_, _, PySem.W.mg_of X G a16, k16, e ▸ F16.binds (ps := ["state", "frame", "deep", "marks"]) fun _ _ _ _ _ _ us hl => match us, hl with | [_, _, _, _], _ => rfl, ok⟩
  have M17 : ∀ {k : Nat} {sp : Sp} {fd : FuncData}, fd = PySem.W.fnOf "_law_is_word" "_law_is_word" (defArgs s__law_is_word) (defBody s__law_is_word) (defScope s__law_is_word) .none kV17 dc17 pm17 an17 cd17 ct17 → FnG l.prog w K mg base k f17 fd ["thing_here"] sp → Def l.prog w K mg base "_law_is_word" k ["thing_here"] sp := fun e ok => ⟨_, _, PySem.W.mg_of X G a17, k17, e ▸ F17.binds (ps := ["thing_here"]) fun _ _ _ _ _ _ us hl => match us, hl with | [_], _ => rfl, ok⟩
  have M18 : ∀ {k : Nat} {sp : Sp} {fd : FuncData}, fd = PySem.W.fnOf "_law_is_due" "_law_is_due" (defArgs s__law_is_due) (defBody s__law_is_due) (defScope s__law_is_due) .none kV18 dc18 pm18 an18 cd18 ct18 → FnG l.prog w K mg base k f18 fd ["matter", "levels", "is_bare"] sp → Def l.prog w K mg base "_law_is_due" k ["matter", "levels", "is_bare"] sp := fun e ok => ⟨_, _, PySem.W.mg_of X G a18, k18, e ▸ F18.binds (ps := ["matter", "levels", "is_bare"]) fun _ _ _ _ _ _ us hl => match us, hl with | [_, _, _], _ => rfl, ok⟩
  have M19 : ∀ {k : Nat} {sp : Sp} {fd : FuncData}, fd = PySem.W.fnOf "_law_bent" "_law_bent" (defArgs s__law_bent) (defBody s__law_bent) (defScope s__law_bent) .none kV19 dc19 pm19 an19 cd19 ct19 → FnG l.prog w K mg base k f19 fd ["state", "matter"] sp → Def l.prog w K mg base "_law_bent" k ["state", "matter"] sp := fun e ok => ⟨_, _, PySem.W.mg_of X G a19, k19, e ▸ F19.binds (ps := ["state", "matter"]) fun _ _ _ _ _ _ us hl => match us, hl with | [_, _], _ => rfl, ok⟩
  have M20 : ∀ {k : Nat} {sp : Sp} {fd : FuncData}, fd = PySem.W.fnOf "_law_chain" "_law_chain" (defArgs s__law_chain) (defBody s__law_chain) (defScope s__law_chain) .none kV20 dc20 pm20 an20 cd20 ct20 → FnG l.prog w K mg base k f20 fd ["state", "many"] sp → Def l.prog w K mg base "_law_chain" k ["state", "many"] sp := fun e ok => ⟨_, _, PySem.W.mg_of X G a20, k20, e ▸ F20.binds (ps := ["state", "many"]) fun _ _ _ _ _ _ us hl => match us, hl with | [_, _], _ => rfl, ok⟩
  have G_is_count : Def l.prog w K mg base "is_count" 1 ["thing"] (spCount K) := M1 rfl (ok_is_count F1 T)
  have G_is_field : Def l.prog w K mg base "is_field" 1 ["thing"] (spField K) := M2 rfl (ok_is_field F2 T C)
  have G__law_begun : Def l.prog w K mg base "_law_begun" 1 ["script"] (spBegun K) := M6 rfl (ok_begun F6 T)
  have G__law_mixed : Def l.prog w K mg base "_law_mixed" 1 ["state"] (spMixed) := M7 rfl (ok_mixed F7 T)
  have G__law_take : Def l.prog w K mg base "_law_take" 2 ["state", "size"] (spTake) := M8 rfl (ok_take F8 T G__law_mixed)
  have G__law_pick : Def l.prog w K mg base "_law_pick" 3 ["state", "some"] (spPick K) := M9 rfl (ok_pick F9 T G__law_take)
  have G__law_shuffled : Def l.prog w K mg base "_law_shuffled" 3 ["state", "some"] (spShuf K) := M10 rfl (ok_shuf F10 T G__law_take)
  have G__law_odd : Def l.prog w K mg base "_law_odd" 4 ["state"] (spOdd K) := M11 rfl (ok_odd F11 T G__law_pick)
  have G__law_frame : Def l.prog w K mg base "_law_frame" 4 ["state", "upto"] (spFrame5 K) := M12 rfl (ok_frame F12 T G__law_take G__law_shuffled)
  have G__law_is_word : Def l.prog w K mg base "_law_is_word" 1 ["thing_here"] (spWord K) := M17 rfl (ok_word F17 T)
  have G__law_chain : Def l.prog w K mg base "_law_chain" 4 ["state", "many"] (spChain K) := M20 rfl (ok_chain F20 T G__law_pick)
  have made : ∀ n : Nat, FnG l.prog w K mg base (n + 3) f5 (PySem.W.fnOf "is_made_of" "is_made_of" (defArgs s_is_made_of) (defBody s_is_made_of) (defScope s_is_made_of) .none kV5 dc5 pm5 an5 cd5 ct5) ["thing", "words", "levels"] (spMade K n) := fun n => by
    induction n with
    | zero => exact ok_made 0 F5 T C1 G_is_field G_is_count (M5 rfl (fnG_false (k := 2)))
    | succ n ih => exact ok_made (n + 1) F5 T C1 G_is_field G_is_count (M5 rfl ih)
  have due : ∀ n : Nat, FnG l.prog w K mg base (n + 3) f18 (PySem.W.fnOf "_law_is_due" "_law_is_due" (defArgs s__law_is_due) (defBody s__law_is_due) (defScope s__law_is_due) .none kV18 dc18 pm18 an18 cd18 ct18) ["matter", "levels", "is_bare"] (spDue K n) := fun n => by
    induction n with
    | zero => exact ok_due 0 F18 T G__law_is_word (M18 rfl (fnG_false (k := 2)))
    | succ n ih => exact ok_due (n + 1) F18 T G__law_is_word (M18 rfl ih)
  have bent : ∀ n : Nat, FnG l.prog w K mg base (n + 5) f19 (PySem.W.fnOf "_law_bent" "_law_bent" (defArgs s__law_bent) (defBody s__law_bent) (defScope s__law_bent) .none kV19 dc19 pm19 an19 cd19 ct19) ["state", "matter"] (spBent K n) := fun n => by
    induction n with
    | zero => exact ok_bent 0 F19 T G__law_take G__law_pick G__law_odd (M19 rfl (fnG_false (k := 4)))
    | succ n ih => exact ok_bent (n + 1) F19 T G__law_take G__law_pick G__law_odd (M19 rfl ih)
  have t0 := ok_test 0 (by decide) F13 T G__law_take G__law_pick (M13 rfl (fnG_false (k := 3)))
  have t1 := ok_test 1 (by decide) F13 T G__law_take G__law_pick (M13 rfl t0)
  have t2 := ok_test 2 (by decide) F13 T G__law_take G__law_pick (M13 rfl t1)
  have t3 := ok_test 3 (by decide) F13 T G__law_take G__law_pick (M13 rfl t2)
  have G__law_leaf : Def l.prog w K mg base "_law_leaf" 5 ["state", "frame"] (spLeaf K) := M14 rfl (ok_leaf F14 T G__law_take G__law_pick G__law_shuffled (M13 rfl t0))
  have x0 := ok_tree 0 (by decide) F15 T G__law_take G__law_leaf (M13 rfl t2) (M15 rfl (fnG_false (k := 7)))
  have x1 := ok_tree 1 (by decide) F15 T G__law_take G__law_leaf (M13 rfl t2) (M15 rfl x0)
  have x2 := ok_tree 2 (by decide) F15 T G__law_take G__law_leaf (M13 rfl t2) (M15 rfl x1)
  have x3 := ok_tree 3 (by decide) F15 T G__law_take G__law_leaf (M13 rfl t2) (M15 rfl x2)
  have G__law_marked_tree : Def l.prog w K mg base "_law_marked_tree" 12 ["state", "frame", "deep", "marks"] (spMarked K) := M16 rfl (ok_marked F16 T (M15 rfl x3))
  have G__law_bent : Def l.prog w K mg base "_law_bent" 31 ["state", "matter"] (spBentU K) := M19 rfl (⟨fun vs H Q E h => (by obtain ⟨n, hn, h⟩ := h; exact spBent_len h), fun A outer s H args us vs Q E hr e b v h => (by obtain ⟨n, hn, h⟩ := h; exact ((bent n).mono (by omega)).go A outer s H args us vs Q E hr e b v h)⟩)
  have G__law_test : Def l.prog w K mg base "_law_test" 7 ["state", "frame", "deep"] (spTest K 3) := M13 rfl (t3)
  have G__law_is_due : Def l.prog w K mg base "_law_is_due" 15 ["matter", "levels", "is_bare"] (spDue K 12) := M18 rfl (due 12)
  have G_is_made_of : Def l.prog w K mg base "is_made_of" 15 ["thing", "words", "levels"] (spMade K 12) := M5 rfl (made 12)
  have G_is_tree : Def l.prog w K mg base "is_tree" 16 ["thing"] (spTreeJ K false) := M3 rfl (ok_is_tree F3 C2 C3 G_is_made_of)
  have G_is_test : Def l.prog w K mg base "is_test" 16 ["thing"] (spTreeJ K true) := M4 rfl (ok_is_test F4 C1 C3 G_is_made_of)
  have B_is_tree : DefK l.prog w K mg base "is_tree" 16 ["thing"] ["thing"] (fun zs => zs) (spTreeJ K false) := ⟨_, _, _, PySem.W.mg_of X G a3, k3, kb_thing (dV := .none) fun _ => rfl, ok_is_tree F3 C2 C3 G_is_made_of⟩
  have B_is_test : DefK l.prog w K mg base "is_test" 16 ["thing"] ["thing"] (fun zs => zs) (spTreeJ K true) := ⟨_, _, _, PySem.W.mg_of X G a4, k4, kb_thing (dV := .none) fun _ => rfl, ok_is_test F4 C1 C3 G_is_made_of⟩
  exact ok_law F21 T hs G__law_begun G__law_take G__law_pick G__law_frame G__law_marked_tree G__law_test G__law_chain G__law_bent G__law_is_due G_is_tree G_is_test B_is_tree B_is_test
end Mw
open PySem PySem.W PyProof.Rows
set_option maxHeartbeats 0 in
theorem PySem.Challenge.cw_markedways_k05_trees_judged_holds : PySem.Challenge.rw_markedways_k05_trees_judged.Holds := by
  w_on; o_law; k_head; (case hw => w_witness2)
  k_fill
  refine Mw.walk_G (l := PySem.Challenge.rw_markedways_k05_trees_judged) (n := 63) (k := 33) (x := "script") (sp := fun K => Mw.spLaw K) rfl (by decide) rfl ⟨⟨rfl, by decide, by decide⟩, rfl⟩ (by decide +kernel) (fun w h Y => PySem.W.kIn_of Y) ?F (fun K H a ns hl _ hO hS => ⟨a, ns, rfl, hO, hS, hl, fun _ => rfl⟩)
  case F =>
    intro w mg fa h KX G hmg
    refine' Mw.all_mk KX G hmg ?a1 ?l1 ?c1 ?k1 ?a2 ?l2 ?c2 ?k2 ?a3 ?l3 ?c3 ?k3 ?a4 ?l4 ?c4 ?k4 ?a5 ?l5 ?c5 ?k5 ?a6 ?l6 ?c6 ?k6 ?a7 ?l7 ?c7 ?k7 ?a8 ?l8 ?c8 ?k8 ?a9 ?l9 ?c9 ?k9 ?a10 ?l10 ?c10 ?k10 ?a11 ?l11 ?c11 ?k11 ?a12 ?l12 ?c12 ?k12 ?a13 ?l13 ?c13 ?k13 ?a14 ?l14 ?c14 ?k14 ?a15 ?l15 ?c15 ?k15 ?a16 ?l16 ?c16 ?k16 ?a17 ?l17 ?c17 ?k17 ?a18 ?l18 ?c18 ?k18 ?a19 ?l19 ?c19 ?k19 ?a20 ?l20 ?c20 ?k20 ?a21 ?l21 ?c21 ?k21 ?z1 ?z2 ?z3 ?z4 ?z5 ?z6 ?z7 ?z8 ?z9 ?z10 ?z11 ?z12 ?z13 ?z14 ?y1 ?y2 ?y3 ?y4 ?y5 ?y6 ?y7 ?y8 ?y9 ?u4 ?u5 ?u6 ?u7 ?u8 ?u9 ?v4 ?v5 ?v6 ?v7 ?v8 ?v9
    (case a1 => k_is); (case l1 => k_is); (case c1 => k_is); (case k1 => k_is); (case a2 => k_is); (case l2 => k_is); (case c2 => k_is); (case k2 => k_is); (case a3 => k_is); (case l3 => k_is); (case c3 => k_is); (case k3 => k_is); (case a4 => k_is); (case l4 => k_is); (case c4 => k_is); (case k4 => k_is); (case a5 => k_is); (case l5 => k_is); (case c5 => k_is); (case k5 => k_is); (case a6 => k_is); (case l6 => k_is); (case c6 => k_is); (case k6 => k_is); (case a7 => k_is); (case l7 => k_is); (case c7 => k_is); (case k7 => k_is); (case a8 => k_is); (case l8 => k_is); (case c8 => k_is); (case k8 => k_is); (case a9 => k_is); (case l9 => k_is); (case c9 => k_is); (case k9 => k_is); (case a10 => k_is); (case l10 => k_is); (case c10 => k_is); (case k10 => k_is); (case a11 => k_is); (case l11 => k_is); (case c11 => k_is); (case k11 => k_is); (case a12 => k_is); (case l12 => k_is); (case c12 => k_is); (case k12 => k_is); (case a13 => k_is); (case l13 => k_is); (case c13 => k_is); (case k13 => k_is); (case a14 => k_is); (case l14 => k_is); (case c14 => k_is); (case k14 => k_is); (case a15 => k_is); (case l15 => k_is); (case c15 => k_is); (case k15 => k_is); (case a16 => k_is); (case l16 => k_is); (case c16 => k_is); (case k16 => k_is); (case a17 => k_is); (case l17 => k_is); (case c17 => k_is); (case k17 => k_is); (case a18 => k_is); (case l18 => k_is); (case c18 => k_is); (case k18 => k_is); (case a19 => k_is); (case l19 => k_is); (case c19 => k_is); (case k19 => k_is); (case a20 => k_is); (case l20 => k_is); (case c20 => k_is); (case k20 => k_is); (case a21 => k_is); (case l21 => k_is); (case c21 => k_is); (case k21 => k_is); (case z1 => k_is); (case z2 => k_is); (case z3 => k_is); (case z4 => k_is); (case z5 => k_is); (case z6 => k_is); (case z7 => k_is); (case z8 => k_is); (case z9 => k_is); (case z10 => k_is); (case z11 => k_is); (case z12 => k_is); (case z13 => k_is); (case z14 => k_is); (case y1 => k_is); (case y2 => k_is); (case y3 => k_is); (case y4 => k_is); (case y5 => k_is); (case u4 => k_is); (case u5 => k_is); (case v4 => k_is); (case v5 => k_is)
    (case y6 => rfl); (case y7 => rfl); (case y8 => decide)
    case y9 => exact .cons ⟨_, rfl⟩ (.cons ⟨_, rfl⟩ (.cons ⟨_, rfl⟩ (.cons ⟨_, rfl⟩ (.nil))))
    (case u6 => rfl); (case u7 => rfl); (case u8 => decide)
    case u9 => exact .cons ⟨_, rfl⟩ (.cons ⟨_, rfl⟩ (.cons ⟨_, rfl⟩ (.cons ⟨_, rfl⟩ (.cons ⟨_, rfl⟩ (.cons ⟨_, rfl⟩ (.nil))))))
    (case v6 => rfl); (case v7 => rfl); (case v8 => decide)
    case v9 => exact .cons ⟨_, rfl⟩ (.cons ⟨_, rfl⟩ (.cons ⟨_, rfl⟩ (.cons ⟨_, rfl⟩ (.cons ⟨_, rfl⟩ (.cons ⟨_, rfl⟩ (.cons ⟨_, rfl⟩ (.cons ⟨_, rfl⟩ (.cons ⟨_, rfl⟩ (.cons ⟨_, rfl⟩ (.nil))))))))))
