import PyProof.Rows.All
import Wide.All
import OpenK.AllK
import Wide.FinOn
import HandS.ForMost
import HandS.Wide
import HandS.IsInst
import HandS.Defaults
import PyProof.ReprRoads
import HandS.Flow
import HandS.Style
import PySem.Challenge.RW_blockmoves_k01_names_symbols_values
import HandS.Set
import HandS.SetFor
import HandS.Strs
import HandS.List
import HandS.More
import HandS.Walk
import HandS.Comp
import HandS.DeepEq
import HandS.Sort
import HandS.ExcInit
import HandS.ExcField
import KE.KExcIs
import HandS.MakeKwOnly
import HandS.ExcOwn
import HandS.ExcValue
import HandS.ExcIs
import HandS.Head0
import HandS.Head1
import HandS.Head2
import HandS.HeadEnd
import HandS.HeadHook1
import HandS.HeadHook2
set_option Elab.async false
set_option linter.all false
set_option maxRecDepth 100000
/-! ## LwA -/
set_option maxHeartbeats 4000000
namespace Lw
open PySem PySem.Spec PyProof.Rows L2

/-! ### an object looked at in another way -/
/-- what may be looked at otherwise -/
def Lt : HO → Prop
  | .lst _ => True
  | .ext _ => True
  | _ => False
/-- the same heap, some lists looked at otherwise -/
structure Rc (H H1 : Hp) : Prop where
  no : ∀ b, H b = none → H1 b = none
  lt : ∀ b o, H b = some o → H1 b = some o ∨ (Lt o ∧ ∃ o', H1 b = some o' ∧ Lt o')
theorem Rc.keep {H H1 : Hp} (r : Rc H H1) {b : Addr} {o : HO} (h : H b = some o) (n : ¬ Lt o) : H1 b = some o := by
  rcases r.lt b o h with e | ⟨l, _⟩
  · exact e
  · exact absurd l n
theorem Rc.refl (H : Hp) : Rc H H := ⟨fun _ h => h, fun _ _ h => .inl h⟩
theorem Rc.put {H : Hp} {a : Addr} {o u : HO} (h : H a = some o) (l : Lt o) (l' : Lt u) : Rc H (upd H a u) := ⟨fun b n => by
    rw [upd_ne (fun z => by rw [z, h] at n; cases n)]
    exact n, fun b v e => by
    by_cases hb : b = a
    · subst hb
      rw [h] at e
      cases e
      exact .inr ⟨l, u, upd_same, l'⟩
    · exact .inl (by rw [upd_ne hb]; exact e)⟩
section
variable {P : Program} {w : World} {H H1 H2 H3 : Hp} {h h' : Heap} {fs ex : List Addr}
theorem Rc.hok {a : Addr} {o u : HO} (x : HOk P w H h) (e : H a = some o) (l : Lt o) (new : ObjOk P w H h a u) : HOk P w (upd H a u) h := fun b v q => by
  have no : ∀ {c : Addr} {z : HO}, H c = some z → ¬ Lt z → c ≠ a := fun {c z} hc n q => by
    rw [q, e] at hc
    cases hc
    exact n l
  have stay : ∀ {b : Addr} {v : HO}, ObjOk P w H h b v → ObjOk P w (L2.upd H a u) h b v := fun {b v} x => x.stay (fun c v _ q => q) (fun c q => by rw [upd_ne (no q fun z => z)]; exact q) fun c xs q => by rw [upd_ne (no q fun z => z)]; exact q
  by_cases hb : b = a
  · subst hb
    rw [upd_same] at q
    cases q
    exact stay new
  · rw [upd_ne hb] at q
    exact stay (x b v q)
theorem Rc.un (r : Rc H H1) (r' : Rc H2 H3) (U : Un fs ex H1 H2 h h') : Un fs ex H H3 h h' where
  keep := fun b o q n h1 h2 => U.keep b o q (r.no b n) h1 h2
  slot := fun b o q n h1 h2 => U.slot b o q (r.no b n) h1 h2
  free := fun b o q n h1 => r'.no b (U.free b o q (r.no b n) h1)
  there := fun b o q h1 => U.there b o q h1
  tups := fun b xs q => r'.keep (U.tups b xs (r.keep q fun z => z)) fun z => z
  frzs := fun b o u q => r'.keep (U.frzs b o u (r.keep q fun z => z)) fun z => z
  tbls := fun b ps q => by
    obtain ⟨m, e⟩ := U.tbls b ps (r.keep q fun z => z)
    exact ⟨m, r'.keep e fun z => z⟩
end
theorem Rc.back {H H1 : Hp} (r : Rc H H1) {b : Addr} (n : H1 b = none) : H b = none := by
  cases e : H b with
  | none => rfl
  | some o =>
    rcases r.lt b o e with q | ⟨_, o', q, _⟩
    · rw [n] at q
      cases q
    · rw [n] at q
      cases q
/-- a promise over the other look -/
theorem recast {P : Program} {w : World} {K : PySem.W.Frag} {mg : Str → Option Value} {base : Heap} {k : Nat} {f : Addr} {fd : FuncData} {ps : List Str} {sp sp' : Sp} (F : FnOk P w K mg base CX0 k f fd ps sp) (len : ∀ vs H Q E, sp' vs H Q E → vs.length = ps.length)
    (hs : ∀ vs H Q E (h : Heap), sp' vs H Q E → HOk P w H h → ∃ H1, Rc H H1 ∧ HOk P w H1 h ∧ sp vs H1 (fun v H2 => ∀ h', HOk P w H2 h' → ∃ H3, Rc H2 H3 ∧ HOk P w H3 h' ∧ Q v H3) E0) : FnOk P w K mg base CX0 k f fd ps sp' := by
  refine ⟨len, fun A outer s H args us vs Q E hr e0 hb hv h => ?_⟩
  obtain ⟨H1, r, ok1, q⟩ := hs vs H Q E s.heap h e0.hok
  have e1 : Env0 P w K mg base A outer s H1 := ⟨e0.frames, e0.mod, fun b o e => ⟨(e0.bs b o e).1, r.no b (e0.bs b o e).2⟩, e0.bsz, e0.funs, fun b hb => r.no b (e0.frf b hb), ok1, e0.bare⟩
  refine codeAny_mono (F.run A outer s H1 args us vs _ _ hr e1 hb hv q) fun rr s' hq => ?_
  cases rr with
  | error e => exact hq
  | ok fl =>
    cases fl with
    | ret u =>
      obtain ⟨v, H2, os, bare, un, hok, rv, q2⟩ := hq
      obtain ⟨H3, r3, ok3, q3⟩ := q2 _ hok
      exact ⟨v, H3, os, bare, r.un r3 un, ok3, rv, q3⟩
    | next => exact hq
    | brk => exact hq
    | cont => exact hq

/-! ### what numbers are drawn from: a list of three ints that only the draws read -/
/-- the bounds of a drawn state -/
structure DB (s d : Int) : Prop where
  s0 : 0 ≤ s
  s1 : s < 2147483587
  d0 : 0 ≤ d
def DrawO (a : Addr) : HO := .ext fun h => ∃ (s d n : Int) (its : List Value) (m : Nat), DB s d ∧ Vals [V.int s, V.int d, V.int n] its ∧ h.get? a = some { cls := .type "list", data := .seq its.toArray m }
theorem draw_of {P : Program} {w : World} {H : Hp} {h : Heap} {a : Addr} {s d n : Int} (b : DB s d) (x : ObjOk P w H h a (.lst [.int s, .int d, .int n])) : ObjOk P w H h a (DrawO a) := by
  obtain ⟨_, its, m, r, e⟩ := x
  exact ⟨⟨s, d, n, its, m, b, r, e⟩, ⟨_, e⟩, fun h1 h2 ⟨s, d, n, its, m, b, r, e⟩ k => ⟨s, d, n, its, m, b, r, k _ e⟩⟩
theorem draw_to {P : Program} {w : World} {H : Hp} {h : Heap} {a : Addr} (x : ObjOk P w H h a (DrawO a)) : ∃ s d n, DB s d ∧ ObjOk P w H h a (.lst [.int s, .int d, .int n]) := by
  obtain ⟨⟨s, d, n, its, m, b, r, e⟩, _, _⟩ := x
  exact ⟨s, d, n, b, (by show 3 ≤ sizeLine; decide), its, m, r, e⟩

/-! ### ways joined -/
section
variable {X : Cx} {e : Expr} {te : TE} {tA : TT}
def tMid (te : TE) : TE := fun σ H Q => ∃ R : VK, te σ H R ∧ ∀ v H', R v H' → Q v H'
theorem pe_mid (h : PE X e te) : PE X e (tMid te) := ⟨fun pins s σ H Q I hq => by
  obtain ⟨R, h1, h2⟩ := hq
  exact thn (h.run pins s σ H R I h1) fun u s1 ⟨v, H1, I1, r, q⟩ => ⟨v, H1, I1, r, h2 _ _ q⟩⟩
def tMidT (t : TT) : TT := fun σ H Q => ∃ R : Bool → Hp → Prop, t σ H R ∧ ∀ b H', R b H' → Q b H'
theorem pt_mid (h : PT X e tA) : PT X e (tMidT tA) := ⟨fun pins s σ H Q I hq => by
  obtain ⟨R, h1, h2⟩ := hq
  exact thn (h.run pins s σ H R I h1) fun b s1 ⟨H1, I1, q⟩ => ⟨H1, I1, h2 _ _ q⟩⟩
end
theorem at_int {xs : List V} {r : Int} (h0 : 0 ≤ r) (h1 : r < xs.length) : ∃ v, atI xs r = some v ∧ v ∈ xs := by
  obtain ⟨j, rfl⟩ : ∃ j : Nat, r = (j : Int) := ⟨r.toNat, by omega⟩
  have hj : j < xs.length := by omega
  exact ⟨xs[j], atI_nat (List.getElem?_eq_getElem hj), List.getElem_mem hj⟩
theorem at_nat {xs : List Nat} {r : Int} (h0 : 0 ≤ r) (h1 : r < xs.length) : ∃ v, atI xs r = some v ∧ v ∈ xs := by
  obtain ⟨j, rfl⟩ : ∃ j : Nat, r = (j : Int) := ⟨r.toNat, by omega⟩
  have hj : j < xs.length := by omega
  exact ⟨xs[j], atI_nat (List.getElem?_eq_getElem hj), List.getElem_mem hj⟩
theorem mem_cutV {xs : List V} {lo hi : Option Int} {v : V} (h : v ∈ cutV xs lo hi) : v ∈ xs := List.mem_of_mem_drop (List.mem_of_mem_take h)
theorem Same.new {H : Hp} {p : Addr} {o : HO} (h : H p = none) : Same H (upd H p o) := fun a u e => by
  rw [upd_ne (ne_of_none e h)]
  exact e

/-! ### the promises -/
/-- what was tracked stands, v is so: Q of it -/
def Gives (H : Hp) (Q : VK) (p : V → Hp → Prop) : Prop := ∀ v H', Same H H' → p v H' → Q v H'
def spRollL : Sp := fun vs H Q _ => ∃ (a : Addr) (s d n m : Int), vs = [.ref a, .int m] ∧ H a = some (.lst [.int s, .int d, .int n]) ∧ DB s d ∧ 0 < m ∧ m.natAbs < 2 ^ 200 ∧
  ∀ (r s' d' n' : Int) (H' : Hp), 0 ≤ r → r < m → DB s' d' → H' = upd H a (.lst [.int s', .int d', .int n']) → Q (.int r) H'
/-- a number from 0 to m - 1 -/
def spRoll : Sp := fun vs H Q _ => ∃ (a : Addr) (m : Int), vs = [.ref a, .int m] ∧ H a = some (DrawO a) ∧ 0 < m ∧ m.natAbs < 2 ^ 200 ∧ ∀ r : Int, 0 ≤ r → r < m → Q (.int r) H
theorem roll_recast {P : Program} {w : World} {K : PySem.W.Frag} {mg : Str → Option Value} {base : Heap} {k : Nat} {f : Addr} {fd : FuncData} {ps : List Str} (hps : ps.length = 2) (F : FnOk P w K mg base CX0 k f fd ps spRollL) : FnOk P w K mg base CX0 k f fd ps spRoll := by
  refine recast F (fun vs H Q E h => ?_) fun vs H Q E h q ok => ?_
  · obtain ⟨a, m, rfl, _⟩ := h
    exact hps.symm
  · obtain ⟨a, m, rfl, ha, h0, h1, q⟩ := q
    obtain ⟨s, d, n, b, x⟩ := draw_to (ok a _ ha)
    refine ⟨upd H a (.lst [.int s, .int d, .int n]), Rc.put ha True.intro True.intro, Rc.hok ok ha True.intro x, a, s, d, n, m, rfl, upd_same, b, h0, h1, fun r s' d' n' H' r0 r1 b' e h' ok' => ?_⟩
    subst e
    refine ⟨H, ?_, ?_, q r r0 r1⟩
    · have e : upd (upd (upd H a (.lst [.int s, .int d, .int n])) a (.lst [.int s', .int d', .int n'])) a (DrawO a) = H := by
        rw [upd_upd, upd_upd]
        funext b
        by_cases hb : b = a
        · rw [hb, upd_same, ha]
        · rw [upd_ne hb]
      rw [← e]
      have z := Rc.put (H := upd (upd H a (.lst [.int s, .int d, .int n])) a (.lst [.int s', .int d', .int n'])) (a := a) (u := DrawO a) upd_same True.intro True.intro
      rw [e] at z ⊢
      exact z
    · have e : upd (upd (upd H a (.lst [.int s, .int d, .int n])) a (.lst [.int s', .int d', .int n'])) a (DrawO a) = H := by
        rw [upd_upd, upd_upd]
        funext b
        by_cases hb : b = a
        · rw [hb, upd_same, ha]
        · rw [upd_ne hb]
      rw [← e]
      exact Rc.hok ok' upd_same True.intro (draw_of b' (ok' a _ upd_same))
end Lw

/-! ## LwG -/
set_option maxHeartbeats 4000000
/-! Promises of defs that are called where no guard of the C level is set (repr of a list asks for that). -/
namespace Lw
open PySem PySem.Spec PyProof.Rows L2
/-- room, and no guard -/
structure RoomG (k : Nat) (A : Around) : Prop where
  rm : Room k A
  gd : A.guards = some []
theorem RoomG.mono {j k : Nat} {A : Around} (r : RoomG k A) (h : j ≤ k) : RoomG j A := ⟨r.rm.mono h, r.gd⟩
theorem RoomG.deeper {k : Nat} {A : Around} (r : RoomG (k + 1) A) (env : Env) : RoomG k (A.deeper env) := ⟨r.rm.deeper env, r.gd⟩
theorem RoomG.units {k : Nat} {A : Around} (r : RoomG k A) : A.units + 64 < cLine := r.rm.units
/-- the def at f keeps the promise sp -/
structure FnG (P : Program) (w : World) (K : PySem.W.Frag) (mg : Str → Option Value) (base : Heap) (k : Nat) (f : Addr) (fd : FuncData) (ps : List Str) (sp : Sp) : Prop where
  len : ∀ vs H Q E, sp vs H Q E → vs.length = ps.length
  run : ∀ (A : Around) (outer : List Env) (s : Shared) (H : Hp) (args : Args) (us : List Value) (vs : List V) (Q : VK), RoomG k A → Env0 P w K mg base A outer s H → BindsTo s fd args (ps.zip us) → Vals vs us → sp vs H Q E0 →
    codeAny (model P w) A (.call (.ref f) args) (CR CX0 outer P w H s Q E0) s
section
variable {P : Program} {w : World} {K : PySem.W.Frag} {mg : Str → Option Value} {base : Heap} {k : Nat} {f : Addr} {fd : FuncData} {ps : List Str} {sp sp' : Sp}
theorem FnG.of (F : FnOk P w K mg base CX0 k f fd ps sp) : FnG P w K mg base k f fd ps sp := ⟨F.len, fun A outer s H args us vs Q hr => F.run A outer s H args us vs Q E0 hr.rm⟩
theorem FnG.mono {j : Nat} (F : FnG P w K mg base j f fd ps sp) (h : j ≤ k) : FnG P w K mg base k f fd ps sp := ⟨F.len, fun A outer s H args us vs Q hr => F.run A outer s H args us vs Q (hr.mono h)⟩
theorem FnG.imp (F : FnG P w K mg base k f fd ps sp) (h : ∀ vs H Q E, sp' vs H Q E → sp vs H Q E) : FnG P w K mg base k f fd ps sp' :=
  ⟨fun vs H Q E q => F.len vs H Q E (h _ _ _ _ q), fun A outer s H args us vs Q hr he hb hv hs => F.run A outer s H args us vs Q hr he hb hv (h _ _ _ _ hs)⟩
/-- a def of the text, by its body -/
theorem okG {x qual : Str} {st : Stmt} {N : List Str} (F : Fun K x qual st f fd) (S : FnScope N ps (defScope st)) (len : ∀ vs H Q E, sp vs H Q E → vs.length = ps.length)
    (hbody : ∀ (cdv : Value) (A : Around) (outer : List Env) (s : Shared) (H : Hp) (vs : List V) (Q : VK), RoomG k (A.deeper (envOfC qual (defScope st) s.heap.objs.size f cdv)) → sp vs H Q E0 →
      ∃ t, PSs (cxOf CX0 P w K mg base N qual (defScope st) f cdv A outer s H E0).nox (defBody st) t ∧ t { nx := fun _ H' => Q .non H', rt := Q } (start N vs) H) : FnG P w K mg base (k + 1) f fd ps sp := by
  obtain ⟨oc, od, kV, doc, pm, an, cdv, ct, osl, rfl, lk, hcd⟩ := F.ex
  refine ⟨len, fun A outer s H args us vs Q hr e0 hb r hsp => ?_⟩
  have below : ∀ b o, base.get? b = some o → s.heap.get? b = some o := fun b o e => (e0.bs b o e).1
  have KX := e0.mod.kin.keeps below
  have lim := e0.mod.nolimit.keeps below
  have bound : ∀ y ∈ ps.zip us, (defScope st).names.lookup y.1 = some .local ∨ ((defScope st).names.lookup y.1 = some .cell ∧ ((cellsFrom (s.heap.objs.size + 1) (defScope st).names []).lookup y.1).isSome = true) := fun ⟨n, v⟩ hy =>
    (S.par n (List.of_mem_zip hy).1).elim .inl fun q => .inr ⟨q, PySem.W.cellsFrom_some _ _ _ (.inl q)⟩
  refine codeAny_call_function hr.rm.depth (KX _ _ lk) rfl S.co S.gen rfl (PySem.W.codeRec_of KX hcd) (hb _ _ _ _ ?_)
  refine wpAny_newFunctionEnv_cells S.kind bound fun env he s1 x => ?_
  subst he
  refine ⟨lim.keeps x.toInCall.keep, codeAny_func ?_⟩
  obtain ⟨t, ht, hq⟩ := hbody cdv A outer s H vs Q (hr.deeper _) hsp
  have I := inv_start (CX := CX0) (E := E0) S hr.rm.hd e0 (len _ _ _ _ hsp) r x
  refine wpAny_mono (ht.nox.run [] s1 (start N vs) H _ I hq) (fun fl s' hs => ?_) fun e s' hs => hs
  cases fl with
  | ret u =>
    obtain ⟨v, σ', H', J, rv, q⟩ := hs
    exact ⟨v, H', J.os, J.bare, J.base, J.hok, rv, q⟩
  | next =>
    obtain ⟨σ', H', J, q⟩ := hs
    exact ⟨V.non, H', J.os, J.bare, J.base, J.hok, rfl, q⟩
  | brk => exact hs.elim fun _ h => h.elim fun _ h => h.2.elim
  | cont => exact hs.elim fun _ h => h.elim fun _ h => h.2.elim
end
/-- a def of the module, by its promise -/
structure Cal (P : Program) (w : World) (K : PySem.W.Frag) (mg : Str → Option Value) (base : Heap) (k : Nat) (x : Str) (ps : List Str) (sp : Sp) : Prop where
  ex : ∃ (f : Addr) (fd : FuncData), FnG P w K mg base k f fd ps sp ∧ mg x = some (.ref f) ∧ PySem.W.keepIn K (.ref f) = true ∧ (∀ us : List Value, us.length = ps.length → bindArgs fd ⟨us, []⟩ = pure (ps.zip us)) ∧
    (∀ u : Value, ps.length = 1 → bindArgs fd ⟨[], ps.zip [u]⟩ = pure (ps.zip [u]))
section
variable {X : Cx} {k j : Nat} {x : Str} {ps : List Str} {sp : Sp} {p pos : Pos} {e : Expr} {es : List Expr} {kws : List Keyword} {t tk : TA}
theorem run_g {f : Addr} {fd : FuncData} {args : Args} {us : List Value} {vs : List V} {pins : List (Addr × Obj)} {σ : L2.St} {H : Hp} {s : Shared} {Q : VK} (F : FnG X.prog X.w X.K X.mg X.base k f fd ps sp) (hr : RoomG k X.A) (b : bindArgs fd args = pure (ps.zip us))
    (I : Inv X pins σ H s) (r : Vals vs us) (h : sp vs H Q E0) : codeAny (model X.prog X.w) X.A (.call (.ref f) args) (fun r s' => match r with | .ok (.ret u) => EP X pins σ Q u s' | .ok _ => False | .error e => X.xe e s') s := by
  refine codeAny_mono (F.run X.A X.stack s H args us vs Q hr I.env0 (.of_eq b) r h) fun r s' hq => ?_
  cases r with
  | error e => exact False.elim hq
  | ok fl =>
    cases fl with
    | ret u => exact I.after hq
    | next => exact hq
    | brk => exact hq
    | cont => exact hq
theorem pe_c (c : Cal X.prog X.w X.K X.mg X.base k x ps sp) (hr : RoomG j X.A) (hk : k ≤ j) (hg : Gl X x) (ha : PA X (e :: es) t)
    (hdb : (x == ("__debug__" : Str)) = false := by decide) (he : starEach (e :: es) X.env = (false, eval e X.env) :: starEach es X.env := by rfl) (hpl : (backTo pos (starEach es X.env)).any (·.1) = false := by rfl) :
    PE X (.Call (.Name x p) (e :: es) [] pos) (tCall sp [] E0 t) := by
  obtain ⟨f, fd, F, hm, kp, b, _⟩ := c.ex
  refine ⟨fun pins s σ H Q I h => ?_⟩
  refine wpAny_Call_Name_kw (ld_glob I hg hm ?_ hdb)
  refine PySem.W.callWith_K (h₀ := X.base) I.ok.mod.kin kp (thn (ha.run pos pins s σ H _ I h) fun us s1 ⟨vs, H1, I1, r, q⟩ => ⟨I1.kIn, ?_⟩) he hpl
  have q : sp vs H1 Q E0 := by
    have q' : sp (vs ++ []) H1 Q E0 := q
    rwa [List.append_nil] at q'
  show wpAny _ _ (call (.ref f) us) _ _ _
  exact wpAny_call (codeAny_mono (run_g F (hr.mono hk) (b us (by rw [← r.length]; exact F.len _ _ _ _ q)) I1 r q) fun r s' z => by
    rcases r with e | (v | _ | _ | _) <;> exact z)
theorem pe_c0 (c : Cal X.prog X.w X.K X.mg X.base k x ps sp) (hr : RoomG j X.A) (hk : k ≤ j) (hg : Gl X x)
    (hdb : (x == ("__debug__" : Str)) = false := by decide) : PE X (.Call (.Name x p) [] [] pos) (tCall sp [] E0 tNil) := by
  obtain ⟨f, fd, F, hm, kp, b, _⟩ := c.ex
  refine ⟨fun pins s σ H Q I h => ?_⟩
  refine wpAny_Call_Name_kw (ld_glob I hg hm ?_ hdb)
  have q : sp [] H Q E0 := h
  exact PySem.W.callWith_K0 I.kIn kp (wpAny_call (codeAny_mono (run_g F (hr.mono hk) (b [] (F.len _ _ _ _ q)) I .nil q) fun r s' z => by
    rcases r with e | (v | _ | _ | _) <;> exact z))
/-- f(k = e), a def of one parameter -/
theorem pe_ck (c : Cal X.prog X.w X.K X.mg X.base k x ps sp) (hr : RoomG j X.A) (hk : k ≤ j) (hps : ps.length = 1) (hg : Gl X x) (hkw : PK X kws tk)
    (hall : (backToKw pos (keywordEach kws X.env)).all (·.1.isSome) = true := by rfl) (hks : (backToKw pos (keywordEach kws X.env)).filterMap (·.1) = ps := by rfl) (hdb : (x == ("__debug__" : Str)) = false := by decide)
    (hpl : ((backTo pos (starEach [] X.env)).any (·.1) || (backToKw pos (keywordEach kws X.env)).any (·.1.isNone)) = false := by rfl) :
    PE X (.Call (.Name x p) [] kws pos) (tCall sp [] E0 tk) := by
  obtain ⟨f, fd, F, hm, kp, _, b⟩ := c.ex
  refine ⟨fun pins s σ H Q I h => ?_⟩
  refine wpAny_Call_Name_kw (ld_glob I hg hm ?_ hdb)
  refine PySem.W.callWith_KW0 (h₀ := X.base) I.ok.mod.kin kp hall ?_ hpl
  refine thn (hkw.run pos pins s σ H _ I h) fun us s1 ⟨vs, H1, I1, r, q⟩ => ⟨I1.kIn, ?_⟩
  rw [hks]
  have q : sp vs H1 Q E0 := by
    have q' : sp (vs ++ []) H1 Q E0 := q
    rwa [List.append_nil] at q'
  have l1 : vs.length = 1 := (F.len _ _ _ _ q).trans hps
  obtain ⟨u, rfl⟩ : ∃ u, us = [u] := by
    have l2 : us.length = 1 := r.length.symm.trans l1
    match us, l2 with
    | [u], _ => exact ⟨u, rfl⟩
  exact wpAny_call (codeAny_mono (run_g F (hr.mono hk) (b u hps) I1 r q) fun r s' z => by
    rcases r with e | (v | _ | _ | _) <;> exact z)
end
/-- repr of data -/
def rRepr (K : PySem.W.Frag) : List V → Hp → VK → Prop := fun xs H Q => ∃ (a : Addr) (d : PyData), xs = [.ref a] ∧ Dp K H (.ref a) d ∧ d.showable = true ∧ d.hasDict = false ∧ d.depth ≤ 50 ∧ d.shown.length ≤ sizeLine ∧ Q (.str d.shown) H
theorem call_repr {X : Cx} {k : Nat} (hr : RoomG k X.A) : CallR X (.builtin "repr") (rRepr X.K) := by
  intro pins s σ H xs us Q I r h
  obtain ⟨a, d, rfl, hd, hs, hx, hdep, hl, q⟩ := h
  obtain ⟨u, rfl, rx⟩ := vals1 r
  obtain ⟨as, rd⟩ := Dp.reads I d _ u hd rx
  cases (show u = Value.ref a from rx)
  have hu := hr.units
  exact repr_of_reads' rd hs (fun z => by rw [hx] at z; cases z) hr.gd (by omega) (fun _ _ e => e) (fun h' u tk kk => ⟨.str d.shown, H, I.kept (h' := h') (t' := tk) kk, ⟨u, rfl⟩, q⟩) hl

/-- the end of a law's row -/
theorem law_end {P : Program} {w : World} {K : PySem.W.Frag} {mg mb : Str → Option Value} {k : Nat} {fa a : Addr} {fd : FuncData} {x : Str} {sp : Sp} {s₁ : Shared} {vs : List Value} {ns : List Int}
    (KX : K.In s₁.heap) (hns : s₁.heap.Ns mainGlobals mg) (hb : s₁.heap.Ns builtinsNs mb) (hbb : ∀ x : Str, x ≠ "__name__" → mb x = bootBuiltins x) (hlim : s₁.heap.NoLimit) (hg : s₁.gens = #[])
    (ha : s₁.heap.get? a = some { cls := .type "list", data := .seq vs.toArray }) (hi : IntsAre vs ns) (hl : ns.length ≤ sizeLine) (hr : RoomG k callerA)
    (F : ∀ base : Heap, K.In base → base.Ns mainGlobals mg → FnG P w K mg base k fa fd [x] sp) (hbind : ∀ u : Value, bindArgs fd ⟨[u], []⟩ = pure [(x, u)])
    (hsp : ∀ H : Hp, Only H → SqL K H a (ns.map V.int) → sp [.ref a] H (fun v _ => v = .bl true) E0) :
    codeAny (model P w) callerA (.call (.ref fa) ⟨[.ref a], []⟩) (fun r s' => r = .ok (.ret (.bool true)) ∧ OldK s₁.heap s'.heap ∧ s'.os = s₁.os ∧ AllBare s'.gens) s₁ := by
  have rv := vals_ints hi
  have lenV := hi.length
  have hsz : (ns.map V.int).length ≤ sizeLine := by rw [List.length_map]; exact hl
  have core : ∀ H : Hp, Only H → SqL K H a (ns.map V.int) → HOk P w H s₁.heap → (∀ b, H b ≠ none → b = a) → (H a ≠ none → K.lookup a = none) →
      codeAny (model P w) callerA (.call (.ref fa) ⟨[.ref a], []⟩) (fun r s' => r = .ok (.ret (.bool true)) ∧ OldK s₁.heap s'.heap ∧ s'.os = s₁.os ∧ AllBare s'.gens) s₁ := by
    intro H hO hS hok hA hK
    have free : ∀ {b : Addr} {o : Obj}, s₁.heap.get? b = some o → (b = a → False) → H b = none := fun {b o} _ n => by
      cases q : H b with
      | none => rfl
      | some u => exact (n (hA b (by rw [q]; simp))).elim
    have nsK : ∀ {b : Addr} {m : Str → Option Value}, s₁.heap.Ns b m → (hidT s₁.heap H).Ns b m := fun {b m} ⟨o, es, ep, e, d, r⟩ => ⟨o, es, ep, hidT_get e (free e fun z => by
      subst z
      rw [ha] at e
      cases e
      cases d), d, r⟩
    have hKb : K.In (hidT s₁.heap H) := fun b o e => hidT_get (KX b o e) (by
      cases q : H b with
      | none => rfl
      | some u =>
        have z := hA b (by rw [q]; simp)
        subst z
        rw [hK (by rw [q]; simp)] at e
        cases e)
    have hM : Mod K mg (hidT s₁.heap H) := ⟨hKb, nsK hns, ⟨mb, nsK hb, hbb⟩, hlim.elim fun mc h => ⟨mc, nsK h.1, h.2⟩⟩
    have nofr : ∀ b, b ∉ frs [] := fun b hb => by cases hb
    have e0 : Env0 P w K mg (hidT s₁.heap H) callerA [] s₁ H := ⟨rfl, hM, fun b o e => of_hidT e, Nat.le_of_eq (hidT_size _ _), trivial, fun b hb => (nofr b hb).elim, hok, .of_eq hg⟩
    refine codeAny_mono ((F _ hKb (nsK hns)).run callerA [] s₁ H ⟨[.ref a], []⟩ [.ref a] [.ref a] _ hr e0 (.of_eq (hbind (.ref a))) (.cons rfl .nil) (hsp H hO hS)) fun r s' h => ?_
    match r, h with
    | .ok (.ret u), ⟨v, H', os, bare, un, hok', r', q⟩ =>
      have q' : v = .bl true := q
      subst q'
      obtain rfl : u = Value.bool true := r'
      refine ⟨rfl, OldK.of_keep fun b o e => ?_, os, bare⟩
      rcases hO b with z | ⟨ob, xs, z⟩
      · exact un.keep b o e z (nofr b) (fun q => by cases q)
      · have e1 := (hok b _ z).1
        rw [e] at e1
        cases e1
        exact (hok' b _ (un.frzs b _ _ z)).1
  cases hk : K.lookup a with
  | some o =>
    have e := KX a o hk
    rw [ha] at e
    cases e
    exact core (fun _ => none) (fun _ => .inl rfl) (.inr ⟨_, vs.toArray, _, hk, rfl, rfl, rfl, by rw [List.size_toArray, lenV]; exact hl, by simpa using rv⟩) (fun b u z => nomatch z) (fun b z => (z rfl).elim) fun z => (z rfl).elim
  | none =>
    have at_ : ∀ {b : Addr} {u : HO}, (if b = a then some (HO.frz { cls := .type "list", data := .seq vs.toArray } (.lst (ns.map V.int))) else none) = some u → b = a ∧ u = HO.frz { cls := .type "list", data := .seq vs.toArray } (.lst (ns.map V.int)) := fun {b u} z => by
      split at z
      · exact ⟨by assumption, (Option.some.inj z).symm⟩
      · cases z
    refine core (fun b => if b = a then some (.frz { cls := .type "list", data := .seq vs.toArray } (.lst (ns.map V.int))) else none) (fun b => ?_) (.inl (.inr ⟨_, if_pos rfl⟩)) (fun b u z => ?_) (fun b z => ?_) fun _ => hk
    · by_cases hb : b = a
      · exact .inr ⟨_, _, if_pos hb⟩
      · exact .inl (if_neg hb)
    · obtain ⟨rfl, rfl⟩ := at_ z
      exact ⟨ha, hsz, vs, _, rv, ha⟩
    · by_cases hb : b = a
      · exact hb
      · exact (z (if_neg hb)).elim
theorem walk_end {l : PySem.W.OpenLaw} {n k : Nat} {q : Program} {loose : List Str} {XP : (Str → Option Value) → Heap → Prop} {YP : World → Heap → Prop} {d : DefRec} {K : Params → PySem.W.Frag} {sp : PySem.W.Frag → Sp} {x : Str}
    (hn : l.most = some n) (hn2 : n ≤ sizeLine) (hdf : d.params.defaults = []) (hr : RoomG k callerA) (hY : ∀ (w : World) (h : Heap), YP w h → (K w.params).In h)
    (F : ∀ (w : World) (mg : Str → Option Value) (fa : Addr) (h : Heap), (K w.params).In h → h.Ns mainGlobals mg → mg d.name = some (.ref fa) →
      ∃ fd : FuncData, (∀ u : Value, bindArgs fd ⟨[u], []⟩ = pure [(x, u)]) ∧ ∀ base : Heap, (K w.params).In base → base.Ns mainGlobals mg → FnG l.prog w (K w.params) mg base k fa fd [x] (sp (K w.params)))
    (hsp : ∀ (K : PySem.W.Frag) (H : Hp) (a : Addr) (ns : List Int), ns.length ≤ n → Only H → SqL K H a (ns.map V.int) → sp K [.ref a] H (fun v _ => v = .bl true) E0) :
    PySem.W.WalkO q loose XP YP l.row.toRowW d [] (fun f vs => PySem.call f vs) := by
  refine Att.attach_call hn hdf fun w s₀ s₁ mg mb fa o pm cd doc a vs ns G Y ho hd hcd hmg hobj hints hlen hg => ?_
  obtain ⟨fd, hb, hF⟩ := F w mg fa _ (hY w _ Y) G.T.g hmg
  exact law_end (hY w _ Y) G.T.g G.T.b G.T.builtins G.T.nolimit hg hobj hints (Nat.le_trans hlen hn2) hr hF hb (fun H hO hS => hsp (K w.params) H a ns hlen hO hS)
end Lw

/-! ## KaB -/
set_option maxHeartbeats 4000000
namespace Lw
open PySem PySem.Spec PyProof.Rows L2
def topS (i : Nat) : Stmt := PySem.Challenge.pw_blockmoves_k01_names_symbols_values.main.body.getD i (.Pass ⟨0, 0, 0, 0⟩)

abbrev s__law_cell : Stmt := topS 11
abbrev n__law_cell : List Str := ["_law_script", "_law_k", "_law_mixed", "_law_number"]
theorem sc__law_cell : FnScope n__law_cell ["_law_script", "_law_k"] (defScope s__law_cell) := ⟨rfl, rfl, rfl, by decide +kernel, rfl, by decide +kernel, by decide +kernel⟩

abbrev s__law_heap : Stmt := topS 12
abbrev n__law_heap : List Str := ["_law_number", "_law_digits"]
theorem sc__law_heap : FnScope n__law_heap ["_law_number"] (defScope s__law_heap) := ⟨rfl, rfl, rfl, by decide +kernel, rfl, by decide +kernel, by decide +kernel⟩

abbrev s__law_roll : Stmt := topS 13
abbrev n__law_roll : List Str := ["_law_heap_here", "_law_many", "_law_digit", "_law_state"]
theorem sc__law_roll : FnScope n__law_roll ["_law_heap_here", "_law_many"] (defScope s__law_roll) := ⟨rfl, rfl, rfl, by decide +kernel, rfl, by decide +kernel, by decide +kernel⟩

abbrev s__law_pick : Stmt := topS 14
abbrev n__law_pick : List Str := ["_law_heap_here", "_law_things"]
theorem sc__law_pick : FnScope n__law_pick ["_law_heap_here", "_law_things"] (defScope s__law_pick) := ⟨rfl, rfl, rfl, by decide +kernel, rfl, by decide +kernel, by decide +kernel⟩

/-- the built-ins that stand -/
structure Blt (mg : Str → Option Value) : Prop where
  b_len : mg "len" = none
  b_int : mg "int" = none
  b_abs : mg "abs" = none
/-- len of what is picked from -/
theorem call_lenU {X : Cx} : CallR X (.builtin "len") (fun xs H Q => (∃ p ys, xs = [.ref p] ∧ (SqL X.K H p ys ∨ SqT X.K H p ys) ∧ Q (.int ys.length) H) ∨ ∃ z, xs = [.str z] ∧ z.length ≤ sizeLine ∧ Q (.int z.length) H) := by
  intro pins s σ H xs us Q I r h
  rcases h with ⟨p, ys, rfl, hq, q⟩ | ⟨z, rfl, hz, q⟩
  · exact call_len_seq pins s σ H _ us Q I r ⟨p, ys, rfl, hq, q⟩
  · exact call_len_str pins s σ H _ us Q I r ⟨z, rfl, hz, q⟩
/-- an int -/
def spCellI (K : PySem.W.Frag) : Sp := fun vs H Q _ => ∃ (a : Addr) (ns : List Int) (k : Int), vs = [.ref a, .int k] ∧ SqL K H a (ns.map V.int) ∧ ns.length ≤ 63 ∧ 0 ≤ k ∧ k ≤ 63 ∧ ∀ (z : Int) (H' : Hp), Same H H' → Q (.int z) H'
/-- what the draws are made from -/
def spHeapL : Sp := fun vs H Q _ => ∃ (z : Int), vs = [.int z] ∧ ∀ (s d : Int) (p : Addr), DB s d → H p = none → Q (.ref p) (upd H p (.lst [.int s, .int d, .int 0]))
def spHeap : Sp := fun vs H Q _ => ∃ (z : Int), vs = [.int z] ∧ ∀ (p : Addr), H p = none → Q (.ref p) (upd H p (DrawO p))
theorem heap_recast {P : Program} {w : World} {K : PySem.W.Frag} {mg : Str → Option Value} {base : Heap} {k : Nat} {f : Addr} {fd : FuncData} {ps : List Str} (hps : ps.length = 1) (F : FnOk P w K mg base CX0 k f fd ps spHeapL) : FnOk P w K mg base CX0 k f fd ps spHeap := by
  refine recast F (fun vs H Q E h => ?_) fun vs H Q E h q ok => ?_
  · obtain ⟨z, rfl, _⟩ := h
    exact hps.symm
  · obtain ⟨z, rfl, q⟩ := q
    refine ⟨H, Rc.refl H, ok, z, rfl, fun s d p b hp h' ok' => ?_⟩
    have e : upd (upd H p (.lst [.int s, .int d, .int 0])) p (DrawO p) = upd H p (DrawO p) := upd_upd
    have z1 := Rc.put (H := upd H p (.lst [.int s, .int d, .int 0])) (a := p) (u := DrawO p) upd_same True.intro True.intro
    have z2 := Rc.hok (u := DrawO p) ok' upd_same True.intro (draw_of b (ok' p _ upd_same))
    rw [e] at z1 z2
    exact ⟨_, z1, z2, q p hp⟩
/-- what is picked from -/
inductive Pick (K : PySem.W.Frag) (H : Hp) : V → (V → Prop) → Prop
  | lst {a : Addr} {xs : List V} (h : SqL K H a xs) (h0 : xs ≠ []) (hl : xs.length ≤ 1000) : Pick K H (.ref a) (fun v => v ∈ xs)
  | tup {a : Addr} {xs : List V} (h : SqT K H a xs) (h0 : xs ≠ []) (hl : xs.length ≤ 1000) : Pick K H (.ref a) (fun v => v ∈ xs)
  | str {z : Str} (h0 : z.cps.toList ≠ []) (hl : z.length ≤ 1000) : Pick K H (.str z) (fun v => ∃ c, c ∈ z.cps.toList ∧ v = .str ⟨#[c]⟩)
def spPick (K : PySem.W.Frag) : Sp := fun vs H Q _ => ∃ (a : Addr) (x : V) (p : V → Prop), vs = [.ref a, x] ∧ H a = some (DrawO a) ∧ Pick K H x p ∧ ∀ v, p v → Q v H
theorem sz1000 {n : Nat} (h : n ≤ 1000) : n ≤ sizeLine := Nat.le_trans h (by decide)
theorem mod_db (i : Int) : 0 ≤ i % 2147483587 ∧ i % 2147483587 < 2147483587 := ⟨Int.emod_nonneg _ (by decide), Int.emod_lt_of_pos _ (by decide)⟩
section
variable {P : Program} {w : World} {K : PySem.W.Frag} {mg : Str → Option Value} {base : Heap}
theorem ok_roll {f : Addr} {fd : FuncData} (F : Fun K "_law_roll" "_law_roll" s__law_roll f fd) (T : Blt mg) : FnOk P w K mg base CX0 1 f fd ["_law_heap_here", "_law_many"] spRoll := by
  refine roll_recast rfl (F.ok sc__law_roll (fun vs H Q E h => ?_) (fun cdv A outer s H vs Q E hr h => ?_))
  · obtain ⟨a, s, d, n, m, rfl, _⟩ := h
    rfl
  · obtain ⟨a, s, d, n, m, rfl, ha, ⟨s0, s1, d0⟩, m0, m1, k⟩ := h
    refine ⟨_, (pss_cons (ps_asg (pe_op op_add (pe_ix ix_list (pv 0) pe_int (fun _ _ => rfl)) pe_int) (pg_sub (pv 0) pe_int set_list))
  (pss_cons (ps_if (pt_cmpR op_gt (pe_ix ix_list (pv 0) pe_int (fun _ _ => rfl)) pe_int (nomark _))
    (pss_cons (ps_set (i := 2) sc__law_roll.nd rfl (by first | exact .inl rfl | exact .inr rfl) (pe_op op_mod (pe_callTy call_int1 (by rfl) T.b_int (by decide +kernel) (pa_cons (pe_ix ix_list (pv 0) pe_int (fun _ _ => rfl)) pa_nil)) (pv 1)))
  (pss_cons (ps_asg (pe_op op_fdivW (pe_ix ix_list (pv 0) pe_int (fun _ _ => rfl)) (pv 1)) (pg_sub (pv 0) pe_int set_list))
  (pss_one (ps_ret (pv 2)))))
    pss_nil)
  (pss_cons (ps_set (i := 3) sc__law_roll.nd rfl (by first | exact .inl rfl | exact .inr rfl) (pe_callTy call_int1 (by rfl) T.b_int (by decide +kernel) (pa_cons (pe_ix ix_list (pv 0) pe_int (fun _ _ => rfl)) pa_nil)))
  (pss_cons (ps_asg (pe_op op_mod (pe_callTy call_int1 (by rfl) T.b_int (by decide +kernel) (pa_cons (pe_op op_add (pe_op op_mul (pv 3) (pe_op op_add (pe_op op_mod (pv 3) pe_int) pe_int)) (pe_op op_mul pe_int (pe_ix ix_list (pv 0) pe_int (fun _ _ => rfl)))) pa_nil)) pe_int) (pg_sub (pv 0) pe_int set_list))
  (pss_one (ps_ret (pe_op op_mod (pe_callTy call_int1 (by rfl) T.b_int (by decide +kernel) (pa_cons (pe_op op_fdiv (pe_ix ix_list (pv 0) pe_int (fun _ _ => rfl)) pe_int) pa_nil)) (pv 1)))))))), ?_⟩
    refine ⟨_, rfl, a, _, 2, _, rfl, rfl, SqL.of ha, rfl, _, _, rfl, rfl, _, rfl, a, _, 2, 2, rfl, rfl, ha, rfl, ?_⟩
    refine ⟨_, rfl, a, _, 1, _, rfl, rfl, SqL.of upd_same, rfl, _, _, rfl, rfl, _, rfl, ?_⟩
    refine ite2 (fun _ => ?_) (fun hc => ?_)
    · refine ⟨_, rfl, a, _, 1, _, rfl, rfl, SqL.of upd_same, rfl, .inl ⟨_, rfl, _, rfl, _, _, rfl, rfl, m0, ?_⟩⟩
      refine ⟨_, rfl, a, _, 1, _, rfl, rfl, SqL.of upd_same, rfl, _, rfl, _, _, rfl, rfl, wide_div m0 m1 (by decide) (by decide), ?_⟩
      refine ⟨_, rfl, a, _, 1, 1, rfl, rfl, upd_same, rfl, ?_⟩
      exact ⟨_, rfl, k _ s (d / m) (n + 1) _ (Int.emod_nonneg _ (by omega)) (Int.emod_lt_of_pos _ m0) ⟨s0, s1, Int.ediv_nonneg d0 (by omega)⟩ (by rw [upd_upd] <;> rfl)⟩
    · refine ⟨_, rfl, a, _, 0, _, rfl, rfl, SqL.of upd_same, rfl, .inl ⟨_, rfl, ?_⟩⟩
      have h40 := Int.emod_nonneg s (show (40009 : Int) ≠ 0 by decide)
      have h41 := Int.emod_lt_of_pos s (show (0 : Int) < 40009 by decide)
      refine ⟨_, rfl, _, rfl, _, _, rfl, rfl, (by show (0 : Int) < 40009; decide), _, _, rfl, rfl, _, _, rfl, rfl, .inl ⟨by omega, by omega⟩, ?_⟩
      refine ⟨_, rfl, a, _, 2, _, rfl, rfl, SqL.of upd_same, rfl, _, _, rfl, rfl, .inl ⟨by decide, by decide⟩, _, _, rfl, rfl, .inl ⟨_, rfl, _, _, rfl, rfl, (by show (0 : Int) < 2147483587; decide), ?_⟩⟩
      refine ⟨_, rfl, a, _, 0, 0, rfl, rfl, upd_same, rfl, ?_⟩
      refine ⟨_, rfl, a, _, 0, _, rfl, rfl, SqL.of upd_same, rfl, _, _, rfl, rfl, ⟨by decide, by decide⟩, .inl ⟨_, rfl, _, rfl, _, _, rfl, rfl, m0, ?_⟩⟩
      refine k _ _ d (n + 1) _ (Int.emod_nonneg _ (by omega)) (Int.emod_lt_of_pos _ m0) ?_ upd_upd
      exact ⟨(mod_db _).1, (mod_db _).2, d0⟩
theorem ok_heap {f : Addr} {fd : FuncData} (F : Fun K "_law_heap" "_law_heap" s__law_heap f fd) (T : Blt mg) : FnOk P w K mg base CX0 1 f fd ["_law_number"] spHeap := by
  refine heap_recast rfl (F.ok sc__law_heap (fun vs H Q E h => ?_) (fun cdv A outer s H vs Q E hr h => ?_))
  · obtain ⟨z, rfl, _⟩ := h
    rfl
  · obtain ⟨z, rfl, k⟩ := h
    refine ⟨_, (pss_cons (ps_set (i := 1) sc__law_heap.nd rfl (by first | exact .inl rfl | exact .inr rfl) (pe_mid (pe_ifExp (PW.pt (pw_or (pt_cmpR op_lt (pv 0) pe_int (nomark _)) (pw_or1 (pt_cmpR op_ge (pv 0) (pe_op op_pow pe_int pe_int) (nomark _))))) (pe_callB call_abs (by rfl) T.b_abs (by decide +kernel) (pa_cons (pv 0) pa_nil)) pe_int)))
  (pss_one (ps_ret (pe_lst (pa_cons (pe_op op_mod (pe_callTy call_int1 (by rfl) T.b_int (by decide +kernel) (pa_cons (pe_op op_add (pe_op op_mul (pv 0) pe_int) pe_int) pa_nil)) pe_int) (pa_cons (pv 1) (pa_cons pe_int pa_nil))))))), ?_⟩
    refine ⟨fun v H' => ∃ d : Int, 0 ≤ d ∧ v = .int d ∧ H' = H, ?_, fun v H' ⟨d, d0, ev, eH⟩ => ?_⟩
    · refine ⟨_, rfl, _, _, rfl, rfl, _, rfl, ?_⟩
      have ab : (0 : Int) ≤ if z < 0 then -z else z := by split <;> omega
      refine ite2 (fun _ => ⟨_, rfl, _, rfl, _, ab, rfl, rfl⟩) (fun _ => ?_)
      refine ⟨_, rfl, _, _, rfl, rfl, ⟨by decide, by decide, by decide⟩, _, _, rfl, rfl, _, rfl, ?_⟩
      exact ite2 (fun _ => ⟨_, rfl, _, rfl, _, ab, rfl, rfl⟩) (fun _ => ⟨0, Int.le_refl 0, rfl, rfl⟩)
    · subst ev eH
      refine ⟨_, rfl, _, _, rfl, rfl, .inr ⟨by decide, by decide⟩, _, _, rfl, rfl, .inl ⟨_, rfl, _, _, rfl, rfl, (by show (0 : Int) < 2147483587; decide), ?_⟩⟩
      refine ⟨_, rfl, (by show 3 ≤ sizeLine; decide), fun p hp => k _ d p ⟨(mod_db _).1, (mod_db _).2, d0⟩ hp⟩
theorem ok_cell {f : Addr} {fd : FuncData} (F : Fun K "_law_cell" "_law_cell" s__law_cell f fd) (T : Blt mg) : FnOk P w K mg base CX0 1 f fd ["_law_script", "_law_k"] (spCellI K) := by
  refine F.ok sc__law_cell (fun vs H Q E h => ?_) (fun cdv A outer s H vs Q E hr h => ?_)
  · obtain ⟨a, ns, z, rfl, _⟩ := h
    rfl
  · obtain ⟨a, ns, z, rfl, hS, hl, z0, z1, k⟩ := h
    refine ⟨_, (pss_cons (ps_if (pt_cmpR op_lt (pv 1) (pe_callB call_len_seq (by rfl) T.b_len (by decide +kernel) (pa_cons (pv 0) pa_nil)) (nomark _))
    (pss_one (ps_ret (pe_callTy call_int1 (by rfl) T.b_int (by decide +kernel) (pa_cons (pe_ix ix_list (pv 0) (pv 1) (fun _ _ => rfl)) pa_nil))))
    pss_nil)
  (pss_cons (ps_set (i := 2) sc__law_cell.nd rfl (by first | exact .inl rfl | exact .inr rfl) (pe_op op_add pe_int (pe_op op_mul pe_int (pv 1))))
  (pss_cons (ps_for PassesOwn.never rfl (pi_list (pe_slice sl_list (pv 0) po_none (po_some pe_int))) (pg_name (i := 3) sc__law_cell.nd rfl (by first | exact .inl rfl | exact .inr rfl))
    (pss_one (ps_set (i := 2) sc__law_cell.nd rfl (by first | exact .inl rfl | exact .inr rfl) (pe_op op_mod (pe_callTy call_int1 (by rfl) T.b_int (by decide +kernel) (pa_cons (pe_op op_add (pe_op op_add (pe_op op_mul (pv 2) pe_int) (pe_callTy call_int1 (by rfl) T.b_int (by decide +kernel) (pa_cons (pv 3) pa_nil))) (pe_op op_mul pe_int (pv 1))) pa_nil)) pe_int))))
  (pss_one (ps_ret (pv 2)))))), ?_⟩
    refine ⟨_, rfl, _, rfl, a, _, rfl, .inl hS, _, _, rfl, rfl, _, rfl, ?_⟩
    refine ite2 (fun hc => ?_) (fun _ => ?_)
    · obtain ⟨v, e1, e2⟩ := at_int (xs := ns.map V.int) z0 (of_decide_eq_true hc)
      obtain ⟨y, _, rfl⟩ := List.mem_map.mp e2
      exact ⟨_, rfl, _, rfl, a, _, z, _, rfl, rfl, hS, e1, .inl ⟨_, rfl, k _ _ (Same.refl H)⟩⟩
    · refine ⟨_, rfl, _, _, rfl, rfl, .inl ⟨by decide, by decide⟩, _, _, rfl, rfl, ?_⟩
      refine ⟨_, rfl, _, rfl, a, _, rfl, hS, fun p hp => ?_⟩
      refine ⟨p, rfl, ⟨_, SqL.of upd_same⟩, for_list (K := K) (a := p) (xs := cutV (ns.map V.int) none (some 4)) (fun i σ H2 => H2 = upd H p (.lst (cutV (ns.map V.int) none (some 4))) ∧ ∃ (m : Int) (v : Option V), σ = [some (.ref a), some (.int z), some (.int m), v])
        ⟨rfl, _, _, rfl⟩ (fun i σ H2 _ ⟨e, _⟩ => by rw [e]; exact SqL.of upd_same) ?_ ?_⟩
      · rintro i y σ H2 hi ⟨rfl, m, v, rfl⟩
        obtain ⟨n, _, rfl⟩ := List.mem_map.mp (mem_cutV (List.mem_of_getElem? hi))
        exact ⟨_, rfl, _, _, rfl, rfl, .inr ⟨by decide, by decide⟩, _, rfl, .inl ⟨_, rfl, _, _, rfl, rfl, _, rfl, _, _, rfl, rfl, .inl ⟨by decide, by decide⟩, _, _, rfl, rfl, .inl ⟨_, rfl, _, _, rfl, rfl, (by show (0 : Int) < 2147483587; decide), rfl, _, _, rfl⟩⟩⟩
      · rintro σ H2 ⟨rfl, m, v, rfl⟩
        exact ⟨_, rfl, k _ _ (Same.new hp)⟩
theorem ok_pick {f : Addr} {fd : FuncData} (F : Fun K "_law_pick" "_law_pick" s__law_pick f fd) (T : Blt mg) (c__law_roll : Cal P w K mg base 1 "_law_roll" ["_law_heap_here", "_law_many"] spRoll) : FnG P w K mg base 2 f fd ["_law_heap_here", "_law_things"] (spPick K) := by
  refine okG F sc__law_pick (fun vs H Q E h => ?_) (fun cdv A outer s H vs Q hr h => ?_)
  · obtain ⟨a, x, p, rfl, _⟩ := h
    rfl
  · obtain ⟨a, x, p, rfl, ha, hx, k⟩ := h
    refine ⟨_, (pss_one (ps_ret (pe_ix ix_seq (pv 1) (pe_c c__law_roll hr (by decide) rfl (pa_cons (pv 0) (pa_cons (pe_callB call_lenU (by rfl) T.b_len (by decide +kernel) (pa_cons (pv 1) pa_nil)) pa_nil))) (fun _ _ => rfl)))), ?_⟩
    cases hx with
    | @lst b xs hS h0 hl =>
      have h1 : 0 < xs.length := List.length_pos_iff.mpr h0
      refine ⟨_, rfl, _, rfl, _, rfl, .inl ⟨b, xs, rfl, .inl hS, a, _, rfl, ha, by omega, by omega, fun r r0 r1 => ?_⟩⟩
      obtain ⟨v, e1, e2⟩ := at_int (xs := xs) r0 r1
      exact .inl ⟨b, xs, r, v, rfl, rfl, hS, e1, k v e2⟩
    | @tup b xs hS h0 hl =>
      have h1 : 0 < xs.length := List.length_pos_iff.mpr h0
      refine ⟨_, rfl, _, rfl, _, rfl, .inl ⟨b, xs, rfl, .inr hS, a, _, rfl, ha, by omega, by omega, fun r r0 r1 => ?_⟩⟩
      obtain ⟨v, e1, e2⟩ := at_int (xs := xs) r0 r1
      exact .inr (.inl ⟨b, xs, r, v, rfl, rfl, hS, e1, k v e2⟩)
    | @str z h0 hl =>
      have h1 : 0 < z.cps.toList.length := List.length_pos_iff.mpr h0
      have e0 : z.cps.toList.length = z.length := by simp [Str.length]
      refine ⟨_, rfl, _, rfl, _, rfl, .inr ⟨z, rfl, sz1000 hl, a, _, rfl, ha, by omega, by omega, fun r r0 r1 => ?_⟩⟩
      obtain ⟨c, e1, e2⟩ := at_nat (xs := z.cps.toList) r0 (by rw [e0]; exact r1)
      exact .inr (.inr ⟨z, r, c, rfl, rfl, sz1000 hl, e1, k _ ⟨c, e2, rfl⟩⟩)
end
end Lw

/-! ## LtS -/
set_option maxHeartbeats 4000000
/-! sets of texts: made of a list of texts, and sorted -/
namespace Lt
open PySem PySem.Spec PyProof.Rows L2
def tx : Value → Str
  | .str x _ => x
  | _ => Str.empty
def tk (e : Int × Value) : Str := tx e.2
def TRow (w : World) (e : Int × Value) : Prop := ∃ x t, e = (hashStr w x, Value.str x t)
/-- a table of the texts xs, in any order -/
structure TTab (w : World) (es : Array (Int × Value)) (t : SetTable) (xs : List Str) : Prop where
  rows : ∀ e ∈ es.toList, TRow w e
  perm : (es.toList.map tk).Perm xs
  nd : xs.Nodup
  sm : es.size < scanBound
  fit : t.fits es.size = true
  ris : Ris t.place.toList
  led : w.params.followText "set-order" = true ∨ t.led = true
/-- the set of the texts xs at a -/
def TSet (w : World) (h : Heap) (a : Addr) (xs : List Str) : Prop := ∃ o es ep t, h.get? a = some o ∧ o.ExactSet ∧ o.data = .set es ep t ∧ TTab w es t xs
/-- with x -/
def ins (x : Str) (xs : List Str) : List Str := if x ∈ xs then xs else x :: xs
theorem mem_ins' {x y : Str} {xs : List Str} : y ∈ ins x xs ↔ y = x ∨ y ∈ xs := by
  unfold ins
  split
  · rename_i h
    exact ⟨.inr, fun q => q.elim (fun e => e ▸ h) id⟩
  · exact List.mem_cons
theorem ins_nodup {x : Str} {xs : List Str} (h : xs.Nodup) : (ins x xs).Nodup := by
  unfold ins
  split
  · exact h
  · rename_i n
    exact List.nodup_cons.mpr ⟨n, h⟩
theorem ins_length {x : Str} {xs : List Str} : (ins x xs).length ≤ xs.length + 1 := by
  unfold ins
  split
  · exact Nat.le_succ _
  · exact Nat.le_refl _
section
variable {P : Program} {w : World} {h h' : Heap} {a : Addr} {xs : List Str} {es : Array (Int × Value)} {t : SetTable}
theorem TSet.at (R : TSet w h a xs) (k : ∀ o, h.get? a = some o → h'.get? a = some o) : TSet w h' a xs := let ⟨o, es, ep, t, ho, r⟩ := R; ⟨o, es, ep, t, k o ho, r⟩
theorem TTab.elems (T : TTab w es t xs) : ElemsOf (strKind P w) es.toList := fun e he => by
  obtain ⟨x, t, rfl⟩ := T.rows e he
  exact ⟨⟨x, strKind_is P w x t, rfl⟩, rfl⟩
theorem row_is {e : Int × Value} (r : TRow w e) (k : Str) : (strKind P w).is k e.2 = true ↔ tk e = k := by
  obtain ⟨x, t, rfl⟩ := r
  constructor
  · intro q
    obtain ⟨u, hu⟩ := Value.isStrOf_shape (show Value.isStrOf k (Value.str x t) = true from q)
    cases hu
    rfl
  · intro q
    cases q
    exact strKind_is P w x t
theorem TTab.len (T : TTab w es t xs) : es.size = xs.length := by rw [← T.perm.length_eq, List.length_map, Array.length_toList]
end
section
variable {P : Program} {w : World} {A : Around} {E : Value → Shared → Prop} {s : Shared} {a : Addr} {xs : List Str}
theorem tset_tail {g : Bool → Sem Unit} (hg : ∀ (b : Bool) (s₁ : Shared) (Q' : Unit → Shared → Prop), Q' () s₁ → wpAny (model P w) A (g b) Q' E s₁)
    {o : Obj} {es : Array (Int × Value)} {ep : Nat} {t : SetTable} (ho : s.heap.get? a = some o) (hex : o.ExactSet) (hd : o.data = .set es ep t)
    {en : Array (Int × Value)} {tn : SetTable} (T : TTab w en tn xs) {was : Bool} {R : Option Bool → Shared → Prop}
    (hR : ∀ h', Heap.SameBut a s.heap h' → TSet w h' a xs → R (some true) { s with heap := h' }) :
    wpAny (model P w) A (do
        storeSet a en tn
        if (!was && tn.tooFull) = true then do
            g (relayAll tn en (SetTable.grown en.size)).2.2
            storeSet a (relayAll tn en (SetTable.grown en.size)).1 (relayAll tn en (SetTable.grown en.size)).2.1
            pure (some true)
          else pure (some true)) R E s := by
  have first := store_at (es' := en) (t' := tn) ho hd
  refine wpAny_bind (wpAny_storeSet_of ho hd ?_ (fits_of_scanBound T.sm))
  cases hc : (!was && tn.tooFull) with
  | false =>
    rw [if_neg (by decide)]
    exact wpAny_pure (hR _ (Heap.SameBut.update s.heap a (Obj.putSet en tn)) ⟨_, en, _, tn, first, hex, rfl, T⟩)
  | true =>
    rw [if_pos rfl]
    have p := relayAll_perm tn en (SetTable.grown en.size)
    have T' : TTab w (relayAll tn en (SetTable.grown en.size)).1 (relayAll tn en (SetTable.grown en.size)).2.1 xs := {
      rows := fun e he => T.rows e (p.mem_iff.mp he)
      perm := (p.map tk).trans T.perm
      nd := T.nd
      sm := by
        have z := p.length_eq
        rw [Array.length_toList, Array.length_toList] at z
        rw [z]
        exact T.sm
      fit := relayAll_fits tn en _
      ris := relayAll_ris tn en _
      led := T.led.imp id fun z => (relayAll_led tn en _).trans z }
    refine wpAny_bind (hg _ _ _ (wpAny_bind (wpAny_storeSet_of first rfl ?_ (fits_of_scanBound T'.sm))))
    exact wpAny_pure (hR _ ((Heap.SameBut.update s.heap a _).trans (Heap.SameBut.update _ a _)) ⟨_, _, _, _, store_at (es' := _) (t' := _) first rfl, hex, rfl, T'⟩)
theorem TTab.add {es : Array (Int × Value)} {t : SetTable} (T : TTab w es t xs) {x : Str} (u : Tok) (n : x ∉ xs) (room : xs.length + 1 < scanBound) : TTab w (layNew t es (hashStr w x) (.str x u)).1 (layNew t es (hashStr w x) (.str x u)).2.1 (x :: xs) := by
  have p := layNew_perm t es (hashStr w x) (.str x u)
  rw [Array.toList_push] at p
  have p := p.trans (List.perm_append_singleton (hashStr w x, Value.str x u) es.toList)
  refine ⟨fun e he => ?_, (p.map tk).trans (T.perm.cons x), List.nodup_cons.mpr ⟨n, T.nd⟩, ?_, layNew_fits _ _ _ _, layNew_ris _ _ _ _ T.ris, T.led.imp id fun z => (layNew_led _ _ _ _).trans z⟩
  · rcases List.mem_cons.mp (p.mem_iff.mp he) with rfl | q
    · exact ⟨x, u, rfl⟩
    · exact T.rows e q
  · have z := p.length_eq
    rw [Array.length_toList, List.length_cons, Array.length_toList, T.len] at z
    rw [z]
    exact room
theorem tset_add {x : Str} {u : Tok} {Q : Bool → Shared → Prop} (R : TSet w s.heap a xs) (room : xs.length + 1 < scanBound) (hQ : ∀ (b : Bool) h', Heap.SameBut a s.heap h' → TSet w h' a (ins x xs) → Q b { s with heap := h' }) :
    wpAny (model P w) A (setAddHashed a (.str x u) ((strKind P w).hash x)) Q E s := by
  obtain ⟨o, es, ep, t, ho, hex, hd, T⟩ := R
  have sc : (Value.str x u).scannable = true := rfl
  unfold setAddHashed setAddHashedIn
  refine wpAny_holding (wpAny_bind (wpAny_setState_of ho hd T.fit ?_))
  dsimp only
  rw [byScan_of sc T.sm (T.elems (P := P))]
  simp only [↓reduceIte]
  unfold setAddByScan
  refine wpAny_bind (wpAny_bind (wpAny_rule (wpAny_bind (wpAny_setScan_of (strKind_is P w x u) ho hd T.fit T.elems ?_))))
  cases hfi : List.findIdx? (fun e => (strKind P w).is x e.2) es.toList with
  | some j =>
    obtain ⟨hj, pj, _⟩ := List.findIdx?_eq_some_iff_getElem.mp hfi
    have hx : x ∈ xs := T.perm.mem_iff.mp (List.mem_map.mpr ⟨_, List.getElem_mem hj, (row_is (T.rows _ (List.getElem_mem hj)) x).mp pj⟩)
    refine wpAny_pure (wpAny_pure (hQ _ s.heap (Heap.SameBut.refl a s.heap) ⟨o, es, ep, t, ho, hex, hd, ?_⟩))
    unfold ins
    rw [if_pos hx]
    exact T
  | none =>
    have hx : x ∉ xs := fun q => by
      obtain ⟨e, he, z⟩ := List.mem_map.mp (T.perm.mem_iff.mpr q)
      have c := List.findIdx?_eq_none_iff.mp hfi e he
      rw [(row_is (T.rows e he) x).mpr z] at c
      cases c
    have T' := T.add u hx room
    have e : ins x xs = x :: xs := if_neg hx
    have e' : (strKind P w).hash x = hashStr w x := rfl
    dsimp only
    rw [e'] at *
    rw [e] at hQ
    generalize layNew t es (hashStr w x) (.str x u) = Z at T' ⊢
    obtain ⟨en, tn, was, gave⟩ := Z
    dsimp only at T' ⊢
    have gw : ∀ (b : Bool) (s₁ : Shared) (Q' : Unit → Shared → Prop), Q' () s₁ → wpAny (model P w) A (match b with | true => rule "set.scan.the-table-gave-way" | false => pure ()) Q' E s₁ := fun b s₁ Q' q => by
      cases b
      · exact wpAny_pure q
      · exact wpAny_rule q
    refine wpAny_bind (gw _ _ _ ?_)
    split
    · refine wpAny_bind ?_
      rw [hashByValue_scannable 8 sc]
      refine wpAny_pure ?_
      refine tset_tail gw ho hex hd (xs := x :: xs) ?_ fun h' sb r => wpAny_pure (hQ _ h' sb r)
      split
      · first | exact T' | exact ⟨T'.rows, T'.perm, T'.nd, T'.sm, SetTable.fits_plain_off T'.fit, T'.ris, T'.led⟩
      · first | exact T' | exact ⟨T'.rows, T'.perm, T'.nd, T'.sm, SetTable.fits_plain_off T'.fit, T'.ris, T'.led⟩
    · refine wpAny_bind (wpAny_pure ?_)
      simp only [↓reduceIte]
      exact tset_tail gw ho hex hd T' fun h' sb r => wpAny_pure (hQ _ h' sb r)
end
/-! ### made of a list -/
/-- an empty set -/
def freshO (w : World) : Obj := { cls := .type "set", dict := none, data := .set #[] 0 (.fresh 0 0 (!w.params.followText "set-order")) }
theorem tset_nil {w : World} {h : Heap} {a : Addr} (ho : h.get? a = some (freshO w)) : TSet w h a [] :=
  ⟨_, #[], 0, _, ho, ⟨rfl, rfl, rfl⟩, rfl, ⟨fun e he => by simp at he, by simp, List.nodup_nil, by decide, by rfl, List.Pairwise.nil, by
    show _ ∨ (!w.params.followText "set-order") = true
    cases w.params.followText "set-order"
    · exact .inr rfl
    · exact .inl rfl⟩⟩
/-- the members of ys so far -/
def SoFar (ys : List Str) (i : Nat) (xs : List Str) : Prop := xs.length ≤ i ∧ ∀ y, y ∈ xs ↔ y ∈ ys.take i
theorem SoFar.next {ys xs : List Str} {i : Nat} {x : Str} (h : SoFar ys i xs) (hx : ys[i]? = some x) : SoFar ys (i + 1) (ins x xs) := by
  refine ⟨Nat.le_trans ins_length (Nat.succ_le_succ h.1), fun y => ?_⟩
  rw [mem_ins', h.2, List.take_add_one, hx, List.mem_append]
  constructor
  · rintro (rfl | q)
    · exact .inr List.mem_cons_self
    · exact .inl q
  · rintro (q | q)
    · exact .inr q
    · exact .inl (List.mem_singleton.mp q)
section
variable {P : Program} {w : World} {A : Around} {E : Value → Shared → Prop} {s : Shared}
theorem tset_loop {I S : Addr} {fp wr : List Addr} {G : Array GenState → Array GenState → Prop} {n : Nat} {Pv : Nat → Value → Prop} {St : Nat → Shared → Prop} {R : Result → Shared → Prop} {ys : List Str}
    (W : WalksS P w A.in1 I fp wr G n Pv St) (out : S ∉ fp) (hn : n = ys.length) (hb : ys.length + 1 < scanBound) (val : ∀ i v, Pv i v → ∃ x t, ys[i]? = some x ∧ v = .str x t)
    (fin : ∀ s0 s' xs, Moved (S :: wr) G s0 s' → s0 = s → SoFar ys n xs → TSet w s'.heap S xs → R (.ok (.ret .none)) s') :
    ∀ (d i : Nat) (s1 : Shared) (xs : List Str), n = i + d → St i s1 → Moved (S :: wr) G s s1 ∨ s1 = s → SoFar ys i xs → TSet w s1.heap S xs → codeAny (model P w) A (.builtin "set.update.loop" ⟨[.ref S, .ref I], []⟩) R s1 := by
  have offw : S ∉ wr := fun q => out (W.sub _ q)
  have wid : ∀ b ∈ wr, b ∈ S :: wr := fun b q => List.mem_cons_of_mem _ q
  have far : ∀ {s1 s2 : Shared}, Moved (S :: wr) G s s1 ∨ s1 = s → Moved (S :: wr) G s1 s2 → Moved (S :: wr) G s s2 := fun m m2 => m.elim (fun q => Moved.trans W.gtrans q m2) fun q => q ▸ m2
  intro d
  induction d with
  | zero =>
    intro i s1 xs hi st mv so T
    refine codeAny_builtin F.entry_set_update_loop ?_
    rw [Around.under_plainId F.plain_set_update_loop _]
    show wpAny _ A.in1 (pyNext (.ref I) >>= _) _ _ s1
    obtain rfl : i = n := hi.symm
    refine wpAny_bind (W.done s1 _ _ st fun s2 m => ?_)
    exact wpAny_pure (fin s s2 xs (far mv (m.mono wid)) rfl so (T.at fun o q => m.heap S o offw q))
  | succ d ih =>
    intro i s1 xs hi st mv so T
    refine codeAny_builtin F.entry_set_update_loop ?_
    rw [Around.under_plainId F.plain_set_update_loop _]
    show wpAny _ A.in1 (pyNext (.ref I) >>= _) _ _ s1
    refine wpAny_bind (W.item i s1 _ _ (by omega) st fun v s2 hv st2 m => ?_)
    obtain ⟨x, t, hx, rfl⟩ := val i v hv
    show wpAny _ A.in1 (holding [Value.str x t] (setAdd S (.str x t)) >>= _) _ _ s2
    refine wpAny_bind (wpAny_holding ?_)
    unfold setAdd
    refine wpAny_holding (wpAny_bind ((strKind P w).pyHash (k := x) (strKind_is _ _ _ _) ?_))
    have T2 : TSet w s2.heap S xs := T.at fun o q => m.heap S o offw q
    refine tset_add (s := { s2 with toks := s2.toks + 1 }) T2 (by have := so.1; omega) fun b h3 sb T3 => ?_
    refine wpAny_pure ⟨plainId_quiet F.plain_set_update_loop _, ih (i + 1) _ (ins x xs) (by omega) (W.frame _ s2 _ _ st2 (Nat.le_succ _) fun c hc o q => ?_) (.inl ?_) (so.next hx) T3⟩
    · rw [sb.2 c fun z => out (z ▸ hc)]
      exact q
    · refine far mv ((m.mono wid).then_heap (Nat.le_succ _) fun c o hc q => ?_)
      rw [sb.2 c fun z => hc (z ▸ List.mem_cons_self)]
      exact q
set_option maxHeartbeats 6400000 in
/-- set(xs), a list of texts -/
theorem call_set_texts {l : Addr} {items : Array Value} {ys : List Str} {Q : Value → Shared → Prop} (hh : A.handled = none) (hl : s.heap.IsList l items) (hi : StrsAre items.toList ys) (hb : ys.length + 1 < scanBound)
    (h : ∀ (h' : Heap) (tk : Nat) (xs : List Str), TSet w h' s.heap.objs.size xs → (∀ y, y ∈ xs ↔ y ∈ ys) → xs.length ≤ ys.length → (∀ b o, s.heap.get? b = some o → h'.get? b = some o) → Q (.ref s.heap.objs.size) { s with heap := h', toks := tk }) :
    wpAny (model P w) A (call (.type "set") [.ref l]) Q E s := by
  have made := F.called_set.made
  have sub := F.called_set.sub
  have h1 := F.called_set.notType
  have h2 := F.called_set.canCreate
  have ct := F.typeCall_set_1 (.ref l)
  obtain ⟨c, tl, mro⟩ := F.called_set.mro
  refine wpAny_call (codeAny_of_tree (wpAny_pure ⟨Code.quiet_builtin _ (by decide +kernel), codeAny_builtin F.entry_type_call ?_⟩))
  rw [Around.under_plain (weight_type_call_type "set" [.ref l] []) rfl]
  repeat (any_goals (first | assumption | wp_step))
  refine codeAny_mono (code_set_led1 (.ref l) (E := E) (Q₁ := fun obj s₁ => obj = .ref s.heap.objs.size ∧ s₁ = { s with heap := s.heap.push (freshO w) }) ⟨rfl, rfl⟩) fun r s₁ hr => ?_
  match r, hr with
  | .error e, hr => exact hr
  | .ok .next, hr => exact hr.elim
  | .ok .brk, hr => exact hr.elim
  | .ok .cont, hr => exact hr.elim
  | .ok (.ret obj), hr =>
    obtain ⟨rfl, rfl⟩ := hr
    have at0 : (s.heap.push (freshO w)).get? s.heap.objs.size = some (freshO w) := Heap.get?_push_size _ rfl
    have isS : Shared.TypeIs { s with heap := s.heap.push (freshO w) } (.ref s.heap.objs.size) "set" := ⟨_, at0, rfl⟩
    have li := F.called_set.init.lookup
    have bi := F.called_set.init.bind (.ref s.heap.objs.size)
    repeat (any_goals (first | assumption | wp_step))
    refine codeAny_mono (codeAny_call_builtin (R := wants (fun r s₂ => r = .none ∧ ∃ h' tk xs, s₂ = { s with heap := h', toks := tk } ∧ TSet w h' s.heap.objs.size xs ∧ (∀ y, y ∈ xs ↔ y ∈ ys) ∧ xs.length ≤ ys.length ∧ (∀ b o, s.heap.get? b = some o → h'.get? b = some o)) E)
      F.called_set.init.plain F.entry_set_init (check_set_init_1 isS ?_)) fun r₂ s₂ hr₂ => ?_
    · obtain ⟨ol, hol, hcl, nl, hdl⟩ := hl
      obtain ⟨ocls, odict, odata, oslots⟩ := ol
      cases (show ocls = _ from hcl)
      cases (show odata = _ from hdl)
      have ol' : (s.heap.push (freshO w)).get? l = some { cls := .type "list", dict := odict, data := .seq items nl, slots := oslots } := Heap.get?_push_of_some _ hol
      have isL0 : s.heap.IsList l items := ⟨_, hol, rfl, nl, rfl⟩
      have isL : (s.heap.push (freshO w)).IsList l items := ⟨_, ol', rfl, nl, rfl⟩
      have n1 := F.sub_list_set
      have n2 := F.sub_list_frozenset
      have n3 : (Value.type "list" == Value.type "dict") = false := by decide
      unfold Builtin.«set.__init__» noKeywords Builtin.Frozenset.updateFrom
      generalize hPI : pyIter = PI
      wp_walk
      subst hPI
      have lt : l < s.heap.objs.size := Heap.lt_size hol
      have sz : (s.heap.push (freshO w)).objs.size = s.heap.objs.size + 1 := Heap.size_push ..
      have hh3 : A.in1.in1.in1.handled = none := by simp [hh]
      have neI : l ≠ (s.heap.push (freshO w)).objs.size := by
        rw [sz]
        exact Nat.ne_of_lt (Nat.lt_succ_of_lt lt)
      have out : s.heap.objs.size ∉ [(s.heap.push (freshO w)).objs.size, l] := by
        rw [sz]
        intro q
        rcases List.mem_cons.mp q with z | z
        · exact Nat.ne_of_lt (Nat.lt_succ_self _) z
        · exact Nat.ne_of_gt lt (List.mem_singleton.mp z)
      have len : items.size = ys.length := by rw [← Array.length_toList]; exact StrsAre.len_eq hi
      refine wpAny_pyIter_list isL (wpAny_bind (wpAny_runValue ?_))
      have g0 : ((s.heap.push (freshO w)).push { cls := .type "list_iterator", data := .fields #[.ref l, .int 0 0] }).get? s.heap.objs.size = some (freshO w) := Heap.get?_push_of_some _ at0
      refine tset_loop ((Walks.list hh3 _ l neI items).toS) out len hb (fun i v hv => ?_) (fun s0 s' xs m e0 so T => ?_) items.size 0 _ [] (Nat.zero_add _).symm ⟨⟨_, Heap.get?_push_size _ rfl, rfl, rfl⟩, isL.push _⟩ (.inr rfl) ⟨Nat.le_refl 0, fun y => by simp⟩ (tset_nil g0)
      · have hi' : i < ys.length := by rw [← len]; exact (Array.getElem?_eq_some_iff.mp hv).1
        obtain ⟨t, e⟩ := SS.strs_at hi i v (by rw [Array.getElem?_toList]; exact hv)
        exact ⟨ys[i], t, List.getElem?_eq_getElem hi', by rw [e, List.getD_eq_getElem?_getD, List.getElem?_eq_getElem hi'] <;> rfl⟩
      · subst e0
        obtain ⟨h', g2, d', tk', os'⟩ := s'
        have eg : g2 = s.gens := m.gens
        have ed : d' = s.drawn := m.drawn
        have eo : os' = s.os := m.os
        subst eg ed eo
        have so1 := so.1
        rw [len] at so1
        refine wpAny_pure (wpAny_pure ⟨rfl, h', tk', xs, rfl, T, fun y => ?_, so1, fun b o q => ?_⟩)
        · rw [so.2 y, len, List.take_length]
        · have lb := Heap.lt_size q
          refine m.heap b o (fun z => ?_) (Heap.get?_push_of_some _ (Heap.get?_push_of_some _ q))
          rcases List.mem_cons.mp z with z | z
          · exact Nat.ne_of_lt lb z
          · exact Nat.ne_of_lt (Nat.lt_succ_of_lt lb) ((List.mem_singleton.mp z).trans sz)
    · match r₂, hr₂ with
      | .error e, hr₂ => exact hr₂
      | .ok .next, hr₂ => exact hr₂.elim
      | .ok .brk, hr₂ => exact hr₂.elim
      | .ok .cont, hr₂ => exact hr₂.elim
      | .ok (.ret r), hr₂ =>
        obtain ⟨rfl, h', tk, xs, rfl, T, m, len, k⟩ := hr₂
        repeat (any_goals (first | assumption | wp_step))
        exact h _ _ xs T m len k
end
/-! ### sorted -/
theorem texts_of : ∀ (l : List Value), (∀ v ∈ l, ∃ x t, v = Value.str x t) → StrsAre l (l.map tx)
  | [], _ => .nil
  | v :: l, h => by
    obtain ⟨x, t, rfl⟩ := h v List.mem_cons_self
    exact .cons x t (texts_of l fun u hu => h u (List.mem_cons_of_mem _ hu))
section
variable {P : Program} {w : World} {A : Around} {E : Value → Shared → Prop} {s : Shared}
theorem sorted_texts {a : Addr} {xs : List Str} {Q : Value → Shared → Prop} (T : TSet w s.heap a xs) (hh : A.handled = none) (h64 : xs.length < 64)
    (hQ : ∀ s' p (out : Array Value) (c : Nat) (ys : List Str), (∀ b o, s.heap.get? b = some o → s'.heap.get? b = some o) → s'.gens = s.gens → s'.os = s.os → s.heap.objs.size ≤ p →
      s'.heap.get? p = some (seqObj "list" out c) → StrsAre out.toList ys → ys.Perm xs → sortedS ys = true → Q (.ref p) s') :
    wpAny (model P w) A (call (.builtin "sorted") [.ref a]) Q E s := by
  obtain ⟨o, es, ep, t, ho, hex, hd, T⟩ := T
  refine Calls.call_function_entry kind_sorted plain_sorted entry_sorted (args_sorted1 _) ?_
  unfold Builtin.«sorted»
  refine wpAny_bind (m := checkCount "sorted" 1 1 _) (wpAny_pure ?_)
  refine wpAny_bind (collect_set (A := A.in1) hh ⟨o, ho, hex.1, hd⟩ T.fit T.sm T.ris T.led fun s1 vs k1 hz g1 o1 pm => ?_)
  have len : vs.length = xs.length := by rw [pm.length_eq, List.length_map, Array.length_toList, T.len]
  have hS : StrsAre vs (vs.map tx) := texts_of vs fun v hv => by
    obtain ⟨e, he, q⟩ := List.mem_map.mp (pm.mem_iff.mp hv)
    obtain ⟨x, t, rfl⟩ := T.rows e he
    exact ⟨x, t, q.symm⟩
  have pk : (vs.map tx).Perm xs := by
    have q := pm.map tx
    rw [List.map_map] at q
    exact q.trans T.perm
  have h64' : vs.length < 64 := by rw [len]; exact h64
  refine wpAny_bind (wpAny_newList ?_ (by rw [sizeLine_eq]; omega))
  have oL : (s1.heap.push (seqObj "list" vs.toArray 0)).get? s1.heap.objs.size = some (seqObj "list" vs.toArray 0) := Heap.get?_push_size _ rfl
  refine wpAny_bind (wpAny_holding (wpAny_call_entry slot_list_sort ⟨_, oL, rfl⟩ entry_list_sort
    (list_sort_treeK strKind_oneLt (s := { s1 with heap := s1.heap.push (seqObj "list" vs.toArray 0) }) oL hS.keysOf (fun v₁ v₂ rest e => keyKind_strs (by rw [← e]; exact hS)) h64' fun st hp hs => ⟨_, rfl, ?_⟩) (args_list_sort _)))
  obtain ⟨ys, y1, y2, y3⟩ := sorted_out_str hS hp hs
  obtain ⟨c, hc⟩ := sortedHeap_at (vs := vs) (out := (arrOf st).map (·.2)) oL
  refine wpAny_pure ⟨_, rfl, hQ _ s1.heap.objs.size ((arrOf st).map (·.2)) c ys (fun b u e => ?_) g1 o1 hz hc y1 (y2.trans pk) y3⟩
  have lb := Heap.lt_size (k1 b u e)
  show (sortedHeap (s1.heap.push (seqObj "list" vs.toArray 0)) s1.heap.objs.size vs ((arrOf st).map (·.2))).get? b = some u
  rw [sortedHeap_old (Nat.ne_of_lt lb) (by rw [size_push']; exact Nat.lt_succ_of_lt lb)]
  exact Heap.get?_push_of_some _ (k1 b u e)
end
/-! ### as rules -/
def TxO (w : World) (a : Addr) (xs : List Str) : HO := .ext fun h => TSet w h a xs
theorem txO_new {w : World} {P : Program} {H : Hp} {h : Heap} {a : Addr} {xs : List Str} (R : TSet w h a xs) : ObjOk P w H h a (TxO w a xs) :=
  let ⟨o, _, _, _, ho, _⟩ := R
  ⟨R, ⟨o, ho⟩, fun _ _ p k => TSet.at p k⟩
/-- set(ys) -/
def rSetT (K : PySem.W.Frag) (w : World) : List V → Hp → VK → Prop := fun vs H Q => ∃ (a : Addr) (ys : List Str), vs = [.ref a] ∧ SqL K H a (ys.map V.str) ∧ ys.length ≤ 1000 ∧
  ∀ (xs : List Str) (p : Addr), (∀ y, y ∈ xs ↔ y ∈ ys) → xs.Nodup → xs.length ≤ ys.length → H p = none → Q (.ref p) (upd H p (TxO w p xs))
/-- sorted(found) -/
def rSortT (w : World) : List V → Hp → VK → Prop := fun vs H Q => ∃ (a : Addr) (xs : List Str), vs = [.ref a] ∧ H a = some (TxO w a xs) ∧ xs.length < 64 ∧
  ∀ (ys : List Str) (p : Addr), ys.Perm xs → sortedS ys = true → H p = none → Q (.ref p) (upd H p (.lst (ys.map V.str)))
section
variable {X : Cx}
theorem call_setT (hc : X.calm = true) : CallR X (.type "set") (rSetT X.K X.w) := by
  intro pins s σ H vs us Q I r h
  obtain ⟨a, ys, rfl, hs, hl, q⟩ := h
  obtain ⟨its, rv, il, _⟩ := I.list hs
  rw [Vals.ref1 r]
  refine call_set_texts (I.ok.hd hc) il.isList rv.strs (by unfold scanBound; omega) fun h' tk xs T m len k => ?_
  have nd : xs.Nodup := let ⟨_, _, _, _, _, _, _, T'⟩ := T; T'.nd
  exact ⟨.ref _, upd H s.heap.objs.size (TxO X.w s.heap.objs.size xs), I.laid (t' := tk) k (Nat.le_refl _) (txO_new T), rfl, q xs _ m nd len (I.hok.fresh (Nat.le_refl _))⟩
theorem call_sortT (hc : X.calm = true) : CallR X (.builtin "sorted") (rSortT X.w) := by
  intro pins s σ H vs us Q I r h
  obtain ⟨a, xs, rfl, ha, h64, q⟩ := h
  have T : TSet X.w s.heap a xs := (I.hok a _ ha).1
  rw [Vals.ref1 r]
  refine sorted_texts T (I.ok.hd hc) h64 fun s' p out c ys k g o le hp hS pm so => ?_
  have hlen : (ys.map V.str).length ≤ sizeLine := by rw [List.length_map, pm.length_eq]; exact small64 h64
  have hn : H p = none := I.hok.fresh le
  have es : s' = { s with heap := s'.heap, gens := s'.gens, drawn := s'.drawn, toks := s'.toks } := by
    rw [← o]
  have J : Inv X pins σ (upd H p (.lst (ys.map V.str))) { s with heap := s'.heap, gens := s'.gens, drawn := s'.drawn, toks := s'.toks } :=
    I.call (ch := []) (Un.laid k le hn) (I.hok.laid k le ⟨hlen, out.toList, c, vals_of_strs hS, hp⟩) (by rw [g]; exact I.bare) fun _ z => nomatch z
  rw [es]
  exact ⟨.ref p, _, J, rfl, q ys p pm so hn⟩
end
end Lt

/-! ## KaC -/
set_option maxHeartbeats 4000000
/-! comprehensions by what they give -/
namespace Lw
open PySem PySem.Spec PyProof.Rows L2
theorem list_of_fn {n : Nat} {ys : List V} {f : Nat → V} (hl : ys.length = n) (h : ∀ i y, ys[i]? = some y → y = f i) : ys = (List.range n).map f := by
  apply List.ext_getElem?
  intro i
  by_cases hi : i < n
  · rw [List.getElem?_map, List.getElem?_range hi, List.getElem?_eq_getElem (by omega : i < ys.length)]
    exact congrArg some (h i _ (List.getElem?_eq_getElem (by omega : i < ys.length)))
  · rw [List.getElem?_eq_none (by omega), List.getElem?_eq_none (by simp; omega)]
/-- each turn leaves what was tracked and gives a value of which R holds -/
theorem lc_gen {J : It} {n : Nat} {G : Hp → Prop} {Y : Nat → Hp → V → Hp → Prop} (w : Walk J n G Y) {R : Nat → V → Hp → Prop} {g : TG} {te : TE} {vs : List Nat} {σ : L2.St} {H1 : Hp} {D : Addr} {Qd : Hp → Prop} (hn : n ≤ 1000) (hD : H1 D = none)
    (mono : ∀ i y H H', R i y H → (∀ a o, a ≠ D → H a = some o → H' a = some o) → R i y H') (hG : ∀ H', Same H1 H' → G H')
    (hs : ∀ i x H H' ys (Q' : VK), i < n → Same H1 H → H D = some (.lst ys) → Y i H x H' → (∀ y H4, Same H H4 → R i y H4 → Q' y H4) → g x (wipe σ vs) H' fun σ2 H2 => wipe σ2 vs = wipe σ vs ∧ te σ2 H2 Q')
    (hd : ∀ H' ys, Same H1 H' → H' D = some (.lst ys) → ys.length = n → (∀ i y, ys[i]? = some y → R i y H') → Qd H') :
    ∃ W : Nat → Nat → Hp → Prop, (∃ m, W 0 m (upd H1 D (.lst []))) ∧ ∀ i m H, W i m H →
      (J.stop i H ∧ Qd H) ∨ (J.go i H ∧ ∃ Nx : Hp → Prop, (∀ H', Nx H' → ∃ m', m' < m ∧ W (i + 1) m' H') ∧ ∀ x H', J.yld i H x H' → g x (wipe σ vs) H' fun σ2 H2 => wipe σ2 vs = wipe σ vs ∧ tYes σ2 H2 fun b H3 =>
        if b = true then te σ2 H3 fun y H4 => ∃ acc, H4 D = some (.lst acc) ∧ acc.length < sizeLine ∧ Nx (upd H4 D (.lst (acc ++ [y]))) else Nx H3) := by
  refine lc_it w (tt := tYes) (fun i H => ∃ ys, Same H1 H ∧ H D = some (.lst ys) ∧ ys.length = i ∧ ∀ j y, ys[j]? = some y → R j y H) ⟨[], Same.new hD, upd_same, rfl, fun j y e => by simp at e⟩ (fun i H _ ⟨_, s, _⟩ => hG H s) (fun i x H H' hi ⟨ys, s, d, l, r⟩ y => ?_) fun H ⟨ys, s, d, l, r⟩ => hd H ys s d l r
  show g x (wipe σ vs) H' fun σ2 H2 => wipe σ2 vs = wipe σ vs ∧ te σ2 H2 fun y H4 => _
  refine hs i x H H' ys _ hi s d y fun v H4 s4 r4 => ⟨ys, s4 _ _ d, Nat.lt_of_le_of_lt (show ys.length ≤ 1000 by omega) (by decide), ys ++ [v], fun a u e => ?_, upd_same, by rw [List.length_append, l]; rfl, fun j z e => ?_⟩
  · rw [upd_ne (ne_of_none e hD)]
    exact s4 _ _ (s _ _ e)
  · have k2 : ∀ a o, a ≠ D → H4 a = some o → upd H4 D (.lst (ys ++ [v])) a = some o := fun a o n e => by
      rw [upd_ne n]
      exact e
    by_cases hj : j < ys.length
    · rw [List.getElem?_append_left hj] at e
      exact mono _ _ _ _ (mono _ _ _ _ (r j z e) fun a o _ e => s4 a o e) k2
    · rw [List.getElem?_append_right (by omega)] at e
      have e0 : j - ys.length = 0 := by
        cases q : j - ys.length with
        | zero => rfl
        | succ m =>
          rw [q] at e
          simp at e
      rw [e0] at e
      obtain rfl : v = z := by simpa using e
      obtain rfl : j = i := by omega
      exact mono _ _ _ _ r4 k2
/-- .. of a function of the turn -/
theorem lc_fn {J : It} {n : Nat} {G : Hp → Prop} {Y : Nat → Hp → V → Hp → Prop} (w : Walk J n G Y) (f : Nat → V) {g : TG} {te : TE} {vs : List Nat} {σ : L2.St} {H1 : Hp} {D : Addr} {Qd : Hp → Prop} (hn : n ≤ 1000) (hD : H1 D = none)
    (hG : ∀ H', Same H1 H' → G H')
    (hs : ∀ i x H H' (Q' : VK), i < n → Same H1 H → Y i H x H' → (∀ H4, Same H H4 → Q' (f i) H4) → g x (wipe σ vs) H' fun σ2 H2 => wipe σ2 vs = wipe σ vs ∧ te σ2 H2 Q')
    (hd : ∀ H', Same H1 H' → H' D = some (.lst ((List.range n).map f)) → Qd H') :
    ∃ W : Nat → Nat → Hp → Prop, (∃ m, W 0 m (upd H1 D (.lst []))) ∧ ∀ i m H, W i m H →
      (J.stop i H ∧ Qd H) ∨ (J.go i H ∧ ∃ Nx : Hp → Prop, (∀ H', Nx H' → ∃ m', m' < m ∧ W (i + 1) m' H') ∧ ∀ x H', J.yld i H x H' → g x (wipe σ vs) H' fun σ2 H2 => wipe σ2 vs = wipe σ vs ∧ tYes σ2 H2 fun b H3 =>
        if b = true then te σ2 H3 fun y H4 => ∃ acc, H4 D = some (.lst acc) ∧ acc.length < sizeLine ∧ Nx (upd H4 D (.lst (acc ++ [y]))) else Nx H3) :=
  lc_gen w (R := fun i y _ => y = f i) hn hD (fun _ _ _ _ h _ => h) hG (fun i x H H' ys Q' hi s d y k => hs i x H H' Q' hi s y fun H4 s4 => k _ H4 s4 rfl)
    fun H' ys s d l r => hd H' s (by rw [d, list_of_fn l r])
end Lw

/-! ## KaD -/
set_option maxHeartbeats 8000000
namespace Lw
open PySem PySem.Spec PyProof.Rows L2
abbrev s_is_integer : Stmt := topS 5
abbrev n_is_integer : List Str := ["value"]
theorem sc_is_integer : FnScope n_is_integer ["value"] (defScope s_is_integer) := ⟨rfl, rfl, rfl, by decide +kernel, rfl, by decide +kernel, by decide +kernel⟩
abbrev s_is_name : Stmt := topS 6
abbrev n_is_name : List Str := ["value", "sign"]
theorem sc_is_name : FnScope n_is_name ["value"] (defScope s_is_name) := ⟨rfl, rfl, rfl, by decide +kernel, rfl, by decide +kernel, by decide +kernel⟩
abbrev s_is_symbol : Stmt := topS 7
abbrev n_is_symbol : List Str := ["value"]
theorem sc_is_symbol : FnScope n_is_symbol ["value"] (defScope s_is_symbol) := ⟨rfl, rfl, rfl, by decide +kernel, rfl, by decide +kernel, by decide +kernel⟩
abbrev s__law_is_name : Stmt := topS 18
abbrev n__law_is_name : List Str := ["_law_thing", "_law_small", "_law_sign"]
theorem sc__law_is_name : FnScope n__law_is_name ["_law_thing"] (defScope s__law_is_name) := ⟨rfl, rfl, rfl, by decide +kernel, rfl, by decide +kernel, by decide +kernel⟩
abbrev s__law_is_symbol : Stmt := topS 19
abbrev n__law_is_symbol : List Str := ["_law_thing"]
theorem sc__law_is_symbol : FnScope n__law_is_symbol ["_law_thing"] (defScope s__law_is_symbol) := ⟨rfl, rfl, rfl, by decide +kernel, rfl, by decide +kernel, by decide +kernel⟩
theorem pe_gl {X : Cx} {x : Str} {v : V} {pos : Pos} (hg : Gl X x) (h : ∃ u, X.mg x = some u ∧ RelV v u) (hdb : (x == ("__debug__" : Str)) = false := by decide) : PE X (.Name x pos) (tC v) := by
  obtain ⟨u, h1, h2⟩ := h
  exact pe_glob hg h1 h2 hdb
def lettersS : Str := "abcdefghijklmnopqrstuvwxyz"
def signsS : Str := "abcdefghijklmnopqrstuvwxyz0123456789"
def atS : Str := "@"
/-- what stands at the top -/
structure Ta (mg : Str → Option Value) : Prop extends Blt mg where
  b_isinstance : mg "isinstance" = none
  b_str : mg "str" = none
  b_tuple : mg "tuple" = none
  b_bool : mg "bool" = none
  b_all : mg "all" = none
  b_sorted : mg "sorted" = none
  b_set : mg "set" = none
  b_range : mg "range" = none
  b_max : mg "max" = none
  b_min : mg "min" = none
  b_repr : mg "repr" = none
  g__LETTERS : ∃ u, mg "_LETTERS" = some u ∧ RelV (.str lettersS) u
  g__SIGNS : ∃ u, mg "_SIGNS" = some u ∧ RelV (.str signsS) u
  g__LONGEST_NAME : ∃ u, mg "_LONGEST_NAME" = some u ∧ RelV (.int 8) u
  g_MIDDLE : ∃ u, mg "MIDDLE" = some u ∧ RelV (.str atS) u
/-- data as a tree, as far as the questions look -/
inductive Tr where
  | non | bl (b : Bool) | int (i : Int) | str (z : Str) | lst | dct | tup (ts : List Tr)
mutual
inductive TrIs (K : PySem.W.Frag) (H : Hp) : V → Tr → Prop
  | non : TrIs K H .non .non
  | bl (b : Bool) : TrIs K H (.bl b) (.bl b)
  | int (i : Int) : TrIs K H (.int i) (.int i)
  | str (z : Str) (h : z.length ≤ 1000) : TrIs K H (.str z) (.str z)
  | lst {a : Addr} {xs : List V} (h : H a = some (.lst xs)) : TrIs K H (.ref a) .lst
  | dct {a : Addr} {kvs : List (Key × V)} (h : H a = some (.dK kvs)) : TrIs K H (.ref a) .dct
  | tup {a : Addr} {xs : List V} {ts : List Tr} (h : H a = some (.tup xs)) (l : xs.length ≤ 40) (r : TrAll K H xs ts) : TrIs K H (.ref a) (.tup ts)
inductive TrAll (K : PySem.W.Frag) (H : Hp) : List V → List Tr → Prop
  | nil : TrAll K H [] []
  | cons {x : V} {t : Tr} {xs : List V} {ts : List Tr} (h : TrIs K H x t) (r : TrAll K H xs ts) : TrAll K H (x :: xs) (t :: ts)
end
mutual
theorem TrIs.same {K : PySem.W.Frag} {H H' : Hp} (s : Same H H') : ∀ {v : V} {t : Tr}, TrIs K H v t → TrIs K H' v t
  | _, _, .non => .non
  | _, _, .bl b => .bl b
  | _, _, .int i => .int i
  | _, _, .str z h => .str z h
  | _, _, .lst h => .lst (s _ _ h)
  | _, _, .dct h => .dct (s _ _ h)
  | _, _, .tup h l r => .tup (s _ _ h) l (TrAll.same s r)
theorem TrAll.same {K : PySem.W.Frag} {H H' : Hp} (s : Same H H') : ∀ {vs : List V} {ts : List Tr}, TrAll K H vs ts → TrAll K H' vs ts
  | _, _, .nil => .nil
  | _, _, .cons h r => .cons (h.same s) (TrAll.same s r)
end
def Tr.ty : Tr → String
  | .non => "NoneType" | .bl _ => "bool" | .int _ => "int" | .str _ => "str" | .lst => "list" | .dct => "dict" | .tup _ => "tuple"
theorem TrIs.tyx {K : PySem.W.Frag} {H : Hp} {v : V} {t : Tr} (h : TrIs K H v t) : TyX K H v (.type t.ty) := by
  cases h with
  | non => exact .base .non
  | bl b => exact .base (.bl b)
  | int i => exact .base (.int i)
  | str z => exact .base (.str z)
  | lst h => exact .base (.lst h)
  | dct h => exact .base (.dK h)
  | tup h => exact .base (.tup h)
def Tr.isStr : Tr → Bool | .str _ => true | _ => false
def Tr.isTup : Tr → Bool | .tup _ => true | _ => false
def Tr.isInt : Tr → Bool | .int _ => true | .bl _ => true | _ => false
def Tr.isBool : Tr → Bool | .bl _ => true | _ => false
theorem kit_str : ∀ t : Tr, kitB t.ty "str" = some t.isStr
  | .non => (by decide +kernel : kitB "NoneType" "str" = some false)
  | .bl _ => (by decide +kernel : kitB "bool" "str" = some false)
  | .int _ => (by decide +kernel : kitB "int" "str" = some false)
  | .str _ => (by decide +kernel : kitB "str" "str" = some true)
  | .lst => (by decide +kernel : kitB "list" "str" = some false)
  | .dct => (by decide +kernel : kitB "dict" "str" = some false)
  | .tup _ => (by decide +kernel : kitB "tuple" "str" = some false)
theorem kit_tup : ∀ t : Tr, kitB t.ty "tuple" = some t.isTup
  | .non => (by decide +kernel : kitB "NoneType" "tuple" = some false)
  | .bl _ => (by decide +kernel : kitB "bool" "tuple" = some false)
  | .int _ => (by decide +kernel : kitB "int" "tuple" = some false)
  | .str _ => (by decide +kernel : kitB "str" "tuple" = some false)
  | .lst => (by decide +kernel : kitB "list" "tuple" = some false)
  | .dct => (by decide +kernel : kitB "dict" "tuple" = some false)
  | .tup _ => (by decide +kernel : kitB "tuple" "tuple" = some true)
theorem kit_int : ∀ t : Tr, kitB t.ty "int" = some t.isInt
  | .non => (by decide +kernel : kitB "NoneType" "int" = some false)
  | .bl _ => (by decide +kernel : kitB "bool" "int" = some true)
  | .int _ => (by decide +kernel : kitB "int" "int" = some true)
  | .str _ => (by decide +kernel : kitB "str" "int" = some false)
  | .lst => (by decide +kernel : kitB "list" "int" = some false)
  | .dct => (by decide +kernel : kitB "dict" "int" = some false)
  | .tup _ => (by decide +kernel : kitB "tuple" "int" = some false)
theorem kit_bool : ∀ t : Tr, kitB t.ty "bool" = some t.isBool
  | .non => (by decide +kernel : kitB "NoneType" "bool" = some false)
  | .bl _ => (by decide +kernel : kitB "bool" "bool" = some true)
  | .int _ => (by decide +kernel : kitB "int" "bool" = some false)
  | .str _ => (by decide +kernel : kitB "str" "bool" = some false)
  | .lst => (by decide +kernel : kitB "list" "bool" = some false)
  | .dct => (by decide +kernel : kitB "dict" "bool" = some false)
  | .tup _ => (by decide +kernel : kitB "tuple" "bool" = some false)
/-- isinstance, asked -/
theorem isi {K : PySem.W.Frag} {H : Hp} {v : V} {t : Tr} {n : String} {b : Bool} {Q : VK} (h : TrIs K H v t) (e : kitB t.ty n = some b) (q : Q (.bl b) H) : rIsi K [v, .ty n] H Q := ⟨v, .ty n, _, _, b, rfl, .ty n, h.tyx, kit_ty e, q⟩
/-- a name's text -/
def firstS (z : Str) : Bool := match z.cps.toList with
  | [] => false
  | c :: _ => decide (c ∈ lettersS.cps.toList)
def allS (z : Str) : Bool := z.cps.toList.all fun c => decide (c ∈ signsS.cps.toList)
def nameS (z : Str) : Bool := !decide (z = ("view" : Str)) && (decide (1 ≤ z.length) && (decide (z.length ≤ 8) && (firstS z && allS z)))
theorem name_view {z : Str} (h : z = ("view" : Str)) : nameS z = false := by
  subst h
  rfl
theorem name_lo {z : Str} (h : ¬ 1 ≤ z.length) : nameS z = false := by
  unfold nameS
  rw [decide_eq_false h]
  simp
theorem name_hi {z : Str} (h : ¬ z.length ≤ 8) : nameS z = false := by
  unfold nameS
  rw [decide_eq_false h]
  simp
theorem name_rest {z : Str} (h1 : ¬ z = ("view" : Str)) (h2 : 1 ≤ z.length) (h3 : z.length ≤ 8) : nameS z = (firstS z && allS z) := by
  unfold nameS
  rw [decide_eq_false h1, decide_eq_true h2, decide_eq_true h3]
  simp
theorem first_of {z : Str} (h : 1 ≤ z.length) : ∃ c, atI z.cps.toList 0 = some c ∧ firstS z = decide (c ∈ lettersS.cps.toList) := by
  obtain ⟨⟨l⟩⟩ := z
  cases l with
  | nil => exact absurd h (by decide)
  | cons c r => exact ⟨c, atI_nat (j := 0) rfl, rfl⟩
/-- what a sign-by-sign look gives -/
def atB (z : Str) (p : Nat → Bool) (i : Nat) : Bool := match z.cps[i]? with
  | some c => p c
  | none => false
theorem atB_some {z : Str} {p : Nat → Bool} {i c : Nat} (h : z.cps[i]? = some c) : atB z p i = p c := by
  unfold atB
  rw [h]
theorem all_at (z : Str) (p : Nat → Bool) : ((List.range z.cps.size).map (atB z p)).all id = z.cps.toList.all p := by
  have e : (List.range z.cps.size).map (atB z p) = z.cps.toList.map p := by
    apply List.ext_getElem?
    intro i
    rw [List.getElem?_map, List.getElem?_map, show z.cps.toList[i]? = z.cps[i]? from Array.getElem?_toList]
    by_cases hi : i < z.cps.size
    · rw [List.getElem?_range hi, Array.getElem?_eq_getElem hi]
      exact congrArg some (atB_some (Array.getElem?_eq_getElem hi))
    · rw [List.getElem?_eq_none (by simp; omega), Array.getElem?_eq_none (by omega)]
      rfl
  rw [e, List.all_map]
  rfl
def Tr.name : Tr → Bool | .str z => nameS z | _ => false
def Tr.sym : Tr → Bool | .str z => nameS z || decide (z = "@") | _ => false
def Tr.whole : Tr → Bool | .int _ => true | _ => false
def spB (K : PySem.W.Frag) (f : Tr → Bool) : Sp := fun vs H Q _ => ∃ v t, vs = [v] ∧ TrIs K H v t ∧ ∀ H', Same H H' → Q (.bl (f t)) H'
section
variable {P : Program} {w : World} {K : PySem.W.Frag} {mg : Str → Option Value} {base : Heap}
theorem ok_is_integer {f : Addr} {fd : FuncData} (F : Fun K "is_integer" "is_integer" s_is_integer f fd) (T : Ta mg) : FnG P w K mg base 1 f fd ["value"] (spB K Tr.whole) := by
  refine okG F sc_is_integer (fun vs H Q E h => ?_) (fun cdv A outer s H vs Q hr h => ?_)
  · obtain ⟨v, t, rfl, _⟩ := h
    rfl
  · obtain ⟨v, t, rfl, h, k⟩ := h
    refine ⟨_, (pss_one (ps_ret (pe_and (pe_callB call_isi (by rfl) T.b_isinstance (by decide +kernel) (pa_cons (pv 0) (pa_cons (pe_bltn (v := .ty "int") rfl T.b_int (by decide +kernel) rfl) pa_nil))) (pe_one (pe_not (pe_callB call_isi (by rfl) T.b_isinstance (by decide +kernel) (pa_cons (pv 0) (pa_cons (pe_bltn (v := .ty "bool") rfl T.b_bool (by decide +kernel) rfl) pa_nil)))))))), ?_⟩
    refine ⟨_, rfl, v, _, _, _, _, rfl, .ty _, h.tyx, kit_ty (kit_int t), _, rfl, ?_⟩
    cases t with
    | int i => exact iteT ⟨_, rfl, v, _, _, _, _, rfl, .ty _, h.tyx, kit_ty (kit_bool _), _, rfl, k H (Same.refl H)⟩
    | bl b => exact iteT ⟨_, rfl, v, _, _, _, _, rfl, .ty _, h.tyx, kit_ty (kit_bool _), _, rfl, k H (Same.refl H)⟩
    | _ => exact iteF (k H (Same.refl H))
theorem ok_is_name {f : Addr} {fd : FuncData} (F : Fun K "is_name" "is_name" s_is_name f fd) (T : Ta mg) : FnG P w K mg base 1 f fd ["value"] (spB K Tr.name) := by
  refine okG F sc_is_name (fun vs H Q E h => ?_) (fun cdv A outer s H vs Q hr h => ?_)
  · obtain ⟨v, t, rfl, _⟩ := h
    rfl
  · obtain ⟨v, t, rfl, h, k⟩ := h
    refine ⟨_, (pss_cons (ps_if (PW.pt (pw_or (pt_not (pt_val (pe_callB call_isi (by rfl) T.b_isinstance (by decide +kernel) (pa_cons (pv 0) (pa_cons (pe_bltn (v := .ty "str") rfl T.b_str (by decide +kernel) rfl) pa_nil))))) (pw_or1 (pt_cmpR op_eq (pv 0) pe_str (nomark _)))))
    (pss_one (ps_ret pe_bl))
    pss_nil)
  (pss_cons (ps_if (pt_not (pt_chain op_le op_le pe_int (pe_callB call_len_str (by rfl) T.b_len (by decide +kernel) (pa_cons (pv 0) pa_nil)) (pe_gl (v := .int 8) rfl T.g__LONGEST_NAME)))
    (pss_one (ps_ret pe_bl))
    pss_nil)
  (pss_one (ps_ret (pe_and (pe_cmpR op_in_sign (pe_ix ix_str (pv 0) pe_int (fun _ _ => rfl)) (pe_gl (v := .str lettersS) rfl T.g__LETTERS) rfl) (pe_one (pe_callB (cr_all (by rfl)) (by rfl) T.b_all (by decide +kernel) (pa_cons (pe_lc (own := [("sign", 1)]) (g := gName 1) (tt := tYes) rfl sc_is_name.nd (pi_str (pv 0)) (blkOk_by (own := [("sign", 1)]) (N := n_is_name) (sc := defScope s_is_name) (by decide +kernel)) (fun _ _ _ _ _ => pg_name (i := 1) sc_is_name.nd rfl (Or.inl rfl)) (fun _ _ _ _ _ => pts_nil) (fun _ _ _ _ _ => (pe_cmpR op_in_sign (pv 1) (pe_gl (v := .str signsS) rfl T.g__SIGNS) rfl))) pa_nil)))))))), ?_⟩
    refine ⟨_, rfl, v, _, _, _, _, rfl, .ty _, h.tyx, kit_ty (kit_str t), _, rfl, ?_⟩
    cases h with
    | str z hz =>
      have kk : ∀ b, nameS z = b → Q (.bl b) H := fun b e => e ▸ k H (Same.refl H)
      refine iteF ⟨_, rfl, rfl, _, rfl, ?_⟩
      refine ite2 (fun hv => kk _ (name_view (by simpa using hv))) fun hv => ?_
      have hv : ¬ z = ("view" : Str) := by simpa using hv
      refine ⟨_, rfl, z, rfl, sz1000 hz, _, _, rfl, rfl, _, rfl, ite2 (fun h1 => ⟨_, _, rfl, rfl, _, rfl, ?_⟩) fun h1 => ⟨_, rfl, iteT (kk _ (name_lo (by simp at h1; omega)))⟩⟩
      refine ite2 (fun h2 => kk _ (name_hi (by simp at h2; omega))) fun h2 => ?_
      have h1 : 1 ≤ z.length := by simp at h1; omega
      have h2 : z.length ≤ 8 := by simp at h2; omega
      obtain ⟨c, hc, hf⟩ := first_of h1
      have kr := name_rest hv h1 h2
      rw [hf] at kr
      refine ⟨_, rfl, z, 0, c, rfl, rfl, sz1000 hz, hc, c, _, rfl, rfl, _, rfl, ite2 (fun h3 => ?_) fun h3 => kk _ (by rw [kr, Bool.eq_false_iff.mpr h3]; rfl)⟩
      rw [h3] at kr
      refine ⟨_, rfl, z, rfl, fun D hD => lc_fn walk_str (fun i => .bl (atB z (fun c => decide (c ∈ signsS.cps.toList)) i)) (by have := hz; exact hz) hD (fun _ _ => True.intro) (fun i x H2 H3 Q' hi s2 y kq => ?_) fun H2 s2 d => ?_⟩
      · obtain ⟨rfl, c, hc, rfl⟩ := y
        refine ⟨rfl, _, rfl, c, _, rfl, rfl, ?_⟩
        have := kq _ (Same.refl _)
        rw [atB_some hc] at this
        exact this
      · refine ⟨D, _, rfl, SqL.of (d.trans (congrArg (fun l => some (HO.lst l)) (List.map_map (f := atB z _) (g := V.bl)).symm)), ?_⟩
        rw [all_at]
        have := k H2 s2
        rw [show (Tr.str z).name = nameS z from rfl, kr] at this
        exact this
    | _ => exact iteT (k H (Same.refl H))
theorem ok_law_is_name {f : Addr} {fd : FuncData} (F : Fun K "_law_is_name" "_law_is_name" s__law_is_name f fd) (T : Ta mg) : FnG P w K mg base 1 f fd ["_law_thing"] (spB K Tr.name) := by
  refine okG F sc__law_is_name (fun vs H Q E h => ?_) (fun cdv A outer s H vs Q hr h => ?_)
  · obtain ⟨v, t, rfl, _⟩ := h
    rfl
  · obtain ⟨v, t, rfl, h, k⟩ := h
    refine ⟨_, (pss_cons (ps_if (PW.pt (pw_or (pt_not (pt_val (pe_callB call_isi (by rfl) T.b_isinstance (by decide +kernel) (pa_cons (pv 0) (pa_cons (pe_bltn (v := .ty "str") rfl T.b_str (by decide +kernel) rfl) pa_nil))))) (pw_or (pt_not (pt_chain op_lt op_lt pe_int (pe_callB call_len_str (by rfl) T.b_len (by decide +kernel) (pa_cons (pv 0) pa_nil)) pe_int)) (pw_or1 (pt_cmpR op_eq (pv 0) pe_str (nomark _))))))
    (pss_one (ps_ret pe_bl))
    pss_nil)
  (pss_cons (ps_set (i := 1) sc__law_is_name.nd rfl (by first | exact .inl rfl | exact .inr rfl) pe_str)
  (pss_one (ps_ret (pe_and (pe_cmpR op_in_sign (pe_ix ix_str (pv 0) pe_int (fun _ _ => rfl)) (pv 1) rfl) (pe_one (pe_callB (cr_all (by rfl)) (by rfl) T.b_all (by decide +kernel) (pa_cons (pe_lc (own := [("_law_sign", 2)]) (g := gName 2) (tt := tYes) rfl sc__law_is_name.nd (pi_str (pv 0)) (blkOk_by (own := [("_law_sign", 2)]) (N := n__law_is_name) (sc := defScope s__law_is_name) (by decide +kernel)) (fun _ _ _ _ _ => pg_name (i := 2) sc__law_is_name.nd rfl (Or.inl rfl)) (fun _ _ _ _ _ => pts_nil) (fun _ _ _ _ _ => (pe_cmpR op_in_sign (pv 2) (pe_op op_add_str (pv 1) pe_str) rfl))) pa_nil)))))))), ?_⟩
    refine ⟨_, rfl, v, _, _, _, _, rfl, .ty _, h.tyx, kit_ty (kit_str t), _, rfl, ?_⟩
    cases h with
    | str z hz =>
      have kk : ∀ b, nameS z = b → Q (.bl b) H := fun b e => e ▸ k H (Same.refl H)
      refine iteF ⟨_, rfl, z, rfl, sz1000 hz, _, _, rfl, rfl, _, rfl, ite2 (fun h1 => ⟨_, _, rfl, rfl, _, rfl, ?_⟩) fun h1 => ⟨_, rfl, iteT (kk _ (name_lo (by simp at h1; omega)))⟩⟩
      refine ite2 (fun h2 => kk _ (name_hi (by simp at h2; omega))) fun h2 => ?_
      have h1 : 1 ≤ z.length := by simp at h1; omega
      have h2 : z.length ≤ 8 := by simp at h2; omega
      refine ⟨_, rfl, rfl, _, rfl, ite2 (fun hv => kk _ (name_view (by simpa using hv))) fun hv => ?_⟩
      have hv : ¬ z = ("view" : Str) := by simpa using hv
      obtain ⟨c, hc, hf⟩ := first_of h1
      have kr := name_rest hv h1 h2
      rw [hf] at kr
      refine ⟨_, rfl, z, 0, c, rfl, rfl, sz1000 hz, hc, _, rfl, c, _, rfl, rfl, _, rfl, ite2 (fun h3 => ?_) fun h3 => kk _ (by rw [kr, show decide (c ∈ lettersS.cps.toList) = false from Bool.eq_false_iff.mpr h3]; rfl)⟩
      rw [show (decide (c ∈ lettersS.cps.toList) = true) from h3] at kr
      refine ⟨_, rfl, z, rfl, fun D hD => lc_fn walk_str (fun i => .bl (atB z (fun c => decide (c ∈ signsS.cps.toList)) i)) (by have := hz; exact hz) hD (fun _ _ => True.intro) (fun i x H2 H3 Q' hi s2 y kq => ?_) fun H2 s2 d => ?_⟩
      · obtain ⟨rfl, c, hc, rfl⟩ := y
        refine ⟨rfl, _, rfl, _, rfl, _, _, rfl, rfl, (by decide +kernel), c, _, rfl, rfl, ?_⟩
        have := kq _ (Same.refl _)
        rw [atB_some hc] at this
        exact this
      · refine ⟨D, _, rfl, SqL.of (d.trans (congrArg (fun l => some (HO.lst l)) (List.map_map (f := atB z _) (g := V.bl)).symm)), ?_⟩
        rw [all_at]
        have := k H2 s2
        rw [show (Tr.str z).name = nameS z from rfl, kr] at this
        exact this
    | _ => exact iteT (k H (Same.refl H))
theorem ok_is_symbol {f : Addr} {fd : FuncData} (F : Fun K "is_symbol" "is_symbol" s_is_symbol f fd) (T : Ta mg) (c_is_name : Cal P w K mg base 1 "is_name" ["value"] (spB K Tr.name)) : FnG P w K mg base 2 f fd ["value"] (spB K Tr.sym) := by
  refine okG F sc_is_symbol (fun vs H Q E h => ?_) (fun cdv A outer s H vs Q hr h => ?_)
  · obtain ⟨v, t, rfl, _⟩ := h
    rfl
  · obtain ⟨v, t, rfl, h, k⟩ := h
    refine ⟨_, (pss_one (ps_ret (pe_or (pe_c c_is_name hr (by decide) rfl (pa_cons (pv 0) pa_nil)) (pe_one (pe_and (pe_callB call_isi (by rfl) T.b_isinstance (by decide +kernel) (pa_cons (pv 0) (pa_cons (pe_bltn (v := .ty "str") rfl T.b_str (by decide +kernel) rfl) pa_nil))) (pe_one (pe_cmpR op_eq (pv 0) (pe_gl (v := .str atS) rfl T.g_MIDDLE) (nomark _)))))))), ?_⟩
    refine ⟨_, rfl, v, t, rfl, h, fun H2 s2 => ⟨_, rfl, ite2 (fun hn => ?_) fun hn => ?_⟩⟩
    · have e : t.sym = true := by
        cases t with
        | str z => exact (Bool.or_eq_true _ _).mpr (.inl hn)
        | _ => exact absurd (show false = true from hn) (by decide)
      have := k H2 s2
      rw [e] at this
      exact this
    · refine ⟨_, rfl, v, _, _, _, _, rfl, .ty _, (h.same s2).tyx, kit_ty (kit_str t), _, rfl, ?_⟩
      cases h with
      | str z hz =>
        refine iteT ⟨_, rfl, rfl, ?_⟩
        have := k H2 s2
        rw [show (Tr.str z).sym = decide (V.str z = V.str "@") by
          show (nameS z || decide (z = "@")) = _
          rw [show nameS z = false from Bool.eq_false_iff.mpr hn]
          simp] at this
        exact this
      | _ => exact iteF (k H2 s2)
theorem ok_law_is_symbol {f : Addr} {fd : FuncData} (F : Fun K "_law_is_symbol" "_law_is_symbol" s__law_is_symbol f fd) (T : Ta mg) (c__law_is_name : Cal P w K mg base 1 "_law_is_name" ["_law_thing"] (spB K Tr.name)) : FnG P w K mg base 2 f fd ["_law_thing"] (spB K Tr.sym) := by
  refine okG F sc__law_is_symbol (fun vs H Q E h => ?_) (fun cdv A outer s H vs Q hr h => ?_)
  · obtain ⟨v, t, rfl, _⟩ := h
    rfl
  · obtain ⟨v, t, rfl, h, k⟩ := h
    refine ⟨_, (pss_one (ps_ret (pe_or (pe_c c__law_is_name hr (by decide) rfl (pa_cons (pv 0) pa_nil)) (pe_one (pe_and (pe_callB call_isi (by rfl) T.b_isinstance (by decide +kernel) (pa_cons (pv 0) (pa_cons (pe_bltn (v := .ty "str") rfl T.b_str (by decide +kernel) rfl) pa_nil))) (pe_one (pe_cmpR op_eq (pv 0) pe_str (nomark _)))))))), ?_⟩
    refine ⟨_, rfl, v, t, rfl, h, fun H2 s2 => ⟨_, rfl, ite2 (fun hn => ?_) fun hn => ?_⟩⟩
    · have e : t.sym = true := by
        cases t with
        | str z => exact (Bool.or_eq_true _ _).mpr (.inl hn)
        | _ => exact absurd (show false = true from hn) (by decide)
      have := k H2 s2
      rw [e] at this
      exact this
    · refine ⟨_, rfl, v, _, _, _, _, rfl, .ty _, (h.same s2).tyx, kit_ty (kit_str t), _, rfl, ?_⟩
      cases h with
      | str z hz =>
        refine iteT ⟨_, rfl, rfl, ?_⟩
        have := k H2 s2
        rw [show (Tr.str z).sym = decide (V.str z = V.str "@") by
          show (nameS z || decide (z = "@")) = _
          rw [show nameS z = false from Bool.eq_false_iff.mpr hn]
          simp] at this
        exact this
      | _ => exact iteF (k H2 s2)
end
end Lw

/-! ## KaE -/
set_option maxHeartbeats 4000000
/-! texts that rise -/
namespace Lw
open PySem PySem.Spec PyProof.Rows L2
def lt' (a b : Str) : Prop := a.cps.toList < b.cps.toList
instance (a b : Str) : Decidable (lt' a b) := inferInstanceAs (Decidable (a.cps.toList < b.cps.toList))
theorem str_ext {a b : Str} (h : a.cps.toList = b.cps.toList) : a = b := by
  obtain ⟨⟨l⟩⟩ := a
  obtain ⟨⟨m⟩⟩ := b
  cases (show l = m from h)
  rfl
theorem lt'_trans {a b c : Str} (h : lt' a b) (k : lt' b c) : lt' a c := List.lt_trans h k
theorem lt'_irr (a : Str) : ¬ lt' a a := List.lt_irrefl _
theorem lt'_tri {a b : Str} (h : ¬ lt' a b) (k : ¬ lt' b a) : a = b := str_ext (List.le_antisymm (as := a.cps.toList) (bs := b.cps.toList) (List.not_lt.mp k) (List.not_lt.mp h))
theorem asc_head {x : Str} {l : List Str} (h : (x :: l).Pairwise lt') : ∀ y ∈ l, lt' x y := (List.pairwise_cons.mp h).1
theorem asc_unique : ∀ {l m : List Str}, l.Pairwise lt' → m.Pairwise lt' → (∀ y, y ∈ l ↔ y ∈ m) → l = m
  | [], [], _, _, _ => rfl
  | [], y :: m, _, _, h => nomatch (h y).mpr List.mem_cons_self
  | x :: l, [], _, _, h => nomatch (h x).mp List.mem_cons_self
  | x :: l, y :: m, hl, hm, h => by
    have e : x = y := by
      rcases List.mem_cons.mp ((h x).mp List.mem_cons_self) with e | q
      · exact e
      · rcases List.mem_cons.mp ((h y).mpr List.mem_cons_self) with e | r
        · exact e.symm
        · exact absurd (lt'_trans (asc_head hm x q) (asc_head hl y r)) (lt'_irr y)
    subst e
    have nl : x ∉ l := fun q => lt'_irr x (asc_head hl x q)
    have nm : x ∉ m := fun q => lt'_irr x (asc_head hm x q)
    rw [asc_unique (List.pairwise_cons.mp hl).2 (List.pairwise_cons.mp hm).2 fun y => ?_]
    constructor
    · intro q
      rcases List.mem_cons.mp ((h y).mp (List.mem_cons_of_mem _ q)) with e | r
      · exact absurd (e ▸ q) nl
      · exact r
    · intro q
      rcases List.mem_cons.mp ((h y).mpr (List.mem_cons_of_mem _ q)) with e | r
      · exact absurd (e ▸ q) nm
      · exact r
theorem rising_pair : ∀ (r : List Str) (p : Str), risingS p r = true → (p :: r).Pairwise fun a b => ¬ lt' b a
  | [], p, _ => List.pairwise_singleton _ _
  | x :: r, p, h => by
    have h' : (!ltCps x.cps.toList p.cps.toList && risingS x r) = true := h
    obtain ⟨h1, h2⟩ := Bool.and_eq_true_iff.mp h'
    rw [ltCps_eq] at h1
    have h1 : ¬ lt' x p := fun q => by
      rw [decide_eq_true (show x.cps.toList < p.cps.toList from q)] at h1
      cases h1
    have ih := rising_pair r x h2
    refine List.pairwise_cons.mpr ⟨fun y hy => ?_, ih⟩
    rcases List.mem_cons.mp hy with rfl | hy
    · exact h1
    · have h3 := (List.pairwise_cons.mp ih).1 y hy
      intro q
      by_cases c : lt' x y
      · exact h1 (lt'_trans c q)
      · have e := lt'_tri c h3
        subst e
        exact h1 q
theorem sorted_asc {l : List Str} (h : sortedS l = true) (d : l.Nodup) : l.Pairwise lt' := by
  have p : l.Pairwise fun a b => ¬ lt' b a := by
    cases l with
    | nil => exact .nil
    | cons x r => exact rising_pair r x h
  exact (List.Pairwise.and p d).imp fun {a b} ⟨h1, h2⟩ => by
    by_cases c : lt' a b
    · exact c
    · exact absurd (lt'_tri c h1) h2
/-- rises, strictly -/
def ascB : List Str → Bool
  | [] => true
  | [_] => true
  | x :: y :: r => decide (x.cps.toList < y.cps.toList) && ascB (y :: r)
theorem ascB_pair : ∀ {l : List Str}, ascB l = true → l.Pairwise lt'
  | [], _ => .nil
  | [x], _ => List.pairwise_singleton _ _
  | x :: y :: r, h => by
    obtain ⟨h1, h2⟩ := Bool.and_eq_true_iff.mp (show (decide (x.cps.toList < y.cps.toList) && ascB (y :: r)) = true from h)
    have ih := ascB_pair h2
    refine List.pairwise_cons.mpr ⟨fun z hz => ?_, ih⟩
    rcases List.mem_cons.mp hz with rfl | hz
    · exact of_decide_eq_true h1
    · exact lt'_trans (of_decide_eq_true h1) (asc_head ih z hz)
theorem pair_ascB : ∀ {l : List Str}, l.Pairwise lt' → ascB l = true
  | [], _ => rfl
  | [x], _ => rfl
  | x :: y :: r, h => by
    show (decide (x.cps.toList < y.cps.toList) && ascB (y :: r)) = true
    rw [pair_ascB (List.pairwise_cons.mp h).2, decide_eq_true (show x.cps.toList < y.cps.toList from asc_head h y List.mem_cons_self)]
    rfl
/-- a list is what sorted(set(it)) gives just if it rises -/
theorem asc_iff {ks zs xs : List Str} (hz : zs.Perm xs) (hx : xs.Nodup) (hs : sortedS zs = true) (hm : ∀ y, y ∈ xs ↔ y ∈ ks) : decide (ks = zs) = ascB ks := by
  have az := sorted_asc hs (hz.nodup_iff.mpr hx)
  by_cases c : ks = zs
  · rw [decide_eq_true c]
    subst c
    exact (pair_ascB az).symm
  · rw [decide_eq_false c]
    cases e : ascB ks with
    | false => rfl
    | true => exact absurd (asc_unique (ascB_pair e) az fun y => (hm y).symm.trans hz.mem_iff.symm) c
theorem eqvAll_strs : ∀ ks zs : List Str, PyData.eqvAll (ks.map PyData.str) (zs.map PyData.str) = decide (ks = zs)
  | [], [] => rfl
  | [], _ :: _ => rfl
  | _ :: _, [] => rfl
  | k :: ks, z :: zs => by
    show ((k == z) && PyData.eqvAll (ks.map PyData.str) (zs.map PyData.str)) = _
    rw [eqvAll_strs ks zs]
    by_cases e : k = z
    · subst e
      simp
    · simp [e]
theorem eqv_strs (ks zs : List Str) : PyData.eqv (.list (ks.map .str)) (.list (zs.map .str)) = decide (ks = zs) := eqvAll_strs ks zs
theorem dp_strs {K : PySem.W.Frag} {H : Hp} : ∀ ks : List Str, DpAll K H (ks.map V.str) (ks.map PyData.str)
  | [] => .nil
  | k :: ks => .cons (.str k) (dp_strs ks)
theorem lay_strs : ∀ ks : List Str, (∀ k ∈ ks, PyData.strOk k = true) → PyData.canLayAll0 (ks.map PyData.str) = true
  | [], _ => rfl
  | k :: ks, h => by
    show (PyData.canLay0 (.str k) && PyData.canLayAll0 (ks.map PyData.str)) = true
    rw [lay_strs ks fun z hz => h z (List.mem_cons_of_mem _ hz)]
    show (PyData.strOk k && true) = true
    rw [h k List.mem_cons_self]
    rfl
theorem depth_strs : ∀ ks : List Str, PyData.depthAll (ks.map PyData.str) = 0
  | [] => rfl
  | k :: ks => by
    show max 0 (PyData.depthAll (ks.map PyData.str)) = 0
    rw [depth_strs ks]
    rfl
theorem shaped_strs (ks : List Str) (h : ∀ k ∈ ks, PyData.strOk k = true) : SeqAt.shaped (.list (ks.map PyData.str)) = true := by
  show (PyData.canLayAll0 (ks.map PyData.str) && decide (PyData.depthAll (ks.map PyData.str) + 1 ≤ 64)) = true
  rw [lay_strs ks h, depth_strs]
  rfl
theorem name_ok {z : Str} (h : nameS z = true) : PyData.strOk z = true ∧ z.length ≤ 8 ∧ 1 ≤ z.length := by
  unfold nameS at h
  simp only [Bool.and_eq_true, decide_eq_true_eq] at h
  obtain ⟨_, h1, h2, _, h3⟩ := h
  refine ⟨?_, h2, h1⟩
  show z.cps.all (· < 0x110000) = true
  rw [← Array.all_toList]
  refine List.all_eq_true.mpr fun c hc => ?_
  have e := of_decide_eq_true (List.all_eq_true.mp h3 c hc)
  have f : ∀ c ∈ signsS.cps.toList, decide (c < 0x110000) = true := by decide +kernel
  exact f c e
theorem sym_ok {z : Str} (h : (Tr.str z).sym = true) : PyData.strOk z = true ∧ z.length ≤ 8 ∧ 1 ≤ z.length := by
  rcases (Bool.or_eq_true _ _).mp (show (nameS z || decide (z = "@")) = true from h) with h | h
  · exact name_ok h
  · have e := of_decide_eq_true h
    subst e
    decide +kernel
def Tr.pos : Tr → Bool
  | .int i => decide (i ≥ 0)
  | _ => false
def Tr.worth : Tr → Bool
  | .tup [s, w] => s.sym && (w.whole && w.pos)
  | _ => false
def Tr.key : Tr → Str
  | .tup [.str z, _] => z
  | _ => Str.empty
def Tr.vals : Tr → Bool
  | .tup ts => ts.all Tr.worth && ascB (ts.map Tr.key)
  | _ => false
theorem TrAll.len {K : PySem.W.Frag} {H : Hp} : ∀ {xs : List V} {ts : List Tr}, TrAll K H xs ts → xs.length = ts.length
  | _, _, .nil => rfl
  | _, _, .cons _ r => congrArg Nat.succ (TrAll.len r)
theorem TrAll.get {K : PySem.W.Frag} {H : Hp} : ∀ {xs : List V} {ts : List Tr}, TrAll K H xs ts → ∀ {i : Nat} {x : V}, xs[i]? = some x → ∃ t, ts[i]? = some t ∧ TrIs K H x t
  | _, _, .nil, i, x, e => by simp at e
  | _, _, .cons h r, 0, x, e => by
    obtain rfl := Option.some.inj e
    exact ⟨_, rfl, h⟩
  | _, _, .cons h r, i + 1, x, e => TrAll.get r (i := i) (by simpa using e)
theorem worth_at {K : PySem.W.Frag} {H : Hp} {v : V} {t : Tr} (h : TrIs K H v t) (w : t.worth = true) : ∃ a z u, v = .ref a ∧ H a = some (.tup [.str z, u]) ∧ t.key = z ∧ PyData.strOk z = true ∧ z.length ≤ 8 ∧ 1 ≤ z.length := by
  cases h with
  | @tup a xs ts h l r =>
    match ts, r, w with
    | [s, u], .cons (x := x) h1 (.cons (x := y) h2 .nil), w =>
      have ws : s.sym = true := (Bool.and_eq_true_iff.mp (show (s.sym && (u.whole && u.pos)) = true from w)).1
      cases h1 with
      | str z hz => exact ⟨a, z, y, rfl, h, rfl, sym_ok ws⟩
      | _ => exact absurd (show false = true from ws) (by decide)
  | _ => exact absurd (show false = true from w) (by decide)
end Lw

/-! ## KaF -/
set_option maxHeartbeats 8000000
namespace Lw
open PySem PySem.Spec PyProof.Rows L2
abbrev s__is_worth : Stmt := topS 9
abbrev n__is_worth : List Str := ["pair", "symbol", "worth"]
theorem sc__is_worth : FnScope n__is_worth ["pair"] (defScope s__is_worth) := ⟨rfl, rfl, rfl, by decide +kernel, rfl, by decide +kernel, by decide +kernel⟩
abbrev s_is_values : Stmt := topS 8
abbrev n_is_values : List Str := ["value", "pair", "symbols", "symbol", "_"]
theorem sc_is_values : FnScope n_is_values ["value"] (defScope s_is_values) := ⟨rfl, rfl, rfl, by decide +kernel, rfl, by decide +kernel, by decide +kernel⟩
abbrev s__law_is_values : Stmt := topS 20
abbrev n__law_is_values : List Str := ["_law_thing", "_law_last", "_law_pair"]
theorem sc__law_is_values : FnScope n__law_is_values ["_law_thing"] (defScope s__law_is_values) := ⟨rfl, rfl, rfl, by decide +kernel, rfl, by decide +kernel, by decide +kernel⟩
/-- what p says of the i-th -/
def getB (ts : List Tr) (p : Tr → Bool) (i : Nat) : Bool := match ts[i]? with
  | some t => p t
  | none => false
theorem getB_some {ts : List Tr} {p : Tr → Bool} {i : Nat} {t : Tr} (h : ts[i]? = some t) : getB ts p i = p t := by
  unfold getB
  rw [h]
theorem getB_map (ts : List Tr) (p : Tr → Bool) : (List.range ts.length).map (getB ts p) = ts.map p := by
  apply List.ext_getElem?
  intro i
  rw [List.getElem?_map, List.getElem?_map]
  by_cases hi : i < ts.length
  · rw [List.getElem?_range hi, List.getElem?_eq_getElem hi]
    exact congrArg some (getB_some (List.getElem?_eq_getElem hi))
  · rw [List.getElem?_eq_none (by simp; omega), List.getElem?_eq_none (by omega)]
    rfl
def getK (ts : List Tr) (i : Nat) : Str := match ts[i]? with
  | some t => t.key
  | none => Str.empty
theorem getK_some {ts : List Tr} {i : Nat} {t : Tr} (h : ts[i]? = some t) : getK ts i = t.key := by
  unfold getK
  rw [h]
theorem getK_map (ts : List Tr) : (List.range ts.length).map (getK ts) = ts.map Tr.key := by
  apply List.ext_getElem?
  intro i
  rw [List.getElem?_map, List.getElem?_map]
  by_cases hi : i < ts.length
  · rw [List.getElem?_range hi, List.getElem?_eq_getElem hi]
    exact congrArg some (getK_some (List.getElem?_eq_getElem hi))
  · rw [List.getElem?_eq_none (by simp; omega), List.getElem?_eq_none (by omega)]
    rfl
/-- the law's own look at pairs -/
def goB : Str → List Tr → Bool
  | _, [] => true
  | l, t :: r => t.worth && (decide (l.cps.toList < t.key.cps.toList) && goB t.key r)
theorem goB_eq : ∀ (ts : List Tr) (p : Str), goB p ts = (ts.all Tr.worth && ascB (p :: ts.map Tr.key))
  | [], p => rfl
  | t :: r, p => by
    show (t.worth && (decide (p.cps.toList < t.key.cps.toList) && goB t.key r)) = ((t.worth && r.all Tr.worth) && (decide (p.cps.toList < t.key.cps.toList) && ascB (t.key :: r.map Tr.key)))
    rw [goB_eq r t.key]
    cases t.worth <;> cases r.all Tr.worth <;> cases decide (p.cps.toList < t.key.cps.toList) <;> rfl
theorem worth_key {t : Tr} (w : t.worth = true) : 1 ≤ t.key.length := by
  match t, w with
  | .tup [s, u], w =>
    have ws : s.sym = true := (Bool.and_eq_true_iff.mp (show (s.sym && (u.whole && u.pos)) = true from w)).1
    cases s with
    | str z => exact (sym_ok ws).2.2
    | _ => exact absurd (show false = true from ws) (by decide)
theorem vals_go (ts : List Tr) : (Tr.tup ts).vals = goB "" ts := by
  rw [goB_eq]
  show (ts.all Tr.worth && ascB (ts.map Tr.key)) = _
  cases e : ts.all Tr.worth with
  | false => rfl
  | true =>
    rw [Bool.true_and, Bool.true_and]
    cases ts with
    | nil => rfl
    | cons t r =>
      have h := worth_key (List.all_eq_true.mp e t List.mem_cons_self)
      show _ = (decide (([] : List Nat) < t.key.cps.toList) && ascB (t.key :: r.map Tr.key))
      have q : ([] : List Nat) < t.key.cps.toList := by
        obtain ⟨⟨l⟩⟩ : ∃ z : Str, z = t.key := ⟨_, rfl⟩
        cases hl : t.key.cps.toList with
        | nil =>
          have : t.key.length = 0 := by
            show t.key.cps.size = 0
            rw [← Array.length_toList, hl]
            rfl
          omega
        | cons c m => exact List.Lex.nil
      rw [decide_eq_true q]
      rfl
section
variable {P : Program} {w : World} {K : PySem.W.Frag} {mg : Str → Option Value} {base : Heap}
theorem ok_is_worth {f : Addr} {fd : FuncData} (F : Fun K "_is_worth" "_is_worth" s__is_worth f fd) (T : Ta mg) (c_is_symbol : Cal P w K mg base 2 "is_symbol" ["value"] (spB K Tr.sym)) (c_is_integer : Cal P w K mg base 1 "is_integer" ["value"] (spB K Tr.whole)) :
    FnG P w K mg base 3 f fd ["pair"] (spB K Tr.worth) := by
  refine okG F sc__is_worth (fun vs H Q E h => ?_) (fun cdv A outer s H vs Q hr h => ?_)
  · obtain ⟨v, t, rfl, _⟩ := h
    rfl
  · obtain ⟨v, t, rfl, h, k⟩ := h
    refine ⟨_, (pss_cons (ps_if (PW.pt (pw_or (pt_not (pt_val (pe_callB call_isi (by rfl) T.b_isinstance (by decide +kernel) (pa_cons (pv 0) (pa_cons (pe_bltn (v := .ty "tuple") rfl T.b_tuple (by decide +kernel) rfl) pa_nil))))) (pw_or1 (pt_cmpR op_ne (pe_callB call_len_seq (by rfl) T.b_len (by decide +kernel) (pa_cons (pv 0) pa_nil)) pe_int (nomark _)))))
    (pss_one (ps_ret pe_bl))
    pss_nil)
  (pss_cons (ps_asg (pv 0) (pg_tup rfl (pgs_cons (pg_name (i := 1) sc__is_worth.nd rfl (by first | exact .inl rfl | exact .inr rfl)) (pgs_cons (pg_name (i := 2) sc__is_worth.nd rfl (by first | exact .inl rfl | exact .inr rfl)) pgs_nil))))
  (pss_one (ps_ret (pe_and (pe_c c_is_symbol hr (by decide) rfl (pa_cons (pv 1) pa_nil)) (pe_and (pe_c c_is_integer hr (by decide) rfl (pa_cons (pv 2) pa_nil)) (pe_one (pe_cmpR op_ge (pv 2) pe_int (nomark _))))))))), ?_⟩
    refine ⟨_, rfl, v, _, _, _, _, rfl, .ty _, h.tyx, kit_ty (kit_tup t), _, rfl, ?_⟩
    cases h with
    | @tup a xs ts ha hl r =>
      have kk : ∀ b, (Tr.tup ts).worth = b → Q (.bl b) H := fun b e => e ▸ k H (Same.refl H)
      refine iteF ⟨_, rfl, a, xs, rfl, .inr (SqT.of ha), rfl, _, rfl, ?_⟩
      refine ite2 (fun h2 => kk _ ?_) fun h2 => ?_
      · have n : ¬ ts.length = 2 := fun e => by
          rw [r.len, e] at h2
          exact absurd h2 (by decide)
        match ts, n with
        | [], _ => rfl
        | [_], _ => rfl
        | [_, _], n => exact absurd rfl n
        | _ :: _ :: _ :: _, _ => rfl
      · have n : ts.length = 2 := by
          rw [← r.len]
          have e : ¬ (!decide (V.int (xs.length : Int) = V.int 2)) = true := h2
          simp at e
          omega
        match ts, n, r with
        | [t1, t2], _, .cons (x := x) g1 (.cons (x := y) g2 .nil) =>
          refine ⟨_, rfl, a, [x, y], rfl, SqT.of ha, rfl, _, _, rfl, _, _, rfl, rfl, ?_⟩
          refine ⟨_, rfl, x, t1, rfl, g1, fun H2 s2 => ⟨_, rfl, ite2 (fun e1 => ?_) fun e1 => ?_⟩⟩
          · refine ⟨_, rfl, y, t2, rfl, g2.same s2, fun H3 s3 => ⟨_, rfl, ite2 (fun e2 => ?_) fun e2 => ?_⟩⟩
            · cases g2 with
              | int i =>
                refine ⟨_, rfl, _, _, rfl, rfl, ?_⟩
                have := k H3 (s2.trans s3)
                rw [show (Tr.tup [t1, .int i]).worth = (t1.sym && (Tr.whole (.int i) && decide (i ≥ 0))) from rfl, e1, e2] at this
                exact this
              | _ => exact absurd (show false = true from e2) (by decide)
            · have := k H3 (s2.trans s3)
              rw [show (Tr.tup [t1, t2]).worth = (t1.sym && (t2.whole && t2.pos)) from rfl, Bool.eq_false_iff.mpr e2, Bool.false_and, Bool.and_false] at this
              exact this
          · have := k H2 s2
            rw [show (Tr.tup [t1, t2]).worth = (t1.sym && (t2.whole && t2.pos)) from rfl, Bool.eq_false_iff.mpr e1, Bool.false_and] at this
            exact this
    | _ => exact iteT (k H (Same.refl H))
theorem ok_is_values {f : Addr} {fd : FuncData} (F : Fun K "is_values" "is_values" s_is_values f fd) (T : Ta mg) (c__is_worth : Cal P w K mg base 3 "_is_worth" ["pair"] (spB K Tr.worth)) :
    FnG P w K mg base 4 f fd ["value"] (spB K Tr.vals) := by
  refine okG F sc_is_values (fun vs H Q E h => ?_) (fun cdv A outer s H vs Q hr h => ?_)
  · obtain ⟨v, t, rfl, _⟩ := h
    rfl
  · obtain ⟨v, t, rfl, h, k⟩ := h
    refine ⟨_, (pss_cons (ps_if (pt_not (pt_val (pe_callB call_isi (by rfl) T.b_isinstance (by decide +kernel) (pa_cons (pv 0) (pa_cons (pe_bltn (v := .ty "tuple") rfl T.b_tuple (by decide +kernel) rfl) pa_nil)))))
    (pss_one (ps_ret pe_bl))
    pss_nil)
  (pss_cons (ps_if (pt_not (pt_val (pe_callB (cr_all (by rfl)) (by rfl) T.b_all (by decide +kernel) (pa_cons (pe_lc (own := [("pair", 1)]) (g := gName 1) (tt := tYes) rfl sc_is_values.nd (pi_tup (pv 0)) (blkOk_by (own := [("pair", 1)]) (N := n_is_values) (sc := defScope s_is_values) (by decide +kernel)) (fun _ _ _ _ _ => pg_name (i := 1) sc_is_values.nd rfl (Or.inl rfl)) (fun _ _ _ _ _ => pts_nil) (fun _ _ _ _ _ => (pe_c c__is_worth hr (by decide) rfl (pa_cons (pv 1) pa_nil)))) pa_nil))))
    (pss_one (ps_ret pe_bl))
    pss_nil)
  (pss_cons (ps_setLc (i := 2) (own := [("symbol", 3), ("_", 4)]) (g := gTup K 2 (gCons (gName 3) (gCons (gName 4) gNil))) (tt := tYes) rfl sc_is_values.nd rfl rfl (sw_true rfl rfl rfl (by decide +kernel)) (pi_tup (pv 0)) (blkOk_by (own := [("symbol", 3), ("_", 4)]) (N := n_is_values) (sc := defScope s_is_values) (by decide +kernel)) (fun _ _ _ _ _ => pg_tup rfl (pgs_cons (pg_name (i := 3) sc_is_values.nd rfl (Or.inl rfl) (Or.inr rfl)) (pgs_cons (pg_name (i := 4) sc_is_values.nd rfl (Or.inl rfl) (Or.inr rfl)) pgs_nil))) (fun _ _ _ _ _ => pts_nil) (fun _ _ _ _ _ => (pv 3)))
  (pss_one (ps_ret (pe_cmpR (op_eqD hr.units) (pv 2) (pe_callB (_root_.Lt.call_sortT (by rfl)) (by rfl) T.b_sorted (by decide +kernel) (pa_cons (pe_callTy (_root_.Lt.call_setT (by rfl)) (by rfl) T.b_set (by decide +kernel) (pa_cons (pv 2) pa_nil)) pa_nil)) (nomark _))))))), ?_⟩
    refine ⟨_, rfl, v, _, _, _, _, rfl, .ty _, h.tyx, kit_ty (kit_tup t), _, rfl, ?_⟩
    cases h with
    | @tup a xs ts ha hl r =>
      have len := r.len
      refine iteF ⟨_, rfl, a, rfl, ⟨xs, SqT.of ha⟩, fun D hD => lc_fn walk_tup (fun i => .bl (getB ts Tr.worth i)) (by omega) hD (fun H' s' => SqT.of (s' _ _ ha)) (fun i x H2 H3 Q' hi s2 y kq => ?_) fun H2 s2 d => ?_⟩
      · obtain ⟨rfl, hx⟩ := y
        obtain ⟨t, ht, hx⟩ := r.get hx
        refine ⟨rfl, _, rfl, x, t, rfl, hx.same s2, fun H4 s4 => ?_⟩
        have := kq H4 s4
        rw [getB_some ht] at this
        exact this
      · have e1 : (List.range xs.length).map (fun i => V.bl (getB ts Tr.worth i)) = (ts.map Tr.worth).map V.bl := by
          rw [len, ← getB_map, List.map_map]
          rfl
        rw [e1] at d
        refine ⟨D, _, rfl, SqL.of d, _, rfl, ?_⟩
        have e2 : (ts.map Tr.worth).all id = ts.all Tr.worth := by
          rw [List.all_map]
          rfl
        rw [e2]
        cases ew : ts.all Tr.worth with
        | false =>
          have := k H2 s2
          rw [show (Tr.tup ts).vals = (ts.all Tr.worth && ascB (ts.map Tr.key)) from rfl, ew, Bool.false_and] at this
          exact this
        | true =>
          have wt : ∀ t ∈ ts, t.worth = true := List.all_eq_true.mp ew
          have k2 : ∀ H', Same H H' → Q (.bl (ascB (ts.map Tr.key))) H' := fun H' s' => by
            have := k H' s'
            rw [show (Tr.tup ts).vals = (ts.all Tr.worth && ascB (ts.map Tr.key)) from rfl, ew, Bool.true_and] at this
            exact this
          refine ⟨_, rfl, a, rfl, ⟨xs, SqT.of (s2 _ _ ha)⟩, fun D2 hD2 => lc_fn walk_tup (fun i => .str (getK ts i)) (by omega) hD2 (fun H' s' => SqT.of (s' _ _ (s2 _ _ ha))) (fun i x H3 H4 Q' hi s3 y kq => ?_) fun H3 s3 d3 => ?_⟩
          · obtain ⟨rfl, hx⟩ := y
            obtain ⟨t, ht, hx⟩ := r.get hx
            obtain ⟨p, z, u, rfl, hp, hk, _⟩ := worth_at (hx.same (s2.trans s3)) (wt t (List.mem_of_getElem? ht))
            refine ⟨p, _, rfl, SqT.of hp, rfl, _, _, rfl, _, _, rfl, rfl, rfl, _, rfl, ?_⟩
            have := kq _ (Same.refl _)
            rw [getK_some ht, hk] at this
            exact this
          · have e3 : (List.range xs.length).map (fun i => V.str (getK ts i)) = (ts.map Tr.key).map V.str := by
              rw [len, ← getK_map, List.map_map]
              rfl
            rw [e3] at d3
            have kl : (ts.map Tr.key).length ≤ 40 := by rw [List.length_map, ← len]; exact hl
            have kok : ∀ z ∈ ts.map Tr.key, PyData.strOk z = true := fun z hz => by
              obtain ⟨t, ht, rfl⟩ := List.mem_map.mp hz
              obtain ⟨i, hi⟩ := List.getElem?_of_mem ht
              obtain ⟨x, hx⟩ : ∃ x, xs[i]? = some x := ⟨_, List.getElem?_eq_getElem (by have := (List.getElem?_eq_some_iff.mp hi).1; omega)⟩
              obtain ⟨t', ht', hx⟩ := r.get hx
              rw [hi] at ht'
              cases ht'
              obtain ⟨p, z, u, rfl, hp, hk, ok, _⟩ := worth_at hx (wt t ht)
              rw [hk]
              exact ok
            refine ⟨_, rfl, _, rfl, D2, _, rfl, SqL.of d3, by omega, fun us p hm nd ul hp => ⟨p, us, rfl, upd_same, by omega, fun zs q hz hs hq => ?_⟩⟩
            have s4 : Same H3 (upd (upd H3 p (_root_.Lt.TxO w p us)) q (.lst (zs.map V.str))) := (Same.new hp).trans (Same.new hq)
            refine ⟨.list ((ts.map Tr.key).map .str), .list (zs.map .str), .lst (SqL.of (s4 _ _ d3)) (dp_strs _), .lst (SqL.of upd_same) (dp_strs _), shaped_strs _ kok, shaped_strs _ (fun z hz' => kok z ((hm z).mp (hz.mem_iff.mp hz'))), ?_⟩
            rw [eqv_strs, asc_iff hz nd hs hm]
            exact k2 _ ((s2.trans s3).trans s4)
    | _ => exact iteT (k H (Same.refl H))
theorem ok_law_is_values {f : Addr} {fd : FuncData} (F : Fun K "_law_is_values" "_law_is_values" s__law_is_values f fd) (T : Ta mg) (c__law_is_symbol : Cal P w K mg base 2 "_law_is_symbol" ["_law_thing"] (spB K Tr.sym)) :
    FnG P w K mg base 3 f fd ["_law_thing"] (spB K Tr.vals) := by
  refine okG F sc__law_is_values (fun vs H Q E h => ?_) (fun cdv A outer s H vs Q hr h => ?_)
  · obtain ⟨v, t, rfl, _⟩ := h
    rfl
  · obtain ⟨v, t, rfl, h, k⟩ := h
    refine ⟨_, (pss_cons (ps_if (pt_not (pt_val (pe_callB call_isi (by rfl) T.b_isinstance (by decide +kernel) (pa_cons (pv 0) (pa_cons (pe_bltn (v := .ty "tuple") rfl T.b_tuple (by decide +kernel) rfl) pa_nil)))))
    (pss_one (ps_ret pe_bl))
    pss_nil)
  (pss_cons (ps_set (i := 1) sc__law_is_values.nd rfl (by first | exact .inl rfl | exact .inr rfl) pe_str)
  (pss_cons (ps_for PassesOwn.never rfl (pi_tup (pv 0)) (pg_name (i := 2) sc__law_is_values.nd rfl (by first | exact .inl rfl | exact .inr rfl))
    (pss_cons (ps_if (PW.pt (pw_or (pt_not (pt_val (pe_callB call_isi (by rfl) T.b_isinstance (by decide +kernel) (pa_cons (pv 2) (pa_cons (pe_bltn (v := .ty "tuple") rfl T.b_tuple (by decide +kernel) rfl) pa_nil))))) (pw_or (pt_cmpR op_ne (pe_callB call_len_seq (by rfl) T.b_len (by decide +kernel) (pa_cons (pv 2) pa_nil)) pe_int (nomark _)) (pw_or1 (pt_not (pt_val (pe_c c__law_is_symbol hr (by decide) rfl (pa_cons (pe_ix ix_tup (pv 2) pe_int (fun _ _ => rfl)) pa_nil))))))))
    (pss_one (ps_ret pe_bl))
    pss_nil)
  (pss_cons (ps_if (PW.pt (pw_or (pt_val (pe_callB call_isi (by rfl) T.b_isinstance (by decide +kernel) (pa_cons (pe_ix ix_tup (pv 2) pe_int (fun _ _ => rfl)) (pa_cons (pe_bltn (v := .ty "bool") rfl T.b_bool (by decide +kernel) rfl) pa_nil)))) (pw_or1 (pt_not (pt_val (pe_callB call_isi (by rfl) T.b_isinstance (by decide +kernel) (pa_cons (pe_ix ix_tup (pv 2) pe_int (fun _ _ => rfl)) (pa_cons (pe_bltn (v := .ty "int") rfl T.b_int (by decide +kernel) rfl) pa_nil))))))))
    (pss_one (ps_ret pe_bl))
    pss_nil)
  (pss_cons (ps_if (PW.pt (pw_or (pt_cmpR op_lt (pe_ix ix_tup (pv 2) pe_int (fun _ _ => rfl)) pe_int (nomark _)) (pw_or1 (pt_not (pt_cmpR op_lt_str (pv 1) (pe_ix ix_tup (pv 2) pe_int (fun _ _ => rfl)) (nomark _))))))
    (pss_one (ps_ret pe_bl))
    pss_nil)
  (pss_one (ps_set (i := 1) sc__law_is_values.nd rfl (by first | exact .inl rfl | exact .inr rfl) (pe_ix ix_tup (pv 2) pe_int (fun _ _ => rfl))))))))
  (pss_one (ps_ret pe_bl))))), ?_⟩
    refine ⟨_, rfl, v, _, _, _, _, rfl, .ty _, h.tyx, kit_ty (kit_tup t), _, rfl, ?_⟩
    cases h with
    | @tup a xs ts ha hl r =>
      have len := r.len
      have kF : ∀ H', Same H H' → (Tr.tup ts).vals = false → Q (.bl false) H' := fun H' s' e => by
        have := k H' s'
        rw [e] at this
        exact this
      refine iteF ⟨_, rfl, a, rfl, ⟨xs, SqT.of ha⟩, for_tup (K := K) (a := a) (xs := xs) (fun i σ H' => ∃ (l : Str) (p : Option V), σ = [some (.ref a), some (.str l), p] ∧ Same H H' ∧ (Tr.tup ts).vals = goB l (ts.drop i))
        ⟨_, _, rfl, Same.refl H, vals_go ts⟩ (fun i σ H' _ ⟨_, _, _, s', _⟩ => SqT.of (s' _ _ ha)) ?_ ?_⟩
      · rintro i x σ H2 hi ⟨l, p, rfl, s2, e⟩
        obtain ⟨t, ht, hx⟩ := r.get hi
        have hx := hx.same s2
        obtain ⟨hlt, et⟩ := List.getElem?_eq_some_iff.mp ht
        rw [List.drop_eq_getElem_cons hlt, et] at e
        have e : (Tr.tup ts).vals = (t.worth && (decide (l.cps.toList < t.key.cps.toList) && goB t.key (ts.drop (i + 1)))) := e
        have nw : t.worth = false → (Tr.tup ts).vals = false := fun z => by rw [e, z, Bool.false_and]
        refine ⟨_, rfl, x, _, _, _, _, rfl, .ty _, hx.tyx, kit_ty (kit_tup t), _, rfl, ?_⟩
        cases hx with
        | @tup b ys us hb hl2 r2 =>
          refine iteF ⟨_, rfl, b, ys, rfl, .inr (SqT.of hb), rfl, _, rfl, ?_⟩
          refine ite2 (fun h2 => kF _ s2 (nw ?_)) fun h2 => ?_
          · have n : ¬ us.length = 2 := fun e => by
              rw [r2.len, e] at h2
              exact absurd h2 (by decide)
            match us, n with
            | [], _ => rfl
            | [_], _ => rfl
            | [_, _], n => exact absurd rfl n
            | _ :: _ :: _ :: _, _ => rfl
          · have n : us.length = 2 := by
              rw [← r2.len]
              have e : ¬ (!decide (V.int (ys.length : Int) = V.int 2)) = true := h2
              simp at e
              omega
            match us, n, r2 with
            | [t1, t2], _, .cons (x := x) g1 (.cons (x := y) g2 .nil) =>
              have ew : (Tr.tup [t1, t2]).worth = (t1.sym && (t2.whole && t2.pos)) := rfl
              refine ⟨_, rfl, b, [x, y], 0, x, rfl, rfl, SqT.of hb, rfl, x, t1, rfl, g1, fun H3 s3 => ⟨_, rfl, ?_⟩⟩
              cases e1 : t1.sym with
              | false => exact iteT (kF _ (s2.trans s3) (nw (by rw [ew, e1, Bool.false_and])))
              | true =>
                have hb3 := s3 _ _ hb
                have s23 := s2.trans s3
                refine iteF ⟨_, rfl, b, [x, y], 1, y, rfl, rfl, SqT.of hb3, rfl, y, _, _, _, _, rfl, .ty _, (g2.same s3).tyx, kit_ty (kit_bool t2), _, rfl, ?_⟩
                have odd : t2.whole = false → (Tr.tup ts).vals = false := fun z => nw (by rw [ew, z, Bool.false_and, Bool.and_false])
                cases g2 with
                | bl v => exact iteT (kF _ s23 (odd rfl))
                | int j =>
                  refine iteF ⟨_, rfl, b, _, 1, _, rfl, rfl, SqT.of hb3, rfl, _, _, _, _, _, rfl, .ty _, .base (.int j), kit_ty (kit_int (.int j)), _, rfl, ?_⟩
                  refine iteF ⟨_, rfl, b, _, 1, _, rfl, rfl, SqT.of hb3, rfl, _, _, rfl, rfl, _, rfl, ?_⟩
                  refine ite2 (fun hj => kF _ s23 (nw ?_)) fun hj => ?_
                  · have hj : j < 0 := of_decide_eq_true hj
                    rw [ew, show Tr.pos (.int j) = false from decide_eq_false (by omega), Bool.and_false, Bool.and_false]
                  · have hj : ¬ j < 0 := fun q => hj (decide_eq_true q)
                    have w1 : (Tr.tup [t1, .int j]).worth = true := by
                      rw [ew, e1, show Tr.pos (.int j) = true from decide_eq_true (by omega)]
                      rfl
                    rw [w1, Bool.true_and] at e
                    cases g1 with
                    | str z hz =>
                      refine ⟨_, rfl, _, rfl, b, _, 0, _, rfl, rfl, SqT.of hb3, rfl, _, _, rfl, rfl, _, rfl, ?_⟩
                      have e : (Tr.tup ts).vals = (decide (l.cps.toList < z.cps.toList) && goB z (ts.drop (i + 1))) := e
                      cases el : decide (l.cps.toList < z.cps.toList) with
                      | false => exact iteT (kF _ s23 (by rw [e, el, Bool.false_and]))
                      | true =>
                        rw [el, Bool.true_and] at e
                        exact iteF ⟨_, rfl, b, _, 0, _, rfl, rfl, SqT.of hb3, rfl, _, _, rfl, s23, e⟩
                    | _ => exact absurd (show false = true from e1) (by decide)
                | _ => exact iteF (by
                    refine ⟨_, rfl, b, _, 1, _, rfl, rfl, SqT.of hb3, rfl, _, _, _, _, _, rfl, .ty _, TrIs.tyx (by first | exact .non | exact .str _ (by assumption) | exact .lst (s3 _ _ (by assumption)) | exact .dct (s3 _ _ (by assumption)) | exact .tup (s3 _ _ (by assumption)) (by assumption) (TrAll.same s3 (by assumption))), kit_ty (kit_int _), _, rfl, ?_⟩
                    exact iteT (kF _ s23 (odd rfl)))
        | _ => exact iteT (kF _ s2 (nw rfl))
      · rintro σ H2 ⟨l, p, rfl, s2, e⟩
        have := k H2 s2
        rw [e, len, List.drop_length] at this
        exact this
    | _ => exact iteT (k H (Same.refl H))
end
end Lw

/-! ## LwS -/
set_option maxHeartbeats 4000000
/-! rules that hand on a new object as «what stood stands, and this is new» -/
namespace Lw
open PySem PySem.Spec PyProof.Rows L2
/-- a new object o, all that was tracked stands -/
def NewO (o : HO) (H : Hp) (Q : VK) : Prop := ∀ (p : Addr) (H' : Hp), H p = none → Same H H' → H' p = some o → Q (.ref p) H'
theorem NewO.to {o : HO} {H : Hp} {Q : VK} (h : NewO o H Q) : ∀ p, H p = none → Q (.ref p) (upd H p o) := fun p hp => h p _ hp (Same.new hp) upd_same
section
variable {X : Cx} {es : List Expr} {pos : Pos} {t : TA}
theorem OpR.conv {f : Value → Value → Sem Value} {r r' : R2} (h : OpR X f r) (c : ∀ x y H Q, r' x y H Q → r x y H Q) : OpR X f r' := fun pins s σ H x y v u Q I rx ry q => h pins s σ H x y v u Q I rx ry (c _ _ _ _ q)
theorem OpR.or {f : Value → Value → Sem Value} {r r' : R2} (h : OpR X f r) (h' : OpR X f r') : OpR X f (fun x y H Q => r x y H Q ∨ r' x y H Q) := fun pins s σ H x y v u Q I rx ry q => q.elim (h pins s σ H x y v u Q I rx ry) (h' pins s σ H x y v u Q I rx ry)
theorem CallR.conv {f : Value} {r r' : List V → Hp → VK → Prop} (h : CallR X f r) (c : ∀ xs H Q, r' xs H Q → r xs H Q) : CallR X f r' := fun pins s σ H xs us Q I rx q => h pins s σ H xs us Q I rx (c _ _ _ q)
theorem CallR.or {f : Value} {r r' : List V → Hp → VK → Prop} (h : CallR X f r) (h' : CallR X f r') : CallR X f (fun xs H Q => r xs H Q ∨ r' xs H Q) := fun pins s σ H xs us Q I rx q => q.elim (h pins s σ H xs us Q I rx) (h' pins s σ H xs us Q I rx)
theorem SlR.conv {r r' : V → Option Int → Option Int → Hp → VK → Prop} (h : SlR X r) (c : ∀ x l u H Q, r' x l u H Q → r x l u H Q) : SlR X r' := fun pins s σ H x v vl vu lo hi sl Q I rx hs p1 p2 q => h pins s σ H x v vl vu lo hi sl Q I rx hs p1 p2 (c _ _ _ _ _ q)
def tLstS (t : TA) : TE := fun σ H Q => t σ H fun xs H1 => xs.length ≤ sizeLine ∧ NewO (.lst xs) H1 Q
def tTupS (t : TA) : TE := fun σ H Q => t σ H fun xs H1 => xs.length ≤ sizeLine ∧ NewO (.tup xs) H1 Q
theorem PE.conv {e : Expr} {te te' : TE} (h : PE X e te) (c : ∀ σ H Q, te' σ H Q → ∃ R : VK, te σ H R ∧ ∀ v H', R v H' → Q v H') : PE X e te' := ⟨fun pins s σ H Q I q => by
  obtain ⟨R, h1, h2⟩ := c σ H Q q
  exact thn (h.run pins s σ H R I h1) fun u s1 ⟨v, H1, I1, r, k⟩ => ⟨v, H1, I1, r, h2 _ _ k⟩⟩
theorem pe_lstS (h : PA X es t) : PE X (.List es pos) (tLstS t) := ⟨fun pins s σ H Q I hq => wpAny_List_spliced (thn (h.run pos pins s σ H _ I hq) fun us s1 ⟨xs, H1, I1, r, z, q⟩ => by
  have hf : H1 s1.heap.objs.size = none := I1.hok.fresh (Nat.le_refl _)
  refine ⟨by rw [← r.length]; exact z, .ref s1.heap.objs.size, upd H1 s1.heap.objs.size (.lst xs), I1.laid (t' := s1.toks) (fun b u e => Heap.get?_push_of_some _ e) (Nat.le_refl _) ?_, rfl, q.to _ hf⟩
  exact ⟨z, us, 0, r, Heap.get?_push_size _ rfl⟩)⟩
theorem pe_tupS {x1} (h : PA X es t) : PE X (.Tuple es x1 pos) (tTupS t) := ⟨fun pins s σ H Q I hq => wpAny_Tuple_spliced (thn (h.run pos pins s σ H _ I hq) fun us s1 ⟨xs, H1, I1, r, z, q⟩ => by
  have hf : H1 s1.heap.objs.size = none := I1.hok.fresh (Nat.le_refl _)
  refine ⟨by rw [← r.length]; exact z, .ref s1.heap.objs.size, upd H1 s1.heap.objs.size (.tup xs), I1.laid (t' := s1.toks) (fun b u e => Heap.get?_push_of_some _ e) (Nat.le_refl _) ?_, rfl, q.to _ hf⟩
  exact ⟨z, us, r, ⟨_, Heap.get?_push_size _ rfl, rfl, _, rfl⟩⟩)⟩
/-- xs + ys -/
def rCatS : R2 := fun x y H Q => ∃ (a b : Addr) (xs ys : List V), x = .ref a ∧ y = .ref b ∧ H a = some (.lst xs) ∧ H b = some (.lst ys) ∧ xs.length + ys.length ≤ sizeLine ∧ NewO (.lst (xs ++ ys)) H Q
theorem op_catS : OpR X (binaryOp .Add) rCatS := OpR.conv op_cat fun x y H Q h => by
  obtain ⟨a, b, xs, ys, h1, h2, h3, h4, h5, h6⟩ := h
  exact ⟨a, b, xs, ys, h1, h2, h3, h4, h5, h6.to⟩
/-- xs * k -/
def rRepS : R2 := fun x y H Q => ∃ (a : Addr) (xs : List V) (k : Nat), x = .ref a ∧ y = .int (k : Int) ∧ H a = some (.lst xs) ∧ k ≤ 1000 ∧ xs.length * k ≤ sizeLine ∧ NewO (.lst (List.replicate k xs).flatten) H Q
theorem op_repS : OpR X (binaryOp .Mult) rRepS := OpR.conv op_rep fun x y H Q h => by
  obtain ⟨a, xs, k, h1, h2, h3, h4, h5, h6⟩ := h
  exact ⟨a, (k : Int), xs, h1, h2, h3, by omega, by omega, by simpa using h5, by simpa using h6.to⟩
/-- xs[a:b] -/
def rSlLS (K : PySem.W.Frag) : V → Option Int → Option Int → Hp → VK → Prop := fun x lo hi H Q => ∃ a xs, x = .ref a ∧ SqL K H a xs ∧ NewO (.lst (cutV xs lo hi)) H Q
theorem sl_listS : SlR X (rSlLS X.K) := SlR.conv sl_list fun x l u H Q ⟨a, xs, h1, h2, h3⟩ => ⟨a, xs, h1, h2, h3.to⟩
end
/-! ### lists of truths -/
theorem dp_bools {K : PySem.W.Frag} {H : Hp} : ∀ bs : List Bool, DpAll K H (bs.map V.bl) (bs.map PyData.bool)
  | [] => .nil
  | b :: bs => .cons (.bl b) (dp_bools bs)
theorem dp_ints {K : PySem.W.Frag} {H : Hp} : ∀ bs : List Int, DpAll K H (bs.map V.int) (bs.map PyData.int)
  | [] => .nil
  | b :: bs => .cons (.int b) (dp_ints bs)
theorem dpAll_rep {K : PySem.W.Frag} {H : Hp} {v : V} {d : PyData} (h : Dp K H v d) : ∀ n, DpAll K H (List.replicate n v) (List.replicate n d)
  | 0 => .nil
  | n + 1 => .cons h (dpAll_rep h n)
/-- == of what is the same -/
def rEqU (K : PySem.W.Frag) : R2 := fun x y H Q => rEq x y H Q ∨ rEqD K x y H Q ∨ rEqV K x y H Q
theorem op_eqU {X : Cx} {k : Nat} (hr : RoomG k X.A) : OpR X (compareOp .Eq) (rEqU X.K) := OpR.or op_eq (OpR.or (op_eqD hr.units) (op_eqV hr.units))
theorem eq_scal {v : V} {H : Hp} {Q : VK} (h : scal v v = true) (q : Q (.bl true) H) : rEq v v H Q := ⟨h, by rw [decide_eq_true rfl]; exact q⟩
end Lw

/-! ## KaG -/
set_option maxHeartbeats 8000000
namespace Lw
open PySem PySem.Spec PyProof.Rows L2
abbrev s__law_name : Stmt := topS 15
abbrev n__law_name : List Str := ["_law_heap_here", "_law_words", "_law_way", "_law_letters", "_law_more", "_law_k", "_law_name_here"]
theorem sc__law_name : FnScope n__law_name ["_law_heap_here"] (defScope s__law_name) := ⟨rfl, rfl, rfl, by decide +kernel, rfl, by decide +kernel, by decide +kernel⟩
abbrev s__law_bent : Stmt := topS 17
abbrev n__law_bent : List Str := ["_law_heap_here", "_law_word", "_law_way", "_law_at", "_law_sign"]
theorem sc__law_bent : FnScope n__law_bent ["_law_heap_here", "_law_word"] (defScope s__law_bent) := ⟨rfl, rfl, rfl, by decide +kernel, rfl, by decide +kernel, by decide +kernel⟩
abbrev s__law_odd : Stmt := topS 22
abbrev n__law_odd : List Str := ["_law_heap_here", "_law_word", "_law_menu"]
theorem sc__law_odd : FnScope n__law_odd ["_law_heap_here", "_law_word"] (defScope s__law_odd) := ⟨rfl, rfl, rfl, by decide +kernel, rfl, by decide +kernel, by decide +kernel⟩
/-- a text of at most n signs, all of them storable -/
structure OkS (n : Nat) (z : Str) : Prop where
  len : z.length ≤ n
  ok : ∀ c ∈ z.cps.toList, c < 0x110000
theorem OkS.strOk {n : Nat} {z : Str} (h : OkS n z) : PyData.strOk z = true := by
  show z.cps.all (· < 0x110000) = true
  rw [← Array.all_toList]
  exact List.all_eq_true.mpr fun c hc => decide_eq_true (h.ok c hc)
theorem OkS.mono {n m : Nat} {z : Str} (h : OkS n z) (k : n ≤ m) : OkS m z := ⟨Nat.le_trans h.len k, h.ok⟩
theorem OkS.add {n m : Nat} {a b : Str} (h : OkS n a) (k : OkS m b) : OkS (n + m) (a ++ b) := by
  refine ⟨?_, fun c hc => ?_⟩
  · show (a.cps ++ b.cps).size ≤ n + m
    rw [Array.size_append]
    exact Nat.add_le_add h.len k.len
  · have hc : c ∈ (a.cps ++ b.cps).toList := hc
    rw [Array.toList_append] at hc
    exact (List.mem_append.mp hc).elim (h.ok c) (k.ok c)
theorem OkS.cut {n : Nat} {z : Str} (h : OkS n z) (lo hi : Option Int) : OkS n (cutS z lo hi) := by
  refine ⟨Nat.le_trans (cutS_length z lo hi) h.len, fun c hc => h.ok c ?_⟩
  have hc : c ∈ ((z.cps.toList.drop (HT.sIx z.length 0 lo)).take (HT.sIx z.length z.length hi - HT.sIx z.length 0 lo)).toArray.toList := hc
  rw [List.toList_toArray] at hc
  exact List.mem_of_mem_drop (List.mem_of_mem_take hc)
theorem OkS.one {c : Nat} (h : c < 0x110000) : OkS 1 ⟨#[c]⟩ := ⟨Nat.le_refl 1, fun d hd => by
  have hd : d ∈ [c] := hd
  rw [List.mem_singleton.mp hd]
  exact h⟩
theorem OkS.join : ∀ {zs : List Str}, (∀ z ∈ zs, OkS 1 z) → OkS zs.length (Txt.join "" zs)
  | [], _ => ⟨Nat.le_refl 0, fun c hc => by
    have hc : c ∈ ([] : List Nat) := hc
    cases hc⟩
  | [x], h => by
    rw [show Txt.join "" [x] = x by rw [show Txt.join "" [x] = Str.join "" [x] from StrLaws.glued_eq_join _ _]; rfl]
    exact h x List.mem_cons_self
  | x :: y :: r, h => by
    have e : Txt.join "" (x :: y :: r) = (x ++ ("" : Str)) ++ Txt.join "" (y :: r) := by
      rw [show Txt.join "" (x :: y :: r) = Str.join "" (x :: y :: r) from StrLaws.glued_eq_join _ _, show Txt.join "" (y :: r) = Str.join "" (y :: r) from StrLaws.glued_eq_join _ _]
      rfl
    rw [e]
    have h1 : OkS 0 ("" : Str) := ⟨Nat.le_refl 0, fun c hc => by
      have hc : c ∈ ([] : List Nat) := hc
      cases hc⟩
    have h2 := ((h x List.mem_cons_self).add h1).add (OkS.join (zs := y :: r) fun z hz => h z (List.mem_cons_of_mem _ hz))
    exact h2.mono (by simp; omega)
theorem okS_small {c : Nat} (h : c ∈ signsS.cps.toList) : c < 0x110000 := by
  have f : ∀ c ∈ signsS.cps.toList, decide (c < 0x110000) = true := by decide +kernel
  exact of_decide_eq_true (f c h)
theorem OkS.lit {n : Nat} {z : Str} (h : (decide (z.length ≤ n) && z.cps.toList.all fun c => decide (c < 0x110000)) = true) : OkS n z := by
  obtain ⟨h1, h2⟩ := Bool.and_eq_true_iff.mp h
  exact ⟨of_decide_eq_true h1, fun c hc => of_decide_eq_true (List.all_eq_true.mp h2 c hc)⟩
theorem small_of {l : List Nat} {c : Nat} (hc : c ∈ l) (h : (l.all fun c => decide (c < 0x110000)) = true) : c < 0x110000 := of_decide_eq_true (List.all_eq_true.mp h c hc)
theorem okS_letter {c : Nat} (h : c ∈ lettersS.cps.toList) : c < 0x110000 := by
  have f : ∀ c ∈ lettersS.cps.toList, decide (c < 0x110000) = true := by decide +kernel
  exact of_decide_eq_true (f c h)
theorem sum_len : ∀ {zs : List Str}, (∀ z ∈ zs, OkS 1 z) → (zs.map fun x => x.length).sum ≤ zs.length
  | [], _ => Nat.le_refl 0
  | z :: zs, h => by
    have h1 := (h z List.mem_cons_self).len
    have h2 := sum_len (zs := zs) fun x hx => h x (List.mem_cons_of_mem _ hx)
    simp only [List.map_cons, List.sum_cons, List.length_cons]
    omega
def wordsL : List Str := ["cap", "len", "head", "all", "any", "not", "if", "end", "views", "vie", "a", "a1", "a2", "b", "aa"]
theorem words_ok : ∀ z ∈ wordsL, OkS 8 z := by
  have f : ∀ z ∈ wordsL, (decide (z.length ≤ 8) && z.cps.toList.all fun c => decide (c < 0x110000)) = true := by decide +kernel
  exact fun z hz => .lit (f z hz)
def spText (n : Nat) : Sp := fun vs H Q _ => ∃ a, vs = [.ref a] ∧ H a = some (DrawO a) ∧ ∀ z H', OkS n z → Same H H' → Q (.str z) H'
def spBent : Sp := fun vs H Q _ => ∃ a z, vs = [.ref a, .str z] ∧ H a = some (DrawO a) ∧ OkS 8 z ∧ ∀ z' H', OkS 20 z' → Same H H' → Q (.str z') H'
/-- some data -/
def spOdd (K : PySem.W.Frag) : Sp := fun vs H Q _ => ∃ a z, vs = [.ref a, .str z] ∧ H a = some (DrawO a) ∧ OkS 8 z ∧ ∀ v t H', TrIs K H' v t → Same H H' → Q v H'
/-- values of which p, as a list of texts -/
theorem strs_of {ys : List V} {p : Str → Prop} (h : ∀ (i : Nat) (y : V), ys[i]? = some y → ∃ z, y = V.str z ∧ p z) : ∃ zs : List Str, ys = zs.map V.str ∧ ∀ z ∈ zs, p z := by
  induction ys with
  | nil => exact ⟨[], rfl, fun z hz => nomatch hz⟩
  | cons y r ih =>
    obtain ⟨z, rfl, hz⟩ := h 0 y (by simp)
    obtain ⟨zs, rfl, hs⟩ := ih fun i x e => h (i + 1) x (by simpa using e)
    exact ⟨z :: zs, rfl, fun w hw => (List.mem_cons.mp hw).elim (fun e => e ▸ hz) (hs w)⟩
section
variable {P : Program} {w : World} {K : PySem.W.Frag} {mg : Str → Option Value} {base : Heap}
variable (c__law_roll : Cal P w K mg base 1 "_law_roll" ["_law_heap_here", "_law_many"] spRoll) (c__law_pick : Cal P w K mg base 2 "_law_pick" ["_law_heap_here", "_law_things"] (spPick K))
include c__law_roll c__law_pick
theorem ok_law_name {f : Addr} {fd : FuncData} (F : Fun K "_law_name" "_law_name" s__law_name f fd) (T : Ta mg) : FnG P w K mg base 3 f fd ["_law_heap_here"] (spText 8) := by
  refine okG F sc__law_name (fun vs H Q E h => ?_) (fun cdv A outer s H vs Q hr h => ?_)
  · obtain ⟨a, rfl, _⟩ := h
    rfl
  · obtain ⟨a, rfl, ha, k⟩ := h
    refine ⟨_, (pss_cons (ps_set (i := 1) sc__law_name.nd rfl (by first | exact .inl rfl | exact .inr rfl) (pe_lstS (pa_cons pe_str (pa_cons pe_str (pa_cons pe_str (pa_cons pe_str (pa_cons pe_str (pa_cons pe_str (pa_cons pe_str (pa_cons pe_str (pa_cons pe_str (pa_cons pe_str (pa_cons pe_str (pa_cons pe_str (pa_cons pe_str (pa_cons pe_str (pa_cons pe_str pa_nil)))))))))))))))))
  (pss_cons (ps_set (i := 2) sc__law_name.nd rfl (by first | exact .inl rfl | exact .inr rfl) (pe_c c__law_roll hr (by decide) rfl (pa_cons (pv 0) (pa_cons pe_int pa_nil))))
  (pss_cons (ps_if (pt_cmpR op_eq (pv 2) pe_int (nomark _))
    (pss_one (ps_ret (pe_c c__law_pick hr (by decide) rfl (pa_cons (pv 0) (pa_cons (pv 1) pa_nil)))))
    pss_nil)
  (pss_cons (ps_set (i := 3) sc__law_name.nd rfl (by first | exact .inl rfl | exact .inr rfl) pe_str)
  (pss_cons (ps_setLc (i := 4) (own := [("_law_k", 5)]) (g := gName 5) (tt := tYes) rfl sc__law_name.nd rfl rfl (sw_true rfl rfl rfl (by decide +kernel)) (pi_range1 rfl T.b_range (pa_cons (pe_ix ix_list (pe_lstS (pa_cons pe_int (pa_cons pe_int (pa_cons pe_int (pa_cons pe_int pa_nil))))) (pe_c c__law_roll hr (by decide) rfl (pa_cons (pv 0) (pa_cons pe_int pa_nil))) (fun _ _ => rfl)) pa_nil)) (blkOk_by (own := [("_law_k", 5)]) (N := n__law_name) (sc := defScope s__law_name) (by decide +kernel)) (fun _ _ _ _ _ => pg_name (i := 5) sc__law_name.nd rfl (Or.inl rfl)) (fun _ _ _ _ _ => pts_nil) (fun _ _ _ _ _ => (pe_c c__law_pick hr (by decide) rfl (pa_cons (pv 0) (pa_cons (pe_op op_add_str (pv 3) pe_str) pa_nil)))))
  (pss_cons (ps_set (i := 6) sc__law_name.nd rfl (by first | exact .inl rfl | exact .inr rfl) (pe_op op_add_str (pe_c c__law_pick hr (by decide) rfl (pa_cons (pv 0) (pa_cons (pv 3) pa_nil))) (pe_bm PySem.F.plainAttrs_str PySem.F.slot_str_join PySem.F.type_str_join mt_join pe_str (pa_cons (pv 4) pa_nil))))
  (pss_one (ps_ret (pe_mid (pe_ifExp (pt_cmpR op_ne (pv 6) pe_str (nomark _)) (pv 6) pe_str)))))))))), ?_⟩
    refine ⟨(by show 15 ≤ sizeLine; decide), fun p1 H1 n1 s1 h1 => ?_⟩
    have h1 : H1 p1 = some (.lst (wordsL.map V.str)) := h1
    have ha1 := s1 _ _ ha
    refine ⟨_, rfl, a, 4, rfl, ha1, by decide, by decide, fun r r0 r1 => ⟨_, rfl, rfl, _, rfl, ite2 (fun _ => ?_) fun _ => ?_⟩⟩
    · refine ⟨_, rfl, _, rfl, a, .ref p1, _, rfl, ha1, Pick.lst (SqL.of h1) (by decide) (by decide), fun v hv => ?_⟩
      obtain ⟨z, hz, rfl⟩ := List.mem_map.mp hv
      exact k z H1 (words_ok z hz) s1
    · refine ⟨(by show 4 ≤ sizeLine; decide), fun p2 H2 n2 s2 h2 => ?_⟩
      have ha2 := s2 _ _ ha1
      refine ⟨_, rfl, a, 4, rfl, ha2, by decide, by decide, fun q q0 q1 => ?_⟩
      obtain ⟨v, e1, e2⟩ := at_int (xs := [V.int 0, V.int 1, V.int 3, V.int 7]) q0 q1
      obtain ⟨n, rfl, hn⟩ : ∃ n : Nat, v = V.int (n : Int) ∧ n ≤ 7 := by
        simp at e2
        rcases e2 with rfl | rfl | rfl | rfl
        · exact ⟨0, rfl, by decide⟩
        · exact ⟨1, rfl, by decide⟩
        · exact ⟨3, rfl, by decide⟩
        · exact ⟨7, rfl, by decide⟩
      refine ⟨p2, _, q, _, rfl, rfl, SqL.of h2, e1, (n : Int), rfl, by omega, by omega, fun D hD => lc_gen walk_range (R := fun i y _ => ∃ z, y = V.str z ∧ OkS 1 z) (by simp; omega) hD (fun _ _ _ _ h _ => h) (fun _ _ => True.intro) (fun i x H3 H4 ys Q' hi s3 d y kq => ?_) fun H3 ys s3 d ly hys => ?_⟩
      · obtain ⟨rfl, rfl⟩ := y
        refine ⟨rfl, _, rfl, _, rfl, _, _, rfl, rfl, (by decide +kernel), a, _, _, rfl, s3 _ _ ha2, Pick.str (by decide +kernel) (by decide +kernel), fun v hv => ?_⟩
        obtain ⟨c, hc, rfl⟩ := hv
        exact kq _ _ (Same.refl _) ⟨_, rfl, .one (okS_small hc)⟩
      · obtain ⟨zs, rfl, hz⟩ := strs_of hys
        have ha3 := s3 _ _ ha2
        refine ⟨_, rfl, _, rfl, a, _, _, rfl, ha3, Pick.str (by decide +kernel) (by decide +kernel), fun v hv => ?_⟩
        obtain ⟨c, hc, rfl⟩ := hv
        have lz : zs.length ≤ 7 := by
          rw [List.length_map] at ly
          omega
        have sl := sum_len hz
        have oj := OkS.join hz
        refine ⟨rfl, _, rfl, "", D, zs, rfl, rfl, .inl (SqL.of d), ?_, _, _, rfl, rfl, ?_, ?_⟩
        · show (zs.map fun x => x.length).sum + zs.length * 0 ≤ 16777216
          omega
        · have := oj.len
          show 1 + (Txt.join "" zs).length ≤ sizeLine
          exact Nat.le_trans (show _ ≤ 8 by omega) (by decide)
        · have o8 : OkS 8 ((⟨#[c]⟩ : Str) ++ Txt.join "" zs) := ((OkS.one (okS_letter hc)).add oj).mono (by omega)
          refine ⟨fun v H' => ∃ z, v = V.str z ∧ OkS 8 z ∧ H' = H3, ⟨_, rfl, rfl, _, rfl, ite2 (fun _ => ⟨_, rfl, _, rfl, o8, rfl⟩) fun _ => ⟨_, rfl, .lit (by decide +kernel), rfl⟩⟩, fun v H' hv => ?_⟩
          obtain ⟨z, rfl, oz, rfl⟩ := hv
          exact k z _ oz ((s1.trans s2).trans s3)
theorem ok_law_bent {f : Addr} {fd : FuncData} (F : Fun K "_law_bent" "_law_bent" s__law_bent f fd) (T : Ta mg) : FnG P w K mg base 3 f fd ["_law_heap_here", "_law_word"] spBent := by
  refine okG F sc__law_bent (fun vs H Q E h => ?_) (fun cdv A outer s H vs Q hr h => ?_)
  · obtain ⟨a, z, rfl, _⟩ := h
    rfl
  · obtain ⟨a, z, rfl, ha, hz, k⟩ := h
    refine ⟨_, (pss_cons (ps_par (i := 2) (j := 3) (by rfl) sc__law_bent.nd rfl rfl (by decide) rfl rfl (pa_cons (pe_c c__law_roll hr (by decide) rfl (pa_cons (pv 0) (pa_cons pe_int pa_nil))) (pa_cons (pe_c c__law_roll hr (by decide) rfl (pa_cons (pv 0) (pa_cons (pe_op op_add (pe_callB call_len_str (by rfl) T.b_len (by decide +kernel) (pa_cons (pv 1) pa_nil)) pe_int) pa_nil))) pa_nil)) (by rfl))
  (pss_cons (ps_set (i := 4) sc__law_bent.nd rfl (by first | exact .inl rfl | exact .inr rfl) (pe_c c__law_pick hr (by decide) rfl (pa_cons (pv 0) (pa_cons pe_str pa_nil))))
  (pss_cons (ps_if (pt_cmpR op_eq (pv 2) pe_int (nomark _))
    (pss_one (ps_ret (pe_op op_add_str (pe_op op_add_str (pe_slice sl_str (pv 1) po_none (po_some (pv 3))) (pv 4)) (pe_slice sl_str (pv 1) (po_some (pv 3)) po_none))))
    pss_nil)
  (pss_one (ps_ret (pe_op op_add_str (pe_op op_add_str (pe_slice sl_str (pv 1) po_none (po_some (pv 3))) (pe_ix ix_list (pe_lstS (pa_cons pe_str (pa_cons pe_str (pa_cons (pv 4) pa_nil)))) (pv 2) (fun _ _ => rfl))) (pe_slice sl_str (pv 1) (po_some (pe_op op_add (pv 3) pe_int)) po_none))))))), ?_⟩
    refine ⟨_, rfl, a, 3, rfl, ha, by decide, by decide, fun r r0 r1 => ?_⟩
    have lz := hz.len
    refine ⟨_, rfl, _, rfl, z, rfl, sz1000 (by omega), _, _, rfl, rfl, a, _, rfl, ha, by omega, by omega, fun q q0 q1 => ?_⟩
    refine ⟨_, _, rfl, _, rfl, a, _, _, rfl, ha, Pick.str (by decide +kernel) (by decide +kernel), fun v hv => ?_⟩
    obtain ⟨c, hc, rfl⟩ := hv
    have oc : OkS 1 ⟨#[c]⟩ := .one (small_of hc (by decide +kernel))
    have big : ∀ {n : Nat}, n ≤ 100 → n ≤ sizeLine := fun h => Nat.le_trans h (by decide)
    have c1 : ∀ lo hi, (cutS z lo hi).length ≤ 8 := fun lo hi => (hz.cut lo hi).len
    refine ⟨_, rfl, rfl, _, rfl, ite2 (fun _ => ?_) fun _ => ?_⟩
    · refine ⟨_, rfl, _, rfl, _, rfl, z, rfl, big (by omega), _, rfl, _, _, rfl, rfl, big (by have := c1 none (some q); have := oc.len; omega), _, rfl, _, rfl, _, rfl, z, rfl, big (by omega), _, _, rfl, rfl, ?_, ?_⟩
      · have := ((hz.cut none (some q)).add oc).len
        have := c1 (some q) none
        exact big (by omega)
      · exact k _ H ((((hz.cut none (some q)).add oc).add (hz.cut (some q) none)).mono (by decide)) (Same.refl H)
    · refine ⟨_, rfl, _, rfl, _, rfl, z, rfl, big (by omega), _, rfl, big (by simp), fun p1 H1 n1 s1 h1 => ?_⟩
      obtain ⟨v, e1, e2⟩ := at_int (xs := [V.str "", V.str "", V.str ⟨#[c]⟩]) r0 r1
      obtain ⟨u, rfl, ou⟩ : ∃ u, v = V.str u ∧ OkS 1 u := by
        simp only [List.mem_cons, List.not_mem_nil, or_false] at e2
        rcases e2 with rfl | rfl | rfl
        · exact ⟨_, rfl, .lit (by decide +kernel)⟩
        · exact ⟨_, rfl, .lit (by decide +kernel)⟩
        · exact ⟨_, rfl, oc⟩
      have b1 := ((hz.cut none (some q)).add ou)
      refine ⟨_, rfl, p1, _, r, _, rfl, rfl, SqL.of h1, e1, _, _, rfl, rfl, big (by have := c1 none (some q); have := ou.len; omega), _, rfl, _, rfl, _, _, rfl, rfl, _, rfl, z, rfl, big (by omega), _, _, rfl, rfl, ?_, ?_⟩
      · have := b1.len
        have := c1 (some (q + 1)) none
        exact big (by omega)
      · exact k _ H1 ((b1.add (hz.cut (some (q + 1)) none)).mono (by decide)) s1
theorem ok_law_odd {f : Addr} {fd : FuncData} (F : Fun K "_law_odd" "_law_odd" s__law_odd f fd) (T : Ta mg) : FnG P w K mg base 3 f fd ["_law_heap_here", "_law_word"] (spOdd K) := by
  refine okG F sc__law_odd (fun vs H Q E h => ?_) (fun cdv A outer s H vs Q hr h => ?_)
  · obtain ⟨a, z, rfl, _⟩ := h
    rfl
  · obtain ⟨a, z, rfl, ha, hz, k⟩ := h
    refine ⟨_, (pss_cons (ps_set (i := 2) sc__law_odd.nd rfl (by first | exact .inl rfl | exact .inr rfl) (pe_lstS (pa_cons pe_non (pa_cons pe_bl (pa_cons pe_int (pa_cons (pe_un un_neg pe_int) (pa_cons (pe_tupS (pa_cons (pv 1) pa_nil)) (pa_cons (pe_lstS (pa_cons (pv 1) pa_nil)) (pa_cons (pe_lstS pa_nil) (pa_cons pe_dnewK (pa_cons (pe_disp (pps_cons (pv 1) pe_int pps_nil) rfl rfl (fun z => nomatch z) (by decide)) (pa_cons (pe_tupS pa_nil) (pa_cons (pe_tupS (pa_cons (pv 1) (pa_cons pe_int pa_nil))) (pa_cons (pe_lstS (pa_cons (pe_tupS (pa_cons (pv 1) (pa_cons pe_int pa_nil))) pa_nil)) (pa_cons pe_str (pa_cons pe_str (pa_cons pe_str (pa_cons pe_str pa_nil))))))))))))))))))
  (pss_one (ps_ret (pe_c c__law_pick hr (by decide) rfl (pa_cons (pv 0) (pa_cons (pv 2) pa_nil)))))), ?_⟩
    have big : ∀ {n : Nat}, n ≤ 100 → n ≤ sizeLine := fun h => Nat.le_trans h (by decide)
    have lz : z.length ≤ 1000 := by have := hz.len; omega
    refine ⟨_, rfl, _, rfl, big (by simp), fun p1 H1 n1 s1 h1 => ?_⟩
    refine ⟨_, rfl, big (by simp), fun p2 H2 n2 s2 h2 => ?_⟩
    refine ⟨big (by simp), fun p3 H3 n3 s3 h3 => fun p4 n4 => ?_⟩
    have s4 : Same H3 (upd H3 p4 (.dK [])) := Same.new n4
    generalize h4 : upd H3 p4 (.dK []) = H4 at s4 ⊢
    have h4 : H4 p4 = some (.dK []) := by rw [← h4]; exact upd_same
    refine fun p5 n5 => ⟨_, rfl, upd_same, [(Sum.inr z, .int 1)], rfl, by simp, ?_⟩
    have s5 : Same H4 (upd (upd H4 p5 (.dK [])) p5 (.dK (mergeK [] [(Sum.inr z, .int 1)]))) := by
      rw [upd_upd]
      exact Same.new n5
    generalize h5 : upd (upd H4 p5 (.dK [])) p5 (.dK (mergeK [] [(Sum.inr z, .int 1)])) = H5 at s5 ⊢
    have h5 : H5 p5 = some (.dK (mergeK [] [(Sum.inr z, .int 1)])) := by rw [← h5]; exact upd_same
    refine ⟨big (by simp), fun p6 H6 n6 s6 h6 => ?_⟩
    refine ⟨_, rfl, big (by simp), fun p7 H7 n7 s7 h7 => ?_⟩
    refine ⟨_, rfl, big (by simp), fun p8 H8 n8 s8 h8 => ⟨big (by simp), fun p9 H9 n9 s9 h9 => ?_⟩⟩
    refine ⟨big (by simp), fun p10 H10 n10 s10 h10 => ?_⟩
    have t9 : Same H9 H10 := s10
    have t8 : Same H8 H10 := s9.trans t9
    have t7 : Same H7 H10 := s8.trans t8
    have t6 : Same H6 H10 := s7.trans t7
    have t5 : Same H5 H10 := s6.trans t6
    have t4 : Same H4 H10 := s5.trans t5
    have t3 : Same H3 H10 := s4.trans t4
    have t2 : Same H2 H10 := s3.trans t3
    have t1 : Same H1 H10 := s2.trans t2
    have t0 : Same H H10 := s1.trans t1
    refine ⟨_, rfl, _, rfl, a, .ref p10, _, rfl, t0 _ _ ha, Pick.lst (SqL.of h10) (by simp) (by simp), fun v hv => ?_⟩
    obtain ⟨t, ht⟩ : ∃ t, TrIs K H10 v t := by
      simp only [List.mem_cons, List.not_mem_nil, or_false] at hv
      rcases hv with rfl | rfl | rfl | rfl | rfl | rfl | rfl | rfl | rfl | rfl | rfl | rfl | rfl | rfl | rfl | rfl
      · exact ⟨_, .non⟩
      · exact ⟨_, .bl true⟩
      · exact ⟨_, .int 0⟩
      · exact ⟨_, .int (-5)⟩
      · exact ⟨_, .tup (t1 _ _ h1) (by simp) (.cons (.str z lz) .nil)⟩
      · exact ⟨_, .lst (t2 _ _ h2)⟩
      · exact ⟨_, .lst (t3 _ _ h3)⟩
      · exact ⟨_, .dct (t4 _ _ h4)⟩
      · exact ⟨_, .dct (t5 _ _ h5)⟩
      · exact ⟨_, .tup (t6 _ _ h6) (by simp) .nil⟩
      · exact ⟨_, .tup (t7 _ _ h7) (by simp) (.cons (.str z lz) (.cons (.int 1) .nil))⟩
      · exact ⟨_, .lst (t9 _ _ h9)⟩
      · exact ⟨_, .str _ (by decide +kernel)⟩
      · exact ⟨_, .str _ (by decide +kernel)⟩
      · exact ⟨_, .str _ (by decide +kernel)⟩
      · exact ⟨_, .str _ (by decide +kernel)⟩
    exact k v t H10 ht t0
end
end Lw

/-! ## KaH -/
set_option maxHeartbeats 8000000
namespace Lw
open PySem PySem.Spec PyProof.Rows L2
abbrev s__law_names : Stmt := topS 16
abbrev n__law_names : List Str := ["_law_heap_here", "_law_many", "_law_found", "_law_k", "_law_name_here", "_law_menu", "_law_j", "_law_each"]
theorem sc__law_names : FnScope n__law_names ["_law_heap_here", "_law_many"] (defScope s__law_names) := ⟨rfl, rfl, rfl, by decide +kernel, rfl, by decide +kernel, by decide +kernel⟩
def tMidS (t : TS) : TS := fun (D : Ends) (σ : L2.St) (H : Hp) => ∃ R : L2.St → Hp → Prop, t { D with nx := R } σ H ∧ ∀ σ' H', R σ' H' → D.nx σ' H'
/-- a statement whose ways are joined -/
theorem ps_mid {X : Cx} {st : Stmt} {t : TS} (h : PS X st t) : PS X st (tMidS t) := ⟨fun pins s σ H D I q => by
  obtain ⟨R, h1, h2⟩ := q
  refine wpAny_mono (h.run pins s σ H { D with nx := R } I h1) (fun fl s' z => ?_) fun _ _ z => z
  cases fl with
  | next =>
    obtain ⟨σ', H', J, r⟩ := z
    exact ⟨σ', H', J, h2 _ _ r⟩
  | brk => exact z
  | cont => exact z
  | ret u => exact z⟩
theorem cut_le (z : Str) (k : Nat) : (cutS z none (some (k : Int))).length ≤ k := by
  show (((z.cps.toList.drop (HT.sIx z.length 0 none)).take (HT.sIx z.length z.length (some (k : Int)) - HT.sIx z.length 0 none)).toArray).size ≤ k
  rw [List.size_toArray, List.length_take]
  have h : HT.sIx z.length z.length (some (k : Int)) ≤ k := by
    rw [HT.sIx_nat]
    exact Nat.min_le_left _ _
  omega
/-- a list without a repeat within another is no longer -/
theorem nodup_le : ∀ {l m : List Str}, l.Nodup → (∀ x ∈ l, x ∈ m) → l.length ≤ m.length
  | [], m, _, _ => Nat.zero_le _
  | x :: l, m, d, h => by
    obtain ⟨nx, d⟩ := List.nodup_cons.mp d
    have hx := h x List.mem_cons_self
    have := nodup_le (l := l) (m := m.erase x) d fun y hy => (List.mem_erase_of_ne (fun e => nx (by rw [← e]; exact hy))).mpr (h y (List.mem_cons_of_mem _ hy))
    rw [List.length_erase_of_mem hx] at this
    have := List.length_pos_of_mem hx
    simp only [List.length_cons]
    omega
/-- the menu's j-th -/
def menuS (z : Str) (j : Nat) : Str := cutS z none (some 6) ++ Str.ofString (toString (0 + (j : Int)))
theorem four {j : Nat} (h : j < 4) : j = 0 ∨ j = 1 ∨ j = 2 ∨ j = 3 := by omega
theorem menu_ok {z : Str} {n j : Nat} (h : OkS n z) (hj : j < 4) : OkS 8 (menuS z j) := by
  have h1 : OkS 6 (cutS z none (some 6)) := ⟨cut_le z 6, (h.cut none (some 6)).ok⟩
  have h2 : OkS 2 (Str.ofString (toString (0 + (j : Int)))) := by
    rcases four hj with rfl | rfl | rfl | rfl <;> exact .lit (by decide +kernel)
  exact h1.add h2
theorem append_left {a b c : Str} (h : a ++ b = a ++ c) : b = c := by
  have e : (a.cps ++ b.cps).toList = (a.cps ++ c.cps).toList := congrArg (fun z : Str => z.cps.toList) h
  rw [Array.toList_append, Array.toList_append] at e
  exact str_ext (List.append_cancel_left e)
theorem menu_inj {z : Str} {i j : Nat} (hi : i < 4) (hj : j < 4) (h : menuS z i = menuS z j) : i = j := by
  have e := append_left h
  have f : ∀ i j : Fin 4, Str.ofString (toString (0 + (i.1 : Int))) = Str.ofString (toString (0 + (j.1 : Int))) → i = j := by decide +kernel
  exact congrArg Fin.val (f ⟨i, hi⟩ ⟨j, hj⟩ e)
theorem menu_nodup {z : Str} {n : Nat} (h : n ≤ 4) : ((List.range n).map (menuS z)).Nodup := by
  refine List.pairwise_map.mpr ((List.pairwise_lt_range (n := n)).imp_of_mem fun {a b} ha hb lt e => ?_)
  have h1 := List.mem_range.mp ha
  have h2 := List.mem_range.mp hb
  have := menu_inj (z := z) (by omega) (by omega) e
  omega
theorem menu_left {z : Str} {n : Nat} {zs : List Str} (h : n ≤ 4) (hz : zs.length < n) : (((z :: (List.range n).map (menuS z)).filter fun e => !decide (e ∈ zs))) ≠ [] := by
  intro q
  have all : ∀ x ∈ (List.range n).map (menuS z), x ∈ zs := fun x hx => by
    have := List.filter_eq_nil_iff.mp q x (List.mem_cons_of_mem _ hx)
    simpa using this
  have := nodup_le (menu_nodup h) all
  rw [List.length_map, List.length_range] at this
  omega
theorem inV_strs (e : Str) : ∀ zs : List Str, inV (.str e) (zs.map V.str) = decide (e ∈ zs)
  | [] => by simp [inV]
  | z :: zs => by
    show ((z == e) || inV (.str e) (zs.map V.str)) = _
    rw [inV_strs e zs]
    by_cases h : e = z
    · subst h
      simp
    · have : (z == e) = false := beq_eq_false_iff_ne.mpr fun q => h q.symm
      rw [this]
      simp [h]
theorem flat_strs : ∀ zs : List Str, (zs.map V.str).all flatV = true
  | [] => rfl
  | z :: zs => by
    show (true && (zs.map V.str).all flatV) = true
    rw [flat_strs zs]
    rfl
/-- different texts of at most 8 signs, a new list of them -/
def spNames : Sp := fun vs H Q _ => ∃ (a : Addr) (m : Int), vs = [.ref a, .int m] ∧ H a = some (DrawO a) ∧ 1 ≤ m ∧ m ≤ 4 ∧ ∀ (zs : List Str) (p : Addr) (H' : Hp), zs.length = m.toNat → (∀ z ∈ zs, OkS 8 z) → Same H H' → H p = none → H' p = some (.lst (zs.map V.str)) → Q (.ref p) H'
section
variable {P : Program} {w : World} {K : PySem.W.Frag} {mg : Str → Option Value} {base : Heap}
variable (c__law_roll : Cal P w K mg base 1 "_law_roll" ["_law_heap_here", "_law_many"] spRoll) (c__law_pick : Cal P w K mg base 2 "_law_pick" ["_law_heap_here", "_law_things"] (spPick K)) (c__law_name : Cal P w K mg base 3 "_law_name" ["_law_heap_here"] (spText 8))
include c__law_roll c__law_pick c__law_name
theorem ok_law_names {f : Addr} {fd : FuncData} (F : Fun K "_law_names" "_law_names" s__law_names f fd) (T : Ta mg) : FnG P w K mg base 4 f fd ["_law_heap_here", "_law_many"] spNames := by
  refine okG F sc__law_names (fun vs H Q E h => ?_) (fun cdv A outer s H vs Q hr h => ?_)
  · obtain ⟨a, m, rfl, _⟩ := h
    rfl
  · obtain ⟨a, m, rfl, ha, m1, m4, k⟩ := h
    refine ⟨_, (pss_cons (ps_set (i := 2) sc__law_names.nd rfl (by first | exact .inl rfl | exact .inr rfl) (pe_lstS pa_nil))
  (pss_cons (ps_for PassesOwn.never rfl (pi_range1 rfl T.b_range (pa_cons (pv 1) pa_nil)) (pg_name (i := 3) sc__law_names.nd rfl (by first | exact .inl rfl | exact .inr rfl))
    (pss_cons (ps_set (i := 4) sc__law_names.nd rfl (by first | exact .inl rfl | exact .inr rfl) (pe_c c__law_name hr (by decide) rfl (pa_cons (pv 0) pa_nil)))
  (pss_cons (ps_mid (ps_if (PW.pt (pw_and (pt_cmpR (op_neD hr.units) (pv 2) (pe_lstS pa_nil) (nomark _)) (pw_and1 (pt_cmpR op_eq (pe_c c__law_roll hr (by decide) rfl (pa_cons (pv 0) (pa_cons pe_int pa_nil))) pe_int (nomark _)))))
    (pss_one (ps_set (i := 4) sc__law_names.nd rfl (by first | exact .inl rfl | exact .inr rfl) (pe_op op_add_str (pe_slice sl_str (pe_c c__law_pick hr (by decide) rfl (pa_cons (pv 0) (pa_cons (pv 2) pa_nil))) po_none (po_some pe_int)) (pe_c c__law_pick hr (by decide) rfl (pa_cons (pv 0) (pa_cons pe_str pa_nil))))))
    pss_nil))
  (pss_cons (ps_set (i := 5) sc__law_names.nd rfl (by first | exact .inl rfl | exact .inr rfl) (pe_op op_catS (pe_lstS (pa_cons (pv 4) pa_nil)) (pe_lc (own := [("_law_j", 6)]) (g := gName 6) (tt := tYes) rfl sc__law_names.nd (pi_range1 rfl T.b_range (pa_cons (pv 1) pa_nil)) (blkOk_by (own := [("_law_j", 6)]) (N := n__law_names) (sc := defScope s__law_names) (by decide +kernel)) (fun _ _ _ _ _ => pg_name (i := 6) sc__law_names.nd rfl (Or.inl rfl)) (fun _ _ _ _ _ => pts_nil) (fun _ _ _ _ _ => (pe_op op_add_str (pe_slice sl_str (pv 4) po_none (po_some pe_int)) (pe_callTy call_str_int (by rfl) T.b_str (by decide +kernel) (pa_cons (pv 6) pa_nil)))))))
  (pss_one (ps_expr (pe_bm PySem.F.plainAttrs_list PySem.F.slot_list_append PySem.F.type_list_append mt_append (pv 2) (pa_cons (pe_ix ix_list (pe_lc (own := [("_law_each", 7)]) (g := gName 7) rfl sc__law_names.nd (pi_list (pv 5)) (blkOk_by (own := [("_law_each", 7)]) (N := n__law_names) (sc := defScope s__law_names) (by decide +kernel)) (fun _ _ _ _ _ => pg_name (i := 7) sc__law_names.nd rfl (Or.inl rfl)) (fun _ _ _ _ _ => (pts_one (pt_cmpR (r := rIn K true) op_notIn_seq (pv 7) (pv 2) rfl))) (fun _ _ _ _ _ => (pv 7))) pe_int (fun _ _ => rfl)) pa_nil))))))))
  (pss_one (ps_ret (pv 2))))), ?_⟩
    have big : ∀ {n : Nat}, n ≤ 100 → n ≤ sizeLine := fun h => Nat.le_trans h (by decide)
    refine ⟨Nat.zero_le _, fun F0 H1 n1 s1 h1 => ?_⟩
    refine ⟨_, rfl, m, rfl, by omega, by omega, for_it (walk_range (lo := 0) (n := m.toNat)) (fun i σ H' => ∃ (zs : List Str) (x3 x4 x5 x6 x7 : Option V), σ = [some (.ref a), some (.int m), some (.ref F0), x3, x4, x5, x6, x7] ∧ Same H H' ∧ zs.length = i ∧ (∀ z ∈ zs, OkS 8 z) ∧ H' F0 = some (.lst (zs.map V.str)))
      ⟨[], _, _, _, _, _, rfl, s1, rfl, (fun z hz => by cases hz), h1⟩ (fun _ _ _ _ _ => True.intro) ?_ ?_⟩
    · rintro i x σ H2 H2' hi ⟨zs, x3, x4, x5, x6, x7, rfl, s2, lz, oz, hF⟩ ⟨rfl, rfl⟩
      have ha2 := s2 _ _ ha
      refine ⟨_, rfl, a, rfl, ha2, fun z H3 oz0 s3 => ?_⟩
      have hF3 := s3 _ _ hF
      refine ⟨fun σ' H' => ∃ z', σ' = [some (.ref a), some (.int m), some (.ref F0), some (.int (0 + (i : Int))), some (.str z'), x5, x6, x7] ∧ OkS 8 z' ∧ Same H3 H', ?_, ?_⟩
      · refine ⟨_, rfl, Nat.zero_le _, fun p4 H4 n4 s4 h4 => ?_⟩
        have hF4 := s4 _ _ hF3
        have ha4 := s4 _ _ (s3 _ _ ha2)
        refine ⟨.list (zs.map .str), .list [], .lst (SqL.of hF4) (dp_strs zs), .lst (SqL.of h4) .nil, shaped_strs zs fun z hz => (oz z hz).strOk, rfl, _, rfl, ite2 (fun hne => ?_) fun _ => ⟨_, rfl, oz0, s4⟩⟩
        have ne : zs ≠ [] := fun e => by
          subst e
          exact absurd hne (by decide)
        refine ⟨_, rfl, a, 3, rfl, ha4, by decide, by decide, fun r r0 r1 => ⟨rfl, _, rfl, ite2 (fun _ => ?_) fun _ => ⟨_, rfl, oz0, s4⟩⟩⟩
        refine ⟨_, rfl, _, rfl, a, .ref F0, _, rfl, ha4, Pick.lst (SqL.of hF4) (fun e => ne (List.map_eq_nil_iff.mp e)) (by rw [List.length_map]; omega), fun v hv => ?_⟩
        obtain ⟨z1, hz1, rfl⟩ := List.mem_map.mp hv
        have l1 := (oz z1 hz1).len
        refine ⟨_, rfl, z1, rfl, big (by omega), _, rfl, a, _, _, rfl, ha4, Pick.str (by decide +kernel) (by decide +kernel), fun v2 hv2 => ?_⟩
        obtain ⟨c, hc, rfl⟩ := hv2
        have o7 : OkS 7 (cutS z1 none (some 7)) := ⟨cut_le z1 7, ((oz z1 hz1).cut none (some 7)).ok⟩
        have o1 : OkS 1 ⟨#[c]⟩ := .one (small_of hc (by decide +kernel))
        exact ⟨_, _, rfl, rfl, big (by have := o7.len; have := o1.len; omega), _, rfl, o7.add o1, s4⟩
      · rintro σ' H4 ⟨z', rfl, oz', s4⟩
        have ha4 := s4 _ _ (s3 _ _ ha2)
        have hF4 := s4 _ _ hF3
        have t4 := (s2.trans s3).trans s4
        refine ⟨_, rfl, big (by simp), fun p5 H5 n5 s5 h5 => ⟨_, rfl, m, rfl, by omega, by omega, fun D hD => lc_fn (walk_range (lo := 0) (n := m.toNat)) (fun j => .str (menuS z' j)) (by omega) hD (fun _ _ => True.intro) (fun j x H6 H7 Q' hj s6 y kq => ?_) fun H6 s6 d => ?_⟩⟩
        · obtain ⟨rfl, rfl⟩ := y
          have j4 : j < 4 := by omega
          have o8 := menu_ok oz' j4
          refine ⟨rfl, _, rfl, _, rfl, z', rfl, big (by have := oz'.len; omega), _, rfl, _, rfl, ?_, _, _, rfl, rfl, big (by
            have := o8.len
            have e : (menuS z' j).length = (cutS z' none (some 6)).length + (Str.ofString (toString (0 + (j : Int)))).length := by
              show (_ ++ _ : Array Nat).size = _
              rw [Array.size_append]
              rfl
            omega), kq _ (Same.refl _)⟩
          rcases four j4 with rfl | rfl | rfl | rfl <;> decide +kernel
        · have d : H6 D = some (.lst (((List.range m.toNat).map (menuS z')).map V.str)) := by
            rw [d, List.map_map]
            rfl
          refine ⟨p5, D, _, _, rfl, rfl, s6 _ _ h5, d, ?_, fun p8 H8 n8 s8 h8 => ?_⟩
          · rw [List.length_map, List.length_map, List.length_range]
            exact big (by simp; omega)
          · obtain ⟨ms, hms⟩ : ∃ ms : List Str, ms = z' :: (List.range m.toNat).map (menuS z') := ⟨_, rfl⟩
            have h8 : H8 p8 = some (.lst (ms.map V.str)) := by
              rw [hms]
              exact h8
            have hF8 := s8 _ _ (s6 _ _ (s5 _ _ hF4))
            have t8 : Same H H8 := ((t4.trans s5).trans s6).trans s8
            have om : ∀ e ∈ ms, OkS 8 e := fun e he => by
              rw [hms] at he
              rcases List.mem_cons.mp he with rfl | he
              · exact oz'
              · obtain ⟨j, hj, rfl⟩ := List.mem_map.mp he
                have := List.mem_range.mp hj
                exact menu_ok oz' (by omega)
            have ml : ms.length ≤ 5 := by
              rw [hms, List.length_cons, List.length_map, List.length_range]
              omega
            refine ⟨_, rfl, .inl ⟨rfl, _, SqL.of hF8⟩, _, rfl, p8, rfl, ⟨_, SqL.of h8⟩, fun D2 hD2 => lc_it walk_list (fun j H' => Same H8 H' ∧ H' D2 = some (.lst (((ms.take j).filter fun e => !decide (e ∈ zs)).map V.str))) ⟨Same.new hD2, upd_same⟩ (fun j H' _ ⟨s', _⟩ => SqL.of (s' _ _ h8)) (fun j x H9 H10 hj ⟨s9, d9⟩ y => ?_) fun H9 ⟨s9, d9⟩ => ?_⟩
            · obtain ⟨rfl, hx⟩ := y
              rw [List.getElem?_map] at hx
              obtain ⟨e, he, rfl⟩ := Option.map_eq_some_iff.mp hx
              have tk : ms.take (j + 1) = ms.take j ++ [e] := by
                rw [List.take_add_one, he]
                rfl
              refine ⟨rfl, _, rfl, _, rfl, F0, _, rfl, .inl (SqL.of (s9 _ _ hF8)), rfl, flat_strs zs, _, rfl, ?_⟩
              show if (!inV (.str e) (zs.map V.str)) = true then _ else _
              rw [inV_strs]
              refine ite2 (fun hb => ⟨_, rfl, _, d9, ?_, fun b o q => ?_, ?_⟩) fun hb => ⟨s9, ?_⟩
              · rw [List.length_map]
                exact Nat.lt_of_le_of_lt (Nat.le_trans (List.length_filter_le _ _) (List.length_take_le _ _)) (Nat.lt_of_le_of_lt (show j ≤ 5 by rw [List.length_map] at hj; omega) (by decide))
              · rw [upd_ne (ne_of_none q hD2)]
                exact s9 _ _ q
              · rw [upd_same, tk, List.filter_append, List.map_append, List.filter_cons_of_pos (p := fun e => !decide (e ∈ zs)) (a := e) hb]
                rfl
              · rw [tk, List.filter_append, List.filter_cons_of_neg (p := fun e => !decide (e ∈ zs)) (a := e) hb, List.filter_nil, List.append_nil]
                exact d9
            · rw [List.length_map, List.take_length] at d9
              have ne := menu_left (z := z') (n := m.toNat) (zs := zs) (by omega) (by omega)
              rw [← hms] at ne
              cases hf : ms.filter fun e => !decide (e ∈ zs) with
              | nil => exact absurd hf ne
              | cons e r =>
                rw [hf] at d9
                have oe : OkS 8 e := om e (List.mem_filter.mp (show e ∈ ms.filter fun e => !decide (e ∈ zs) by rw [hf]; exact List.mem_cons_self)).1
                refine ⟨D2, _, 0, _, rfl, rfl, SqL.of d9, atI_nat (j := 0) rfl, F0, _, _, rfl, rfl, s9 _ _ hF8, ?_, zs ++ [e], _, _, _, _, _, rfl, ?_, ?_, ?_, ?_⟩
                · rw [List.length_map]
                  exact Nat.lt_of_le_of_lt (show zs.length ≤ 4 by omega) (by decide)
                · exact fun b o q => by
                    rw [upd_ne (ne_of_none q n1)]
                    exact s9 _ _ (t8 _ _ q)
                · rw [List.length_append, lz]
                  rfl
                · intro x hx
                  rcases List.mem_append.mp hx with h | h
                  · exact oz x h
                  · rw [List.mem_singleton.mp h]
                    exact oe
                · rw [upd_same, List.map_append]
                  rfl
    · rintro σ H2 ⟨zs, x3, x4, x5, x6, x7, rfl, s2, lz, oz, hF⟩
      exact ⟨_, rfl, k zs F0 H2 lz oz s2 n1 hF⟩
end
end Lw

/-! ## KaI -/
set_option maxHeartbeats 8000000
namespace Lw
open PySem PySem.Spec PyProof.Rows L2
abbrev s__law_pairs : Stmt := topS 21
abbrev n__law_pairs : List Str := ["_law_heap_here", "_law_names_here", "_law_numbers", "_law_pairs_here", "_law_name_here", "_law_way", "_law_at", "_law_odd_here"]
theorem sc__law_pairs : FnScope n__law_pairs ["_law_heap_here", "_law_names_here"] (defScope s__law_pairs) := ⟨rfl, rfl, rfl, by decide +kernel, rfl, by decide +kernel, by decide +kernel⟩
theorem trs_of {K : PySem.W.Frag} {H : Hp} : ∀ {ys : List V}, (∀ y ∈ ys, ∃ t, TrIs K H y t) → ∃ ts, TrAll K H ys ts
  | [], _ => ⟨[], .nil⟩
  | y :: r, h => by
    obtain ⟨t, ht⟩ := h y List.mem_cons_self
    obtain ⟨ts, hs⟩ := trs_of (ys := r) fun z hz => h z (List.mem_cons_of_mem _ hz)
    exact ⟨t :: ts, .cons ht hs⟩
def El (K : PySem.W.Frag) (H : Hp) (ys : List V) : Prop := ∀ y ∈ ys, ∃ t, TrIs K H y t
theorem El.same {K : PySem.W.Frag} {H H' : Hp} {ys : List V} (h : El K H ys) (s : Same H H') : El K H' ys := fun y hy => let ⟨t, ht⟩ := h y hy; ⟨t, ht.same s⟩
theorem El.add {K : PySem.W.Frag} {H : Hp} {ys zs : List V} (h : El K H ys) (k : El K H zs) : El K H (ys ++ zs) := fun y hy => (List.mem_append.mp hy).elim (h y) (k y)
theorem El.cut {K : PySem.W.Frag} {H : Hp} {ys : List V} (h : El K H ys) (lo hi : Option Int) : El K H (cutV ys lo hi) := fun y hy => h y (mem_cutV hy)
theorem El.rev {K : PySem.W.Frag} {H : Hp} {ys : List V} (h : El K H ys) : El K H ys.reverse := fun y hy => h y (List.mem_reverse.mp hy)
theorem El.nil {K : PySem.W.Frag} {H : Hp} : El K H [] := fun y hy => by cases hy
theorem El.cons {K : PySem.W.Frag} {H : Hp} {y : V} {t : Tr} {ys : List V} (h : TrIs K H y t) (k : El K H ys) : El K H (y :: ys) := fun z hz => by
  rcases List.mem_cons.mp hz with rfl | hz
  · exact ⟨t, h⟩
  · exact k z hz
theorem cutV_len (ys : List V) (lo hi : Option Int) : (cutV ys lo hi).length ≤ ys.length := by
  unfold cutV
  rw [List.length_take, List.length_drop]
  omega
def spPairs (K : PySem.W.Frag) : Sp := fun vs H Q _ => ∃ (a p : Addr) (zs : List Str), vs = [.ref a, .ref p] ∧ H a = some (DrawO a) ∧ H p = some (.lst (zs.map V.str)) ∧ 1 ≤ zs.length ∧ zs.length ≤ 4 ∧ (∀ z ∈ zs, OkS 8 z) ∧ ∀ v t H', TrIs K H' v t → Same H H' → Q v H'
section
variable {P : Program} {w : World} {K : PySem.W.Frag} {mg : Str → Option Value} {base : Heap}
variable (c__law_roll : Cal P w K mg base 1 "_law_roll" ["_law_heap_here", "_law_many"] spRoll) (c__law_pick : Cal P w K mg base 2 "_law_pick" ["_law_heap_here", "_law_things"] (spPick K))
include c__law_roll c__law_pick
theorem ok_law_pairs {f : Addr} {fd : FuncData} (F : Fun K "_law_pairs" "_law_pairs" s__law_pairs f fd) (T : Ta mg) : FnG P w K mg base 3 f fd ["_law_heap_here", "_law_names_here"] (spPairs K) := by
  refine okG F sc__law_pairs (fun vs H Q E h => ?_) (fun cdv A outer s H vs Q hr h => ?_)
  · obtain ⟨a, p, zs, rfl, _⟩ := h
    rfl
  · obtain ⟨a, p, zs, rfl, ha, hp, z1, z4, oz, k⟩ := h
    refine ⟨_, (pss_cons (ps_set (i := 2) sc__law_pairs.nd rfl (by first | exact .inl rfl | exact .inr rfl) (pe_lstS (pa_cons pe_int (pa_cons pe_int (pa_cons pe_int (pa_cons (pe_op op_pow pe_int pe_int) (pa_cons pe_int (pa_cons pe_int pa_nil))))))))
  (pss_cons (ps_setLc (i := 3) (own := [("_law_name_here", 4)]) (g := gName 4) (tt := tYes) rfl sc__law_pairs.nd rfl rfl (sw_true rfl rfl rfl (by decide +kernel)) (pi_list (pe_callB cr_sortedS (by rfl) T.b_sorted (by decide +kernel) (pa_cons (pv 1) pa_nil))) (blkOk_by (own := [("_law_name_here", 4)]) (N := n__law_pairs) (sc := defScope s__law_pairs) (by decide +kernel)) (fun _ _ _ _ _ => pg_name (i := 4) sc__law_pairs.nd rfl (Or.inl rfl)) (fun _ _ _ _ _ => pts_nil) (fun _ _ _ _ _ => (pe_tupS (pa_cons (pv 4) (pa_cons (pe_c c__law_pick hr (by decide) rfl (pa_cons (pv 0) (pa_cons (pv 2) pa_nil))) pa_nil)))))
  (pss_cons (ps_par (i := 5) (j := 6) (by rfl) sc__law_pairs.nd rfl rfl (by decide) rfl rfl (pa_cons (pe_c c__law_roll hr (by decide) rfl (pa_cons (pv 0) (pa_cons pe_int pa_nil))) (pa_cons (pe_c c__law_roll hr (by decide) rfl (pa_cons (pv 0) (pa_cons (pe_callB call_len_seq (by rfl) T.b_len (by decide +kernel) (pa_cons (pv 3) pa_nil)) pa_nil))) pa_nil)) (by rfl))
  (pss_cons (ps_if (pt_cmpR op_eq (pv 5) pe_int (nomark _))
    (pss_one (ps_ret (pe_callTy call_tuple_of (by rfl) T.b_tuple (by decide +kernel) (pa_cons (pe_op op_catS (pe_lstS (pa_cons (pe_tupS (pa_cons pe_str (pa_cons pe_int pa_nil))) pa_nil)) (pv 3)) pa_nil))))
    pss_nil)
  (pss_cons (ps_if (pt_cmpR op_eq (pv 5) pe_int (nomark _))
    (pss_one (ps_ret (pe_callTy call_tuple_of (by rfl) T.b_tuple (by decide +kernel) (pa_cons (pe_revL (pv 3)) pa_nil))))
    pss_nil)
  (pss_cons (ps_if (pt_cmpR op_eq (pv 5) pe_int (nomark _))
    (pss_one (ps_ret (pe_callTy call_tuple_of (by rfl) T.b_tuple (by decide +kernel) (pa_cons (pe_op op_catS (pe_slice sl_listS (pv 3) po_none (po_some (pe_op op_add (pv 6) pe_int))) (pe_slice sl_listS (pv 3) (po_some (pv 6)) po_none)) pa_nil))))
    pss_nil)
  (pss_cons (ps_if (pt_cmpR op_eq (pv 5) pe_int (nomark _))
    (pss_cons (ps_set (i := 4) sc__law_pairs.nd rfl (by first | exact .inl rfl | exact .inr rfl) (pe_ix ix_tup (pe_ix ix_list (pv 3) (pv 6) (fun _ _ => rfl)) pe_int (fun _ _ => rfl)))
  (pss_cons (ps_set (i := 7) sc__law_pairs.nd rfl (by first | exact .inl rfl | exact .inr rfl) (pe_lstS (pa_cons (pe_tupS (pa_cons (pv 4) (pa_cons (pe_un un_neg pe_int) pa_nil))) (pa_cons (pe_tupS (pa_cons (pv 4) (pa_cons pe_bl pa_nil))) (pa_cons (pe_tupS (pa_cons (pv 4) (pa_cons pe_str pa_nil))) (pa_cons (pe_lstS (pa_cons (pv 4) (pa_cons pe_int pa_nil))) (pa_cons (pe_tupS (pa_cons (pv 4) pa_nil)) (pa_cons (pe_tupS (pa_cons (pv 4) (pa_cons pe_int (pa_cons pe_int pa_nil)))) (pa_cons (pe_tupS (pa_cons pe_int (pa_cons (pv 4) pa_nil))) (pa_cons pe_non pa_nil))))))))))
  (pss_one (ps_ret (pe_callTy call_tuple_of (by rfl) T.b_tuple (by decide +kernel) (pa_cons (pe_op op_catS (pe_op op_catS (pe_slice sl_listS (pv 3) po_none (po_some (pv 6))) (pe_lstS (pa_cons (pe_c c__law_pick hr (by decide) rfl (pa_cons (pv 0) (pa_cons (pe_op op_catS (pv 7) (pe_lstS (pa_cons (pe_tupS (pa_cons pe_str (pa_cons pe_int pa_nil))) (pa_cons (pe_tupS (pa_cons (pe_op op_add_str (pv 4) pe_str) (pa_cons pe_int pa_nil))) pa_nil)))) pa_nil))) pa_nil))) (pe_slice sl_listS (pv 3) (po_some (pe_op op_add (pv 6) pe_int)) po_none)) pa_nil))))))
    pss_nil)
  (pss_one (ps_ret (pe_mid (pe_ifExp (pt_cmpR op_eq (pv 5) pe_int (nomark _)) (pv 3) (pe_callTy call_tuple_of (by rfl) T.b_tuple (by decide +kernel) (pa_cons (pv 3) pa_nil))))))))))))), ?_⟩
    have big : ∀ {n : Nat}, n ≤ 100 → n ≤ sizeLine := fun h => Nat.le_trans h (by decide)
    have fin : ∀ (ys : List V) H' l, Same H H' → El K H' ys → ys.length ≤ 40 → H' l = none → Q (.ref l) (upd H' l (.tup ys)) := fun ys H' l s' e n hl => by
      have sn : Same H' (upd H' l (.tup ys)) := Same.new hl
      obtain ⟨ts, r⟩ := trs_of (e.same sn)
      exact k _ _ _ (.tup upd_same n r) (s'.trans sn)
    refine ⟨_, _, rfl, rfl, ⟨by decide, by decide, by decide⟩, big (by simp), fun p1 H1 n1 s1 h1 => ?_⟩
    refine ⟨_, rfl, p, zs, rfl, SqL.of (s1 _ _ hp), by omega, fun ys q pm so hq => ?_⟩
    have s2 : Same H1 (upd H1 q (.lst (ys.map V.str))) := Same.new hq
    have h2 : upd H1 q (.lst (ys.map V.str)) q = some (.lst (ys.map V.str)) := upd_same
    generalize upd H1 q (.lst (ys.map V.str)) = H2 at s2 h2 ⊢
    have yl : ys.length = zs.length := pm.length_eq
    refine ⟨q, rfl, ⟨_, SqL.of h2⟩, fun D hD => lc_gen walk_list (R := fun i y H => ∃ b z n, y = V.ref b ∧ b ≠ D ∧ H b = some (.tup [.str z, .int n]) ∧ OkS 8 z) (by rw [List.length_map]; omega) hD (fun i y H H' ⟨b, z, n, e1, e2, e3, e4⟩ kk => ⟨b, z, n, e1, e2, kk _ _ e2 e3, e4⟩)
      (fun H' s' => SqL.of (s' _ _ h2)) (fun i x H3 H4 yl Q' hi s3 d y kq => ?_) fun H3 PL s3 d lp hR => ?_⟩
    · obtain ⟨rfl, hx⟩ := y
      obtain ⟨z, hz, rfl⟩ := List.mem_map.mp (List.mem_of_getElem? hx)
      have t3 := (s1.trans s2).trans s3
      refine ⟨rfl, _, rfl, _, rfl, _, rfl, a, .ref p1, _, rfl, t3 _ _ ha, Pick.lst (SqL.of (s3 _ _ (s2 _ _ h1))) (by simp) (by simp), fun v hv => ⟨big (by simp), fun b H5 n5 s5 h5 => ?_⟩⟩
      obtain ⟨n, rfl⟩ : ∃ n, v = V.int n := by
        simp only [List.mem_cons, List.not_mem_nil, or_false] at hv
        rcases hv with rfl | rfl | rfl | rfl | rfl | rfl <;> exact ⟨_, rfl⟩
      refine kq _ H5 s5 ⟨b, z, n, rfl, fun e => ?_, h5, oz z (pm.mem_iff.mp hz)⟩
      rw [e, d] at n5
      cases n5
    · have t3 := (s1.trans s2).trans s3
      have ha3 := t3 _ _ ha
      rw [List.length_map] at lp
      have l1 : 1 ≤ PL.length := by omega
      have l4 : PL.length ≤ 4 := by omega
      have el : El K H3 PL := fun y hy => by
        obtain ⟨i, hi⟩ := List.getElem?_of_mem hy
        obtain ⟨b, z, n, rfl, _, hb, oz'⟩ := hR i y hi
        exact ⟨_, .tup hb (by simp) (.cons (.str z (by have := oz'.len; omega)) (.cons (.int n) .nil))⟩
      refine ⟨_, rfl, a, 8, rfl, ha3, by decide, by decide, fun r r0 r1 => ⟨_, rfl, _, rfl, D, PL, rfl, .inl (SqL.of d), a, _, rfl, ha3, by omega, by omega, fun t t0 t1 => ⟨_, _, rfl, ?_⟩⟩⟩
      refine ⟨_, rfl, rfl, _, rfl, ite2 (fun _ => ?_) fun _ => ?_⟩
      · refine ⟨big (by simp), fun b4 H4 n4 s4 h4 => ⟨big (by simp), fun b5 H5 n5 s5 h5 => ⟨_, rfl, b5, D, _, _, rfl, rfl, h5, s5 _ _ (s4 _ _ d), big (by simp; omega), fun b6 H6 n6 s6 h6 => ⟨b6, _, rfl, .inl ⟨SqL.of h6, fun l hl => ?_⟩⟩⟩⟩⟩
        refine fin _ H6 l (((t3.trans s4).trans s5).trans s6) (El.cons (.tup ((s5.trans s6) _ _ h4) (by simp) (.cons (.str "@" (by decide +kernel)) (.cons (.int 3) .nil))) (el.same ((s4.trans s5).trans s6))) (by simp; omega) hl
      refine ⟨_, rfl, rfl, _, rfl, ite2 (fun _ => ?_) fun _ => ?_⟩
      · refine ⟨_, rfl, D, PL, rfl, SqL.of d, fun b hb => ⟨b, _, rfl, .inl ⟨SqL.of upd_same, fun l hl => ?_⟩⟩⟩
        have sb : Same H3 (upd H3 b (.lst PL.reverse)) := Same.new hb
        exact fin _ _ l (t3.trans sb) (el.rev.same sb) (by simp; omega) hl
      refine ⟨_, rfl, rfl, _, rfl, ite2 (fun _ => ?_) fun _ => ?_⟩
      · refine ⟨_, rfl, _, rfl, _, _, rfl, rfl, _, rfl, D, PL, rfl, SqL.of d, fun b4 H4 n4 s4 h4 => ⟨_, rfl, _, rfl, _, rfl, D, PL, rfl, SqL.of (s4 _ _ d), fun b5 H5 n5 s5 h5 => ⟨b4, b5, _, _, rfl, rfl, s5 _ _ h4, h5, ?_, fun b6 H6 n6 s6 h6 => ⟨b6, _, rfl, .inl ⟨SqL.of h6, fun l hl => ?_⟩⟩⟩⟩⟩
        · have := cutV_len PL none (some (t + 1))
          have := cutV_len PL (some t) none
          exact big (by omega)
        · have := cutV_len PL none (some (t + 1))
          have := cutV_len PL (some t) none
          exact fin _ H6 l (((t3.trans s4).trans s5).trans s6) (((el.cut none (some (t + 1))).add (el.cut (some t) none)).same ((s4.trans s5).trans s6)) (by rw [List.length_append]; omega) hl
      refine ⟨_, rfl, rfl, _, rfl, ite2 (fun _ => ?_) fun _ => ?_⟩
      · obtain ⟨y, e1, e2⟩ := at_int (xs := PL) t0 t1
        obtain ⟨i, hi⟩ := List.getElem?_of_mem e2
        obtain ⟨b, z, n, rfl, _, hb, oz'⟩ := hR i y hi
        have lz : z.length ≤ 1000 := by have := oz'.len; omega
        refine ⟨_, rfl, _, rfl, D, PL, t, _, rfl, rfl, SqL.of d, e1, b, _, 0, _, rfl, rfl, SqT.of hb, rfl, ?_⟩
        refine ⟨_, rfl, _, rfl, big (by simp), fun a1 G1 m1 r1 g1 => ⟨_, rfl, big (by simp), fun a2 G2 m2 r2 g2 => ⟨_, rfl, big (by simp), fun a3 G3 m3 r3 g3 => ⟨_, rfl, big (by simp), fun a4 G4 m4 r4 g4 => ⟨_, rfl, big (by simp), fun a5 G5 m5 r5 g5 => ?_⟩⟩⟩⟩⟩
        refine ⟨_, rfl, big (by simp), fun a6 G6 m6 r6 g6 => ⟨_, rfl, big (by simp), fun a7 G7 m7 r7 g7 => ⟨big (by simp), fun a8 G8 m8 r8 g8 => ?_⟩⟩⟩
        have u7 := r8
        have u6 := r7.trans u7
        have u5 := r6.trans u6
        have u4 := r5.trans u5
        have u3 := r4.trans u4
        have u2 := r3.trans u3
        have u1 := r2.trans u2
        have u0 := r1.trans u1
        have zt := TrIs.str (K := K) (H := G8) z lz
        have eo : El K G8 [.ref a1, .ref a2, .ref a3, .ref a4, .ref a5, .ref a6, .ref a7, .non] := El.cons (.tup (u1 _ _ g1) (by simp) (.cons zt (.cons (.int (-1)) .nil))) (El.cons (.tup (u2 _ _ g2) (by simp) (.cons zt (.cons (.bl true) .nil)))
          (El.cons (.tup (u3 _ _ g3) (by simp) (.cons zt (.cons (.str "1" (by decide +kernel)) .nil))) (El.cons (.lst (u4 _ _ g4)) (El.cons (.tup (u5 _ _ g5) (by simp) (.cons zt .nil))
          (El.cons (.tup (u6 _ _ g6) (by simp) (.cons zt (.cons (.int 1) (.cons (.int 1) .nil)))) (El.cons (.tup (u7 _ _ g7) (by simp) (.cons (.int 1) (.cons zt .nil))) (El.cons .non El.nil)))))))
        have c1 := cutV_len PL none (some t)
        have c2 := cutV_len PL (some (t + 1)) none
        refine ⟨_, rfl, _, rfl, _, rfl, D, PL, rfl, SqL.of (u0 _ _ d), fun b4 H4 n4 s4 h4 => ⟨_, rfl, _, rfl, big (by simp), fun x1 E1 k1 v1 q1 => ⟨_, rfl, _, _, rfl, rfl, ?_, big (by simp), fun x2 E2 k2 v2 q2 => ⟨big (by simp), fun x3 E3 k3 v3 q3 => ?_⟩⟩⟩⟩
        · have := oz'.len
          show z.length + 1 ≤ sizeLine
          exact big (by omega)
        refine ⟨a8, x3, _, _, rfl, rfl, ((s4.trans v1).trans v2).trans v3 _ _ g8, q3, big (by simp), fun x4 E4 k4 v4 q4 => ?_⟩
        have w4 := ((s4.trans v1).trans v2).trans (v3.trans v4)
        refine ⟨a, .ref x4, _, rfl, w4 _ _ (u0 _ _ ha3), Pick.lst (SqL.of q4) (by simp) (by simp), fun v hv => ⟨big (by simp), fun x5 E5 k5 v5 q5 => ?_⟩⟩
        have o9 : OkS 9 (z ++ ("-" : Str)) := oz'.add (OkS.lit (n := 1) (by decide +kernel))
        have ev : El K E4 [v] := fun y hy => by
          rw [List.mem_singleton.mp hy]
          refine (El.add (eo.same w4) (El.cons (.tup (((v2.trans v3).trans v4) _ _ q1) (by simp) (.cons (.str "view" (by decide +kernel)) (.cons (.int 1) .nil))) (El.cons (.tup ((v3.trans v4) _ _ q2) (by simp) (.cons (.str _ (by have := o9.len; omega)) (.cons (.int 1) .nil))) El.nil))) v hv
        have b5 := (((v1.trans v2).trans v3).trans v4).trans v5
        refine ⟨b4, x5, _, _, rfl, rfl, b5 _ _ h4, q5, big (by simp; omega), fun x6 E6 k6 v6 q6 => ⟨_, rfl, _, rfl, _, _, rfl, rfl, _, rfl, D, PL, rfl, SqL.of ((((u0.trans s4).trans b5).trans v6) _ _ d), fun x7 E7 k7 v7 q7 => ⟨x6, x7, _, _, rfl, rfl, v7 _ _ q6, q7, big (by simp; omega), fun x8 E8 k8 v8 q8 => ⟨x8, _, rfl, .inl ⟨SqL.of q8, fun l hl => ?_⟩⟩⟩⟩⟩
        have top : Same H3 E8 := ((((u0.trans s4).trans b5).trans v6).trans v7).trans v8
        exact fin _ E8 l (t3.trans top) (((el.cut none (some t)).same top).add (ev.same (((v5.trans v6).trans v7).trans v8)) |>.add ((el.cut (some (t + 1)) none).same top)) (by simp; omega) hl
      · refine ⟨fun v H' => (v = .ref D ∧ H' = H3) ∨ ∃ l, v = .ref l ∧ H3 l = none ∧ H' = upd H3 l (.tup PL), ⟨_, rfl, rfl, _, rfl, ite2 (fun _ => ⟨_, rfl, .inl ⟨rfl, rfl⟩⟩) fun _ => ⟨_, rfl, D, PL, rfl, .inl ⟨SqL.of d, fun l hl => .inr ⟨l, rfl, hl, rfl⟩⟩⟩⟩, fun v H' hv => ?_⟩
        rcases hv with ⟨rfl, rfl⟩ | ⟨l, rfl, hl, rfl⟩
        · exact k _ _ _ (.lst d) t3
        · exact fin PL H3 l t3 el (by omega) hl
end
end Lw

/-! ## KaJ -/
set_option maxHeartbeats 8000000
namespace Lw
open PySem PySem.Spec PyProof.Rows L2
abbrev s__law_right : Stmt := topS 23
abbrev n__law_right : List Str := ["_law_heap_here", "_law_names_here", "_law_things", "_law_name_here", "_law_turn", "_law_thing", "_law_told", "_law_due"]
theorem sc__law_right : FnScope n__law_right ["_law_heap_here"] (defScope s__law_right) := ⟨rfl, rfl, rfl, by decide +kernel, rfl, by decide +kernel, by decide +kernel⟩
abbrev s_law : Stmt := topS 24
abbrev n_law : List Str := ["_law_script", "_law_k", "_law_heap_here", "_law_turn"]
theorem sc_law : FnScope n_law ["_law_script"] (defScope s_law) := ⟨rfl, rfl, rfl, by decide +kernel, rfl, by decide +kernel, by decide +kernel⟩
/-- z * n -/
theorem op_mulStr {X : Cx} : OpR X (binaryOp .Mult) (fun x y H Q => ∃ (z : Str) (n : Int), x = .str z ∧ y = .int n ∧ MulOk z n ∧ Q (.str (Txt.mul z n)) H) := by
  intro pins s σ H x y v u Q I rx ry h
  obtain ⟨z, n, rfl, rfl, hok, q⟩ := h
  obtain ⟨t, rfl⟩ := rx
  obtain ⟨t', rfl⟩ := ry
  exact SB.mul hok fun t2 k => ⟨.str _, H, I.tok k, ⟨_, rfl⟩, q⟩
section
variable {K : PySem.W.Frag} {H H' : Hp} {D : Addr}
mutual
theorem TrIs.but (k : ∀ a o, a ≠ D → H a = some o → H' a = some o) (d : ∃ l, H D = some (.lst l)) (d' : ∃ l, H' D = some (.lst l)) : ∀ {v : V} {t : Tr}, TrIs K H v t → TrIs K H' v t
  | _, _, .non => .non
  | _, _, .bl b => .bl b
  | _, _, .int i => .int i
  | _, _, .str z h => .str z h
  | _, _, @TrIs.lst _ _ a xs h => by
    by_cases e : a = D
    · subst e
      obtain ⟨l, hl⟩ := d'
      exact .lst hl
    · exact .lst (k _ _ e h)
  | _, _, @TrIs.dct _ _ a kvs h => .dct (k _ _ (fun e => by
    obtain ⟨l, hl⟩ := d
    rw [e, hl] at h
    cases h) h)
  | _, _, @TrIs.tup _ _ a xs ts h l r => .tup (k _ _ (fun e => by
    obtain ⟨l, hl⟩ := d
    rw [e, hl] at h
    cases h) h) l (TrAll.but k d d' r)
theorem TrAll.but (k : ∀ a o, a ≠ D → H a = some o → H' a = some o) (d : ∃ l, H D = some (.lst l)) (d' : ∃ l, H' D = some (.lst l)) : ∀ {vs : List V} {ts : List Tr}, TrAll K H vs ts → TrAll K H' vs ts
  | _, _, .nil => .nil
  | _, _, .cons h r => .cons (TrIs.but k d d' h) (TrAll.but k d d' r)
end
end
/-- a comprehension of data -/
theorem lc_tr {K : PySem.W.Frag} {J : It} {n : Nat} {G : Hp → Prop} {Y : Nat → Hp → V → Hp → Prop} (w : Walk J n G Y) {g : TG} {te : TE} {vs : List Nat} {σ : L2.St} {H1 : Hp} {D : Addr} {Qd : Hp → Prop} (hn : n ≤ 1000) (hD : H1 D = none)
    (hG : ∀ H', Same H1 H' → G H')
    (hs : ∀ i x H H' (Q' : VK), i < n → Same H1 H → Y i H x H' → (∀ y t H4, Same H H4 → TrIs K H4 y t → Q' y H4) → g x (wipe σ vs) H' fun σ2 H2 => wipe σ2 vs = wipe σ vs ∧ te σ2 H2 Q')
    (hd : ∀ H' ys, Same H1 H' → H' D = some (.lst ys) → ys.length = n → El K H' ys → Qd H') :
    ∃ W : Nat → Nat → Hp → Prop, (∃ m, W 0 m (upd H1 D (.lst []))) ∧ ∀ i m H, W i m H →
      (J.stop i H ∧ Qd H) ∨ (J.go i H ∧ ∃ Nx : Hp → Prop, (∀ H', Nx H' → ∃ m', m' < m ∧ W (i + 1) m' H') ∧ ∀ x H', J.yld i H x H' → g x (wipe σ vs) H' fun σ2 H2 => wipe σ2 vs = wipe σ vs ∧ tYes σ2 H2 fun b H3 =>
        if b = true then te σ2 H3 fun y H4 => ∃ acc, H4 D = some (.lst acc) ∧ acc.length < sizeLine ∧ Nx (upd H4 D (.lst (acc ++ [y]))) else Nx H3) := by
  refine lc_it w (tt := tYes) (fun i H => ∃ ys, Same H1 H ∧ H D = some (.lst ys) ∧ ys.length = i ∧ El K H ys) ⟨[], Same.new hD, upd_same, rfl, El.nil⟩ (fun i H _ ⟨_, s, _⟩ => hG H s) (fun i x H H' hi ⟨ys, s, d, l, r⟩ y => ?_) fun H ⟨ys, s, d, l, r⟩ => hd H ys s d l r
  show g x (wipe σ vs) H' fun σ2 H2 => wipe σ2 vs = wipe σ vs ∧ te σ2 H2 fun y H4 => _
  refine hs i x H H' _ hi s y fun v t H4 s4 r4 => ⟨ys, s4 _ _ d, Nat.lt_of_le_of_lt (show ys.length ≤ 1000 by omega) (by decide), ys ++ [v], fun a u e => ?_, upd_same, by rw [List.length_append, l]; rfl, ?_⟩
  · rw [upd_ne (ne_of_none e hD)]
    exact s4 _ _ (s _ _ e)
  · have b : ∀ {u : V} {t : Tr}, TrIs K H4 u t → TrIs K (upd H4 D (.lst (ys ++ [v]))) u t := fun h => h.but (D := D) (fun a o n e => by
      rw [upd_ne n]
      exact e) ⟨_, s4 _ _ d⟩ ⟨_, upd_same⟩
    intro y hy
    rcases List.mem_append.mp hy with h | h
    · obtain ⟨t, ht⟩ := r y h
      exact ⟨t, b (ht.same s4)⟩
    · rw [List.mem_singleton.mp h]
      exact ⟨t, b r4⟩
def spRight : Sp := fun vs H Q _ => ∃ a, vs = [.ref a] ∧ H a = some (DrawO a) ∧ ∀ H', Same H H' → Q (.bl true) H'
def spLaw (K : PySem.W.Frag) : Sp := fun vs H Q _ => ∃ (a : Addr) (ns : List Int), vs = [.ref a] ∧ SqL K H a (ns.map V.int) ∧ ns.length ≤ 63 ∧ ∀ H', Q (.bl true) H'
theorem rep6 (x y z : Bool) : ∀ d : PyData, d = .list ([x, x, y, y, z, z].map PyData.bool) → d.showable = true ∧ d.hasDict = false ∧ d.depth ≤ 50 ∧ d.shown.length ≤ sizeLine := by
  rintro d rfl
  cases x <;> cases y <;> cases z <;> decide +kernel
section
variable {P : Program} {w : World} {K : PySem.W.Frag} {mg : Str → Option Value} {base : Heap}
variable (c__law_roll : Cal P w K mg base 1 "_law_roll" ["_law_heap_here", "_law_many"] spRoll) (c__law_names : Cal P w K mg base 4 "_law_names" ["_law_heap_here", "_law_many"] spNames) (c__law_bent : Cal P w K mg base 3 "_law_bent" ["_law_heap_here", "_law_word"] spBent)
  (c__law_odd : Cal P w K mg base 3 "_law_odd" ["_law_heap_here", "_law_word"] (spOdd K)) (c__law_pairs : Cal P w K mg base 3 "_law_pairs" ["_law_heap_here", "_law_names_here"] (spPairs K))
  (c_is_name : Cal P w K mg base 1 "is_name" ["value"] (spB K Tr.name)) (c_is_symbol : Cal P w K mg base 2 "is_symbol" ["value"] (spB K Tr.sym)) (c_is_values : Cal P w K mg base 4 "is_values" ["value"] (spB K Tr.vals))
  (c__law_is_name : Cal P w K mg base 1 "_law_is_name" ["_law_thing"] (spB K Tr.name)) (c__law_is_symbol : Cal P w K mg base 2 "_law_is_symbol" ["_law_thing"] (spB K Tr.sym)) (c__law_is_values : Cal P w K mg base 3 "_law_is_values" ["_law_thing"] (spB K Tr.vals))
include c__law_roll c__law_names c__law_bent c__law_odd c__law_pairs c_is_name c_is_symbol c_is_values c__law_is_name c__law_is_symbol c__law_is_values
theorem ok_law_right {f : Addr} {fd : FuncData} (F : Fun K "_law_right" "_law_right" s__law_right f fd) (T : Ta mg) : FnG P w K mg base 5 f fd ["_law_heap_here"] spRight := by
  refine okG F sc__law_right (fun vs H Q E h => ?_) (fun cdv A outer s H vs Q hr h => ?_)
  · obtain ⟨a, rfl, _⟩ := h
    rfl
  · obtain ⟨a, rfl, ha, k⟩ := h
    refine ⟨_, (pss_cons (ps_set (i := 1) sc__law_right.nd rfl (by first | exact .inl rfl | exact .inr rfl) (pe_c c__law_names hr (by decide) rfl (pa_cons (pv 0) (pa_cons (pe_op op_add pe_int (pe_c c__law_roll hr (by decide) rfl (pa_cons (pv 0) (pa_cons pe_int pa_nil)))) pa_nil))))
  (pss_cons (ps_set (i := 2) sc__law_right.nd rfl (by first | exact .inl rfl | exact .inr rfl) (pe_op op_catS (pe_op op_catS (pv 1) (pe_lc (own := [("_law_name_here", 3)]) (g := gName 3) (tt := tYes) rfl sc__law_right.nd (pi_list (pv 1)) (blkOk_by (own := [("_law_name_here", 3)]) (N := n__law_right) (sc := defScope s__law_right) (by decide +kernel)) (fun _ _ _ _ _ => pg_name (i := 3) sc__law_right.nd rfl (Or.inl rfl)) (fun _ _ _ _ _ => pts_nil) (fun _ _ _ _ _ => (pe_c c__law_bent hr (by decide) rfl (pa_cons (pv 0) (pa_cons (pv 3) pa_nil)))))) (pe_lstS (pa_cons (pe_c c__law_odd hr (by decide) rfl (pa_cons (pv 0) (pa_cons (pe_ix ix_list (pv 1) pe_int (fun _ _ => rfl)) pa_nil))) (pa_cons (pe_c c__law_odd hr (by decide) rfl (pa_cons (pv 0) (pa_cons (pe_ix ix_list (pv 1) pe_int (fun _ _ => rfl)) pa_nil))) pa_nil)))))
  (pss_cons (ps_set (i := 2) sc__law_right.nd rfl (by first | exact .inl rfl | exact .inr rfl) (pe_op op_catS (pe_op op_catS (pv 2) (pe_lc (own := [("_law_turn", 4)]) (g := gName 4) (tt := tYes) rfl sc__law_right.nd (pi_range1 rfl T.b_range (pa_cons pe_int pa_nil)) (blkOk_by (own := [("_law_turn", 4)]) (N := n__law_right) (sc := defScope s__law_right) (by decide +kernel)) (fun _ _ _ _ _ => pg_name (i := 4) sc__law_right.nd rfl (Or.inl rfl)) (fun _ _ _ _ _ => pts_nil) (fun _ _ _ _ _ => (pe_c c__law_pairs hr (by decide) rfl (pa_cons (pv 0) (pa_cons (pv 1) pa_nil)))))) (pe_lstS (pa_cons pe_str (pa_cons pe_str (pa_cons pe_str (pa_cons (pe_tupS pa_nil) (pa_cons (pe_op op_mulStr pe_str pe_int) pa_nil))))))))
  (pss_cons (ps_for PassesOwn.never rfl (pi_list (pe_op op_catS (pv 2) (pe_revL (pv 2)))) (pg_name (i := 5) sc__law_right.nd rfl (by first | exact .inl rfl | exact .inr rfl))
    (pss_cons (ps_set (i := 6) sc__law_right.nd rfl (by first | exact .inl rfl | exact .inr rfl) (pe_lstS (pa_cons (pe_c c_is_name hr (by decide) rfl (pa_cons (pv 5) pa_nil)) (pa_cons (pe_ck c_is_name hr (by decide) rfl rfl (pk_cons (pv 5) pk_nil)) (pa_cons (pe_c c_is_symbol hr (by decide) rfl (pa_cons (pv 5) pa_nil)) (pa_cons (pe_ck c_is_symbol hr (by decide) rfl rfl (pk_cons (pv 5) pk_nil)) pa_nil))))))
  (pss_cons (ps_set (i := 6) sc__law_right.nd rfl (by first | exact .inl rfl | exact .inr rfl) (pe_op op_catS (pv 6) (pe_lstS (pa_cons (pe_c c_is_values hr (by decide) rfl (pa_cons (pv 5) pa_nil)) (pa_cons (pe_ck c_is_values hr (by decide) rfl rfl (pk_cons (pv 5) pk_nil)) pa_nil)))))
  (pss_cons (ps_set (i := 7) sc__law_right.nd rfl (by first | exact .inl rfl | exact .inr rfl) (pe_lstS (pa_cons (pe_c c__law_is_name hr (by decide) rfl (pa_cons (pv 5) pa_nil)) (pa_cons (pe_c c__law_is_symbol hr (by decide) rfl (pa_cons (pv 5) pa_nil)) (pa_cons (pe_c c__law_is_values hr (by decide) rfl (pa_cons (pv 5) pa_nil)) pa_nil)))))
  (pss_one (ps_if (pt_cmpR op_ne (pe_callB (call_repr hr) (by rfl) T.b_repr (by decide +kernel) (pa_cons (pv 6) pa_nil)) (pe_callB (call_repr hr) (by rfl) T.b_repr (by decide +kernel) (pa_cons (pe_lstS (pa_cons (pe_ix ix_list (pv 7) pe_int (fun _ _ => rfl)) (pa_cons (pe_ix ix_list (pv 7) pe_int (fun _ _ => rfl)) (pa_cons (pe_ix ix_list (pv 7) pe_int (fun _ _ => rfl)) (pa_cons (pe_ix ix_list (pv 7) pe_int (fun _ _ => rfl)) (pa_cons (pe_ix ix_list (pv 7) pe_int (fun _ _ => rfl)) (pa_cons (pe_ix ix_list (pv 7) pe_int (fun _ _ => rfl)) pa_nil))))))) pa_nil)) (nomark _))
    (pss_one (ps_ret pe_bl))
    pss_nil))))))
  (pss_one (ps_ret pe_bl)))))), ?_⟩
    have big : ∀ {n : Nat}, n ≤ 200 → n ≤ sizeLine := fun h => Nat.le_trans h (by decide)
    refine ⟨_, rfl, _, rfl, a, 4, rfl, ha, by decide, by decide, fun r r0 r1 => ⟨_, _, rfl, rfl, a, 1 + r, rfl, ha, by omega, by omega, fun zs p H1 lz oz s1 np hp => ?_⟩⟩
    obtain ⟨z0, zr, hz0⟩ : ∃ z0 zr, zs = z0 :: zr := by
      cases zs with
      | nil => exact absurd lz (by simp; omega)
      | cons x y => exact ⟨x, y, rfl⟩
    have oz0 : OkS 8 z0 := oz z0 (by rw [hz0]; exact List.mem_cons_self)
    have at0 : atI (zs.map V.str) 0 = some (.str z0) := by
      rw [hz0]
      exact atI_nat (j := 0) rfl
    have l4 : zs.length ≤ 4 := by omega
    have l1 : 1 ≤ zs.length := by omega
    have ha1 := s1 _ _ ha
    have ez : ∀ {H'}, El K H' (zs.map V.str) := fun {H'} y hy => by
      obtain ⟨z, hz, rfl⟩ := List.mem_map.mp hy
      exact ⟨_, .str z (by have := (oz z hz).len; omega)⟩
    refine ⟨_, rfl, _, rfl, p, rfl, ⟨_, SqL.of hp⟩, fun D hD => lc_tr (K := K) walk_list (by rw [List.length_map]; omega) hD (fun H' s' => SqL.of (s' _ _ hp)) (fun i x H2 H3 Q' hi s2 y kq => ?_) fun H2 BL s2 dB lB eB => ?_⟩
    · obtain ⟨rfl, hx⟩ := y
      obtain ⟨z, hz, rfl⟩ := List.mem_map.mp (List.mem_of_getElem? hx)
      exact ⟨rfl, _, rfl, _, rfl, a, z, rfl, s2 _ _ ha1, oz z hz, fun z' H4 oz' s4 => kq _ _ H4 s4 (.str z' (by have := oz'.len; omega))⟩
    rw [List.length_map] at lB
    refine ⟨p, D, _, _, rfl, rfl, s2 _ _ hp, dB, big (by rw [List.length_map]; omega), fun p3 H3 n3 s3 h3 => ?_⟩
    have hp3 := s3 _ _ (s2 _ _ hp)
    have ha3 := s3 _ _ (s2 _ _ ha1)
    refine ⟨_, rfl, _, rfl, p, _, 0, _, rfl, rfl, SqL.of hp3, at0, a, z0, rfl, ha3, oz0, fun v1 t1 H4 T1 s4 => ⟨_, rfl, _, rfl, p, _, 0, _, rfl, rfl, SqL.of (s4 _ _ hp3), at0, a, z0, rfl, s4 _ _ ha3, oz0, fun v2 t2 H5 T2 s5 => ⟨big (by simp), fun p6 H6 n6 s6 h6 => ?_⟩⟩⟩
    refine ⟨p3, p6, _, _, rfl, rfl, ((s4.trans s5).trans s6) _ _ h3, h6, big (by simp; omega), fun p7 H7 n7 s7 h7 => ?_⟩
    have u7 : Same H3 H7 := ((s4.trans s5).trans s6).trans s7
    have e7 : El K H7 ((zs.map V.str ++ BL) ++ [v1, v2]) := El.add (El.add ez ((eB.same s3).same u7)) (El.cons (T1.same ((s5.trans s6).trans s7)) (El.cons (T2.same (s6.trans s7)) El.nil))
    have ha7 := u7 _ _ ha3
    have hp7 := u7 _ _ hp3
    have c7 : ((zs.map V.str ++ BL) ++ [v1, v2]).length ≤ 10 := by simp; omega
    generalize (zs.map V.str ++ BL) ++ [v1, v2] = TL at e7 h7 c7
    refine ⟨_, rfl, 4, rfl, by decide, by decide, fun D2 hD2 => lc_tr (K := K) (walk_range (lo := 0) (n := 4)) (by decide) hD2 (fun _ _ => True.intro) (fun i x H8 H9 Q' hi s8 y kq => ?_) fun H8 PL s8 dP lP eP => ?_⟩
    · obtain ⟨rfl, rfl⟩ := y
      exact ⟨rfl, _, rfl, _, rfl, a, p, zs, rfl, s8 _ _ ha7, s8 _ _ hp7, l1, l4, oz, fun v t H10 T s => kq v t H10 s T⟩
    refine ⟨p7, D2, _, _, rfl, rfl, s8 _ _ h7, dP, big (by omega), fun p9 H9 n9 s9 h9 => ?_⟩
    refine ⟨big (by simp), fun p10 H10 n10 s10 h10 => ⟨"a", 9, rfl, rfl, ⟨by decide, fun _ _ => by decide, fun _ _ => by decide⟩, big (by simp), fun p11 H11 n11 s11 h11 => ?_⟩⟩
    refine ⟨p9, p11, _, _, rfl, rfl, (s10.trans s11) _ _ h9, h11, big (by simp; omega), fun p12 H12 n12 s12 h12 => ?_⟩
    have u12 : Same H9 H12 := (s10.trans s11).trans s12
    have e12 : El K H12 ((TL ++ PL) ++ [.str "view", .str "views", .str "@", .ref p10, .str (Txt.mul "a" 9)]) := El.add (El.add (((e7.same s8).same s9).same u12) ((eP.same s9).same u12))
      (El.cons (.str _ (by decide +kernel)) (El.cons (.str _ (by decide +kernel)) (El.cons (.str _ (by decide +kernel)) (El.cons (.tup ((s11.trans s12) _ _ h10) (by simp) .nil) (El.cons (.str _ (by decide +kernel)) El.nil)))))
    have c12 : ((TL ++ PL) ++ [V.str "view", V.str "views", V.str "@", V.ref p10, V.str (Txt.mul "a" 9)]).length ≤ 40 := by simp; omega
    have h12 : H12 p12 = some (.lst ((TL ++ PL) ++ [.str "view", .str "views", .str "@", .ref p10, .str (Txt.mul "a" 9)])) := h12
    generalize (TL ++ PL) ++ [V.str "view", V.str "views", V.str "@", V.ref p10, V.str (Txt.mul "a" 9)] = WL at e12 h12 c12
    have t12 : Same H H12 := ((((s1.trans s2).trans s3).trans u7).trans (s8.trans s9)).trans u12
    refine ⟨_, rfl, _, rfl, p12, WL, rfl, SqL.of h12, fun pr hpr => ?_⟩
    have s13 : Same H12 (upd H12 pr (.lst WL.reverse)) := Same.new hpr
    have h13 : upd H12 pr (.lst WL.reverse) pr = some (.lst WL.reverse) := upd_same
    generalize upd H12 pr (.lst WL.reverse) = H13 at s13 h13 ⊢
    refine ⟨p12, pr, _, _, rfl, rfl, s13 _ _ h12, h13, big (by rw [List.length_reverse]; omega), fun p14 H14 n14 s14 h14 => ?_⟩
    have e14 : El K H14 (WL ++ WL.reverse) := (El.add e12 e12.rev).same (s13.trans s14)
    have t14 : Same H H14 := (t12.trans s13).trans s14
    refine ⟨p14, rfl, ⟨_, SqL.of h14⟩, for_list (K := K) (a := p14) (xs := WL ++ WL.reverse) (fun i σ H' => (∃ x3 x4 x5 x6 x7, σ = [some (.ref a), some (.ref p), some (.ref p12), x3, x4, x5, x6, x7]) ∧ Same H14 H') ⟨⟨_, _, _, _, _, rfl⟩, Same.refl _⟩ (fun i σ H' _ ⟨_, s'⟩ => SqL.of (s' _ _ h14)) ?_ fun σ H' ⟨_, s'⟩ => k H' (t14.trans s')⟩
    rintro i v σ G0 hi ⟨⟨x3, x4, x5, x6, x7, rfl⟩, sG⟩
    obtain ⟨t, ht⟩ := e14 v (List.mem_of_getElem? hi)
    have ht := ht.same sG
    clear e12 e7 eB eP h9 h11 h10 h7 h3 h6 dB dP e14
    refine ⟨_, rfl, v, t, rfl, ht, fun G1 g1 => ⟨_, rfl, v, t, rfl, ht.same g1, fun G2 g2 => ⟨_, rfl, v, t, rfl, ht.same (g1.trans g2), fun G3 g3 => ⟨_, rfl, v, t, rfl, ht.same ((g1.trans g2).trans g3), fun G4 g4 => ?_⟩⟩⟩⟩
    have w4 : Same G0 G4 := ((g1.trans g2).trans g3).trans g4
    refine ⟨big (by simp), fun q1 J1 m1 j1 k1 => ?_⟩
    have ht1 := ht.same (w4.trans j1)
    refine ⟨_, rfl, _, rfl, v, t, rfl, ht1, fun G5 g5 => ⟨_, rfl, v, t, rfl, ht1.same g5, fun G6 g6 => ⟨big (by simp), fun q2 J2 m2 j2 k2 => ?_⟩⟩⟩
    refine ⟨q1, q2, _, _, rfl, rfl, ((g5.trans g6).trans j2) _ _ k1, k2, big (by simp), fun q3 J3 m3 j3 k3 => ?_⟩
    have w3 : Same J1 J3 := ((g5.trans g6).trans j2).trans j3
    have ht3 := ht1.same w3
    refine ⟨_, rfl, v, t, rfl, ht3, fun G7 g7 => ⟨_, rfl, v, t, rfl, ht3.same g7, fun G8 g8 => ⟨_, rfl, v, t, rfl, ht3.same (g7.trans g8), fun G9 g9 => ⟨big (by simp), fun q4 J4 m4 j4 k4 => ?_⟩⟩⟩⟩
    have w9 : Same J3 J4 := ((g7.trans g8).trans g9).trans j4
    have k3' : J4 q3 = some (.lst ([t.name, t.name, t.sym, t.sym, t.vals, t.vals].map V.bl)) := w9 _ _ k3
    obtain ⟨r1', r2', r3', r4'⟩ := rep6 t.name t.sym t.vals _ rfl
    refine ⟨_, rfl, q3, _, rfl, .lst (SqL.of k3') (dp_bools _), r1', r2', r3', r4', ?_⟩
    refine ⟨_, rfl, q4, _, 0, _, rfl, rfl, SqL.of k4, rfl, _, rfl, q4, _, 0, _, rfl, rfl, SqL.of k4, rfl, _, rfl, q4, _, 1, _, rfl, rfl, SqL.of k4, rfl, _, rfl, q4, _, 1, _, rfl, rfl, SqL.of k4, rfl, _, rfl, q4, _, 2, _, rfl, rfl, SqL.of k4, rfl, _, rfl, q4, _, 2, _, rfl, rfl, SqL.of k4, rfl, ?_⟩
    refine ⟨big (by simp), fun q5 J5 m5 j5 k5 => ?_⟩
    have k5 : J5 q5 = some (.lst ([t.name, t.name, t.sym, t.sym, t.vals, t.vals].map V.bl)) := k5
    refine ⟨q5, _, rfl, .lst (SqL.of k5) (dp_bools _), r1', r2', r3', r4', rfl, _, rfl, ?_⟩
    rw [decide_eq_true rfl]
    exact iteF ⟨⟨_, _, _, _, _, rfl⟩, ((((sG.trans w4).trans j1).trans w3).trans w9).trans j5⟩
end
section
variable {P : Program} {w : World} {K : PySem.W.Frag} {mg : Str → Option Value} {base : Heap}
theorem ok_law {f : Addr} {fd : FuncData} (F : Fun K "law" "law" s_law f fd) (T : Ta mg) (c__law_cell : Cal P w K mg base 1 "_law_cell" ["_law_script", "_law_k"] (spCellI K)) (c__law_heap : Cal P w K mg base 1 "_law_heap" ["_law_number"] spHeap)
    (c__law_right : Cal P w K mg base 5 "_law_right" ["_law_heap_here"] spRight) : FnG P w K mg base 6 f fd ["_law_script"] (spLaw K) := by
  refine okG F sc_law (fun vs H Q E h => ?_) (fun cdv A outer s H vs Q hr h => ?_)
  · obtain ⟨a, ns, rfl, _⟩ := h
    rfl
  · obtain ⟨a, ns, rfl, hS, hl, k⟩ := h
    refine ⟨_, (pss_cons (ps_for PassesOwn.never rfl (pi_range1 rfl T.b_range (pa_cons (pe_callB (call_max2 rfl) (by rfl) T.b_max (by decide +kernel) (pa_cons pe_int (pa_cons (pe_callB (call_min2 rfl) (by rfl) T.b_min (by decide +kernel) (pa_cons (pe_callB call_len_seq (by rfl) T.b_len (by decide +kernel) (pa_cons (pv 0) pa_nil)) (pa_cons pe_int pa_nil))) pa_nil))) pa_nil)) (pg_name (i := 1) sc_law.nd rfl (by first | exact .inl rfl | exact .inr rfl))
    (pss_cons (ps_set (i := 2) sc_law.nd rfl (by first | exact .inl rfl | exact .inr rfl) (pe_c c__law_heap hr (by decide) rfl (pa_cons (pe_c c__law_cell hr (by decide) rfl (pa_cons (pv 0) (pa_cons (pv 1) pa_nil))) pa_nil)))
  (pss_one (ps_if (pt_not (pt_val (pe_callB (cr_all (by rfl)) (by rfl) T.b_all (by decide +kernel) (pa_cons (pe_lc (own := [("_law_turn", 3)]) (g := gName 3) (tt := tYes) rfl sc_law.nd (pi_range1 rfl T.b_range (pa_cons pe_int pa_nil)) (blkOk_by (own := [("_law_turn", 3)]) (N := n_law) (sc := defScope s_law) (by decide +kernel)) (fun _ _ _ _ _ => pg_name (i := 3) sc_law.nd rfl (Or.inl rfl)) (fun _ _ _ _ _ => pts_nil) (fun _ _ _ _ _ => (pe_c c__law_right hr (by decide) rfl (pa_cons (pv 2) pa_nil)))) pa_nil))))
    (pss_one (ps_ret pe_bl))
    pss_nil))))
  (pss_one (ps_ret pe_bl))), ?_⟩
    refine ⟨_, rfl, a, _, rfl, .inl hS, _, _, rfl, _, _, rfl, ?_⟩
    rw [List.length_map]
    generalize hN : (if (if (6 : Int) < (ns.length : Int) then (6 : Int) else (ns.length : Int)) > 2 then (if (6 : Int) < (ns.length : Int) then (6 : Int) else (ns.length : Int)) else (2 : Int)) = N
    have hN0 : 2 ≤ N ∧ N ≤ 6 := by
      rw [← hN]
      split <;> split <;> omega
    refine ⟨N, rfl, by omega, by omega, for_range (lo := 0) (n := N.toNat) (fun i σ H' => (∃ v1 v2 v3, σ = [some (.ref a), v1, v2, v3]) ∧ Same H H') ⟨⟨_, _, _, rfl⟩, Same.refl _⟩ ?_ fun σ H' _ => k H'⟩
    rintro i σ H4 hi ⟨⟨v1, v2, v3, rfl⟩, s4⟩
    refine ⟨_, rfl, _, rfl, a, ns, _, rfl, s4.seq hS, hl, by omega, by omega, fun z H5 s5 => ?_⟩
    refine ⟨z, rfl, fun hp nhp => ?_⟩
    have s6 : Same H5 (upd H5 hp (DrawO hp)) := Same.new nhp
    have h6 : (upd H5 hp (DrawO hp)) hp = some (DrawO hp) := upd_same
    generalize upd H5 hp (DrawO hp) = H6 at s6 h6 ⊢
    refine ⟨3, rfl, by decide, by decide, fun D hD => lc_fn (walk_range (lo := 0) (n := 3)) (fun _ => .bl true) (by decide) hD (fun _ _ => True.intro) (fun j x H7 H8 Q' hj s7 y kq => ?_) fun H7 s7 d => ?_⟩
    · obtain ⟨rfl, rfl⟩ := y
      exact ⟨rfl, _, rfl, hp, rfl, s7 _ _ h6, fun H9 s9 => kq H9 s9⟩
    · refine ⟨D, [true, true, true], rfl, SqL.of d, _, rfl, iteF ⟨⟨_, _, _, rfl⟩, ((s4.trans s5).trans s6).trans s7⟩⟩
end
end Lw

/-! ## LwE -/
set_option maxHeartbeats 4000000
namespace PySem
namespace LwX
open Builtin Builtin.ObjectAttr HandSPX
/-- own classes, then the tail -/
def refsT (tl : List Value) : List Value → Bool
  | .ref _ :: r => refsT tl r
  | l => l == tl
theorem refsT_cases {tl : List Value} : ∀ l : List Value, refsT tl l = true → (∃ c r, l = .ref c :: r ∧ refsT tl r = true) ∨ l = tl
  | [], e => .inr (beq_iff_eq.mp e)
  | .ref c :: r, e => .inl ⟨c, r, rfl, e⟩
  | .none :: _, e => .inr (beq_iff_eq.mp e)
  | .ellipsis :: _, e => .inr (beq_iff_eq.mp e)
  | .notImplemented :: _, e => .inr (beq_iff_eq.mp e)
  | .bool _ :: _, e => .inr (beq_iff_eq.mp e)
  | .int _ _ :: _, e => .inr (beq_iff_eq.mp e)
  | .float _ _ :: _, e => .inr (beq_iff_eq.mp e)
  | .str _ _ :: _, e => .inr (beq_iff_eq.mp e)
  | .bytes _ _ :: _, e => .inr (beq_iff_eq.mp e)
  | .type _ :: _, e => .inr (beq_iff_eq.mp e)
  | .builtin _ :: _, e => .inr (beq_iff_eq.mp e)
structure TailOk (tl : List Value) : Prop where
  passes : ∀ self : Value, refuseLoop self "__setattr__" tl = pure ()
  ne : tl ≠ []
  obj : tl.contains (.type "object") = true
abbrev tailOf (B : String) : List Value := [.type B, .type "Exception", .type "BaseException", .type "object"]
theorem tail_ValueError : TailOk (tailOf "ValueError") := ⟨fun self => by kernel_rfl, by simp, by decide +kernel⟩
theorem tail_LookupError : TailOk (tailOf "LookupError") := ⟨fun self => by kernel_rfl, by simp, by decide +kernel⟩
theorem tail_RuntimeError : TailOk (tailOf "RuntimeError") := ⟨fun self => by kernel_rfl, by simp, by decide +kernel⟩
theorem tail_ArithmeticError : TailOk (tailOf "ArithmeticError") := ⟨fun self => by kernel_rfl, by simp, by decide +kernel⟩
section
variable {tl : List Value}
theorem refsT_pass (K : TailOk tl) (self : Value) : ∀ l : List Value, refsT tl l = true → refuseLoop self "__setattr__" l = pure () := by
  intro l
  induction l with
  | nil =>
    intro e
    rcases refsT_cases [] e with ⟨c, r', q, h⟩ | q
    · cases q
    · exact absurd q.symm K.ne
  | cons a r ih =>
    intro e
    rcases refsT_cases (a :: r) e with ⟨c, r', q, h⟩ | q
    · obtain ⟨rfl, rfl⟩ := List.cons.inj q
      rw [refuseLoop_ref]; exact ih h
    · rw [q]; exact K.passes self
theorem refsT_contains (K : TailOk tl) (X : String) : ∀ l : List Value, refsT tl l = true → l.contains (.type X) = tl.contains (.type X) := by
  intro l
  induction l with
  | nil =>
    intro e
    rcases refsT_cases [] e with ⟨c, r', q, h⟩ | q
    · cases q
    · exact absurd q.symm K.ne
  | cons a r ih =>
    intro e
    rcases refsT_cases (a :: r) e with ⟨c, r', q, h⟩ | q
    · obtain ⟨rfl, rfl⟩ := List.cons.inj q
      rw [List.contains_cons, ih h]; rfl
    · rw [q]
theorem refsT_ne (K : TailOk tl) {l : List Value} (e : refsT tl l = true) : l.isEmpty = false := by
  cases l with
  | nil =>
    rcases refsT_cases [] e with ⟨c, r', q, h⟩ | q
    · cases q
    · exact absurd q.symm K.ne
  | cons _ _ => rfl
end
section
variable {M : Model} {A : Around} {E : Value → Shared → Prop} {h : Heap} {g : Array GenState} {d : Drawn} {t : Nat} {os : OsState}
variable {nm q : Str} {C N : Addr} {bs bm bmB : List Value} {hdct : Bool} {sn : List Str} {sub : List Value} {ab : Bool} {col : Option Bool} {dd : Option Addr} {k0 k1 k2 k3 k5 : Option Value} {B newId initId : String}

theorem check_new_ownK (F : ExcBaseFacts B newId initId bmB) (hT : ∀ X : String, bm.contains (.type X) = bmB.contains (.type X)) {rest : List Value} {kw : List (Str × Value)} {Q : Unit → Shared → Prop}
    (hC : h.get? C = some (excClassObj nm q C N bs bm hdct sn sub ab col dd k0 k1 k2 k3 k5 newId)) (hq : Q () ⟨h, g, d, t, os⟩) : wpAny M A (checkBuiltinCall newId ⟨.ref C :: rest, kw⟩) Q E ⟨h, g, d, t, os⟩ := by
  have hcont : (Value.ref C :: bm).contains (.type B) = true := by rw [List.contains_cons, hT, F.hasB, Bool.or_true]
  have hstar := F.noStar
  simp only [checkBuiltinCall, F.newKind, F.newSplit, F.newRow]
  repeat (first | refine wpAny_loadPart_at hC ?_ | (refine wpAny_isSubtype_exc hC ?_; rw [hcont]) | refine wpAny_staticBase_exc hC ?_ | refine wpAny_madeBy_exc hC ?_ | simp only [bne_self_eq_false, Bool.false_eq_true, if_false] | wp_step)
  exact hq
end
section
variable {prog : Program} {w : World} {A : Around} {E : Value → Shared → Prop} {R : Result → Shared → Prop} {h : Heap} {g : Array GenState} {d : Drawn} {t : Nat} {os : OsState}
variable {nm q : Str} {C N : Addr} {bs bm bmB : List Value} {hdct : Bool} {sn : List Str} {sub : List Value} {ab : Bool} {col : Option Bool} {dd : Option Addr} {k0 k1 k2 k3 k5 : Option Value} {B newId initId : String}

theorem new_ownK (F : ExcBaseFacts B newId initId bmB) (hT : ∀ X : String, bm.contains (.type X) = bmB.contains (.type X)) {rest : List Value} {kw : List (Str × Value)}
    (hC : h.get? C = some (excClassObj nm q C N bs bm hdct sn sub ab col dd k0 k1 k2 k3 k5 newId))
    (hq : R (.ok (.ret (.ref (h.objs.size + 1)))) ⟨(h.push { cls := .type "tuple", data := .seq rest.toArray }).push
      { cls := .ref C, data := .fields #[.ref h.objs.size, .none, .none, .none, .bool false, .none] }, g, d, t, os⟩) (hrest : rest.length ≤ sizeLine) :
    codeAny (model prog w) A (.builtin newId ⟨.ref C :: rest, kw⟩) R ⟨h, g, d, t, os⟩ := by
  have hends := F.ends
  have hcB : (Value.ref C :: bm).contains (.type B) = true := by rw [List.contains_cons, hT, F.hasB, Bool.or_true]
  have hcA : (Value.ref C :: bm).contains (.type "AttributeError") = false := by rw [List.contains_cons, hT, F.noAttr]; rfl
  have hcN : (Value.ref C :: bm).contains (.type "NameError") = false := by rw [List.contains_cons, hT, F.noName]; rfl
  refine codeAny_builtinAt F.entry ?_
  unfold Builtin.«BaseException.__new__»
  refine wpAt_bind ?_
  show wpAt _ _ _ (stack >>= _) _ _ _
  refine wpAt_bind (wpAt_stack fun p below => wpAt_of_wpAny ?_)
  wp_walk
  refine wpAt_of_wpAny ?_
  rw [F.owner]
  repeat (first | with_reducible refine wpAny_madeHere_exc F.canon hC ?_ | with_reducible refine wpAny_loadPart_at hC ?_ | (with_reducible refine wpAny_isSubtype_exc hC ?_; first | rw [hcB] | rw [hcA] | rw [hcN]) | wp_step)
  show R _ _
  rw [Heap.size_push]
  exact hq

theorem type_call_ownK (F : ExcBaseFacts B newId initId bmB) (hT : ∀ X : String, bm.contains (.type X) = bmB.contains (.type X)) {rest : List Value} {kw : List (Str × Value)} {fI : Addr} {Q : Fin → Shared → Prop}
    (hC : h.get? C = some (excClassObj nm q C N bs bm hdct sn sub ab col dd k0 k1 k2 k3 k5 newId))
    (hi : W.Looks (model prog w) h (typeLookup (.ref C) "__init__") (some (.ref fI))) (hb : ∀ self, W.Looks (model prog w) h (bindSpecial (.ref fI) self) (.ref fI, [self])) (hrest : rest.length ≤ sizeLine)
    (hq : codeAny (model prog w) A (.call (.ref fI) ⟨.ref (h.objs.size + 1) :: rest, kw⟩)
      (fun r s' => match r with | .ok (.ret v) => v = .none ∧ Q (.done (.ret (.ref (h.objs.size + 1)))) s' | .ok _ => False | .error e => E e s')
      ⟨(h.push (W.kdv_tup rest)).push (excO C h.objs.size), g, d, t, os⟩) :
    wpAny (model prog w) A (Builtin.«type.__call__» ⟨.ref C :: rest, kw⟩) Q E ⟨h, g, d, t, os⟩ := by
  repeat (first | with_reducible refine wpAny_loadPart_at hC ?_ | with_reducible refine wpAny_madeBy_exc hC ?_ | wp_step)
  refine codeAny_call_builtin_code (Code.quiet_builtin _ F.quiet) (check_new_ownK F hT hC ?_)
  refine new_ownK F hT hC ?_ hrest
  show wpAny _ _ _ _ _ _
  have k : ∀ b o, h.get? b = some o → ((h.push (W.kdv_tup rest)).push (excO C h.objs.size)).get? b = some o := fun b o e => Heap.get?_push_of_some _ (Heap.get?_push_of_some _ e)
  have hC₁ := k _ _ hC
  have hget : ((h.push (W.kdv_tup rest)).push (excO C h.objs.size)).get? (h.objs.size + 1) = some (excO C h.objs.size) := by heap_get
  have hcC : (Value.ref C :: bm).contains (.ref C) = true := by simp
  have i1 := hi.keeps k
  have b1 := (hb (.ref (h.objs.size + 1))).keeps k
  unfold isInstance
  repeat (first | with_reducible refine wpAny_loadPart_at hget ?_ | (with_reducible refine wpAny_isSubtype_exc hC₁ ?_; rw [hcC]) | wp_step)
  show wpAny _ _ (typeLookup (.ref C) _) _ _ _
  refine i1.at ?_
  refine wpAny_holding (wpAny_bind (b1.at ?_))
  refine wpAny_bind (wpAny_call (codeAny_mono hq fun r s' z => ?_))
  rcases r with e | (v | _ | _ | _) <;> first | exact z | exact z.elim | skip
  obtain ⟨rfl, z⟩ := z
  first
    | exact wpAny_pure (wpAny_pure z)
    | (wp_walk; exact z)

theorem call_ownK (F : ExcBaseFacts B newId initId bmB) (hT : ∀ X : String, bm.contains (.type X) = bmB.contains (.type X)) {rest : List Value} {kw : List (Str × Value)} {fI : Addr}
    (hC : h.get? C = some (excClassObj nm q C N bs bm hdct sn sub ab col dd k0 k1 k2 k3 k5 newId))
    (hi : W.Looks (model prog w) h (typeLookup (.ref C) "__init__") (some (.ref fI))) (hb : ∀ self, W.Looks (model prog w) h (bindSpecial (.ref fI) self) (.ref fI, [self])) (hrest : rest.length ≤ sizeLine)
    (hq : codeAny (model prog w) (A.under (.builtin "type.__call__" ⟨.ref C :: rest, kw⟩)) (.call (.ref fI) ⟨.ref (h.objs.size + 1) :: rest, kw⟩) (W.InitBack (h.objs.size + 1) R)
      ⟨(h.push (W.kdv_tup rest)).push (excO C h.objs.size), g, d, t, os⟩) :
    codeAny (model prog w) A (.call (.ref C) ⟨rest, kw⟩) R ⟨h, g, d, t, os⟩ := by
  have f1 := tc_lookup
  have f2 := tc_bind (.ref C)
  have hTy : (⟨h, g, d, t, os⟩ : Shared).TypeIs (.ref C) "type" := ⟨_, hC, rfl⟩
  refine codeAny_of_tree ?_
  show wpAny _ _ (callAny (.ref C) _) _ _ _
  repeat (any_goals (first | assumption | with_reducible refine wpAny_loadPart_at hC ?_ | wp_step))
  refine ⟨rfl, ?_⟩
  refine codeAny_call_builtin_at (Code.quiet_builtin _ (by decide +kernel)) entry_typeCall (wpAny_check_type_call_sub hC (type_call_ownK F hT hC hi hb hrest ?_))
  refine codeAny_mono hq fun r s' z => ?_
  rcases r with e | (v | _ | _ | _) <;> exact z
end
end LwX
end PySem

/-! ## LwF -/
set_option maxHeartbeats 4000000
namespace PySem
namespace LwX
open PySem.W PySem.Calls PyProof.Rows PySem.HandSPX
section
open Builtin Builtin.ObjectAttr
variable {prog : Program} {w : World} {A : Around} {E : Value → Shared → Prop} {R : Result → Shared → Prop} {hp : Heap} {g : Array GenState} {d : Drawn} {t : Nat} {os : OsState} {tl : List Value}
theorem osa_newT {K : W.Frag} (KT : TailOk tl) {name : Str} {tk : Tok} {v : Value} {x C : Addr} {fv : Array Value} {cd : ClassData}
    (X : K.In hp) (hx : hp.get? x = some { cls := .ref C, data := .fields fv }) (hcd : W.clsIn K C = some cd) (hm : refsT tl cd.mro = true) (hh : cd.hasDict = true) (ha : W.findIn K (.ref C) name = some none)
    (hq : ∀ h' tk' dx, (∀ b o, b ≠ x → hp.get? b = some o → h'.get? b = some o) → hp.objs.size ≤ dx → dx ≠ x → h'.get? x = some { cls := .ref C, dict := some dx, data := .fields fv } →
      h'.Ns1 dx (fun y => if y = name then some v else none) → R (.ok (.ret .none)) ⟨h', g, d, tk', os⟩) :
    codeAny (model prog w) A (.call (.builtin "object.__setattr__") ⟨[.ref x, .str name tk, v], []⟩) R ⟨hp, g, d, t, os⟩ := by
  have I : W.InstAt hp x { cls := .ref C, data := .fields fv } C none := ⟨hx, rfl, rfl, trivial⟩
  have SF := F.store_object
  have ne := refsT_ne KT hm
  have hob : cd.mro.contains (.type "object") = true := (refsT_contains KT "object" _ hm).trans KT.obj
  have hxs : x ≠ hp.objs.size := Nat.ne_of_lt (Heap.lt_size hx)
  have sub : W.Looks (model prog w) hp (isInstance (.ref x) (.type "object")) true := I.type.andThen (W.looks_mroIn X (by unfold W.mroIn; rw [hcd, Option.bind_some, if_neg (by rw [ne]; decide), hob]))
  refine codeAny_call_builtin SF.slot.plain SF.entry (@W.check_slot (model prog w) _ _ ⟨hp, g, d, t, os⟩ "object.__setattr__" "object" "__setattr__" (.ref x) [.str name tk, v] [] _ SF.kind SF.split sub (SF.args (.ref x) (.str name tk) v) ?_)
  have hmr : W.Looks (model prog w) hp (mroOf (.ref C)) cd.mro := (W.looks_clsIn X hcd).andThen .now
  have L3 : W.Looks (model prog w) hp (storeTaker? none) none := .now
  have hcls : W.Looks (model prog w) hp (classData C) cd := W.looks_clsIn X hcd
  rw [W.osa_eq, refuse_eq]
  refine wpAny_bind (wpAny_bind (I.type.at (wpAny_bind (hmr.at ?_))))
  rw [refsT_pass KT _ _ hm]
  refine wpAny_pure (wpAny_bind (I.type.at (wpAny_bind ((W.looks_findIn X ha).at (wpAny_bind (L3.at ?_))))))
  show wpAny _ _ (storeInOwnDict (.ref x) (.ref C) (.str name tk) name v false) _ _ _
  obtain ⟨nm, bs, mro, ns, qn, hd, sn, sb, ab, col, del⟩ := cd
  dsimp only at hh
  subst hh
  unfold storeInOwnDict ownDictForStores
  repeat (first | with_reducible refine store_in_new ?_ ?_ | with_reducible refine wpAny_loadPart_at hx ?_ | with_reducible refine hcls.at ?_ | wp_step)
  · exact ⟨_, #[], _, (Heap.get?_update_ne _ _ _ _ hxs.symm).trans (Heap.get?_push_at rfl rfl), rfl, fun e he => absurd he (by simp), fun _ => rfl⟩
  · intro h' tk' hn' hs
    have hx₁ : (hp.push { cls := .type "dict", data := .dict #[] }).get? x = some { cls := .ref C, data := .fields fv } := Heap.get?_push_of_some _ hx
    refine hq h' tk' hp.objs.size (fun b o hb ho => ?_) (Nat.le_refl _) hxs.symm ?_ hn'
    · exact (hs.2 b (Nat.ne_of_lt (Heap.lt_size ho))).trans ((Heap.get?_update_ne _ _ _ _ hb).trans (Heap.get?_push_of_some _ ho))
    · exact (hs.2 x hxs).trans (Heap.get?_update_self _ hx₁ rfl)
theorem osa_oldT {K : W.Frag} (KT : TailOk tl) {name : Str} {tk : Tok} {v : Value} {x C dx : Addr} {fv : Array Value} {cd : ClassData} {m0 : Str → Option Value} {nl : List Str}
    (X : K.In hp) (hx : hp.get? x = some { cls := .ref C, dict := some dx, data := .fields fv }) (hns : hp.Ns1 dx m0) (hw : Within m0 nl) (hz : nl.length ≤ 1000) (hcd : W.clsIn K C = some cd) (hm : refsT tl cd.mro = true) (hh : cd.hasDict = true)
    (ha : W.findIn K (.ref C) name = some none)
    (hq : ∀ h' tk', (∀ b o, b ≠ dx → hp.get? b = some o → h'.get? b = some o) → h'.Ns1 dx (fun y => if y = name then some v else m0 y) → R (.ok (.ret .none)) ⟨h', g, d, tk', os⟩) :
    codeAny (model prog w) A (.call (.builtin "object.__setattr__") ⟨[.ref x, .str name tk, v], []⟩) R ⟨hp, g, d, t, os⟩ := by
  obtain ⟨oD, esD, epD, hoD, hdD, _⟩ := hns.count hw
  have I : W.InstAt hp x { cls := .ref C, dict := some dx, data := .fields fv } C (some oD) := ⟨hx, rfl, rfl, hoD⟩
  have SF := F.store_object
  have ne := refsT_ne KT hm
  have hob : cd.mro.contains (.type "object") = true := (refsT_contains KT "object" _ hm).trans KT.obj
  have sub : W.Looks (model prog w) hp (isInstance (.ref x) (.type "object")) true := I.type.andThen (W.looks_mroIn X (by unfold W.mroIn; rw [hcd, Option.bind_some, if_neg (by rw [ne]; decide), hob]))
  refine codeAny_call_builtin SF.slot.plain SF.entry (@W.check_slot (model prog w) _ _ ⟨hp, g, d, t, os⟩ "object.__setattr__" "object" "__setattr__" (.ref x) [.str name tk, v] [] _ SF.kind SF.split sub (SF.args (.ref x) (.str name tk) v) ?_)
  have hmr : W.Looks (model prog w) hp (mroOf (.ref C)) cd.mro := (W.looks_clsIn X hcd).andThen .now
  have L3 : W.Looks (model prog w) hp (storeTaker? none) none := .now
  have hcls : W.Looks (model prog w) hp (classData C) cd := W.looks_clsIn X hcd
  rw [W.osa_eq, refuse_eq]
  refine wpAny_bind (wpAny_bind (I.type.at (wpAny_bind (hmr.at ?_))))
  rw [refsT_pass KT _ _ hm]
  refine wpAny_pure (wpAny_bind (I.type.at (wpAny_bind ((W.looks_findIn X ha).at (wpAny_bind (L3.at ?_))))))
  show wpAny _ _ (storeInOwnDict (.ref x) (.ref C) (.str name tk) name v false) _ _ _
  obtain ⟨nm, bs, mro, ns, qn, hd, sn, sb, ab, col, del⟩ := cd
  dsimp only at hh
  subst hh
  unfold storeInOwnDict ownDictForStores
  repeat (first | with_reducible refine PySem.OEX.store_in_old hns hw hz ?_ | with_reducible refine wpAny_loadPart_at hx ?_ | with_reducible refine hcls.at ?_ | wp_step)
  intro h' tk' hn' hs
  exact hq h' tk' (fun b o hb ho => (hs.2 b hb).trans ho) hn'
end
end LwX
end PySem

namespace Lw
open PySem PySem.Spec PyProof.Rows L2
open PySem.LwX (refsT TailOk tailOf refsT_contains refsT_ne)
/-- an exception class of the program, over the built-in class B -/
structure EC (K : PySem.W.Frag) (B : String) (C : Addr) : Prop where
  tail : TailOk (tailOf B)
  cls : ∃ newId initId nm q N bs bm sn sub ab col dd k0 k1 k2 k3 k5, ExcBaseFacts B newId initId (tailOf B) ∧ K.lookup C = some (excClassObj nm q C N bs bm true sn sub ab col dd k0 k1 k2 k3 k5 newId) ∧ refsT (tailOf B) bm = true
  sa : PySem.W.findIn K (.ref C) "__setattr__" = some (some (.builtin "object.__setattr__"))
  ga : PySem.W.findIn K (.ref C) "__getattribute__" = some (some (.builtin "BaseException.__getattribute__"))
  gg : PySem.W.findIn K (.ref C) "__getattr__" = some none
  ca : PySem.W.findIn K (.ref C) "__class__" = some (some (.builtin "object.__class__"))
  kC : PySem.W.keepIn K (.ref C) = true
theorem EC.clsIn {K : PySem.W.Frag} {B : String} {C : Addr} (T : EC K B C) : ∃ cd bm, PySem.W.clsIn K C = some cd ∧ cd.mro = .ref C :: bm ∧ refsT (tailOf B) bm = true ∧ cd.hasDict = true := by
  obtain ⟨_, _, nm, q, N, bs, bm, sn, sub, ab, col, dd, k0, k1, k2, k3, k5, _, hC, hbm⟩ := T.cls
  exact ⟨{ name := nm, bases := bs, mro := .ref C :: bm, ns := N, qualname := q, hasDict := true, slotNames := sn, subclasses := sub, abstract := ab, collection := col, hasDel := false }, bm, by unfold PySem.W.clsIn; rw [hC] <;> rfl, rfl, hbm, rfl⟩
theorem EC.hasBase {K : PySem.W.Frag} {B : String} {C : Addr} (T : EC K B C) : (tailOf B).contains (.type "BaseException") = true := by
  obtain ⟨_, _, nm, q, N, bs, bm, sn, sub, ab, col, dd, k0, k1, k2, k3, k5, F, hC, hbm⟩ := T.cls
  exact F.hasBase
theorem EC.subT {K : PySem.W.Frag} {B : String} {C : Addr} (T : EC K B C) (n : String) : PySem.W.subIn K (.ref C) (.type n) = some ((tailOf B).contains (.type n)) := by
  obtain ⟨cd, bm, h1, h2, h3, h4⟩ := T.clsIn
  show (PySem.W.clsIn K C).bind _ = _
  rw [h1, Option.bind_some, h2, if_neg (by simp), List.contains_cons, refsT_contains T.tail n bm h3]
  rfl
theorem EC.hd {K : PySem.W.Frag} {B : String} {C : Addr} (T : EC K B C) : PySem.W.hasDictIn K C = true := by
  obtain ⟨cd, bm, h1, h2, h3, h4⟩ := T.clsIn
  unfold PySem.W.hasDictIn
  rw [h1]
  exact h4
theorem EC.isCls {K : PySem.W.Frag} {B : String} {C : Addr} (T : EC K B C) : (PySem.W.clsIn K C).isSome = true := by
  obtain ⟨cd, bm, h1, _⟩ := T.clsIn
  rw [h1] <;> rfl
theorem EC.self {K : PySem.W.Frag} {B : String} {C : Addr} (T : EC K B C) : PySem.W.subIn K (.ref C) (.ref C) = some true := by
  obtain ⟨cd, bm, h1, h2, h3, h4⟩ := T.clsIn
  show (PySem.W.clsIn K C).bind _ = _
  rw [h1, Option.bind_some, h2, if_neg (by simp), List.contains_cons]
  simp
/-- isinstance's answer: a class of the program -/
theorem EC.kit {K : PySem.W.Frag} {B B' : String} {C D : Addr} {b : Bool} (T : EC K B C) (T' : EC K B' D) (tD : PySem.W.typeIn K (.ref D) = some (.type "type")) (h : PySem.W.subIn K (.ref C) (.ref D) = some b) : PySem.W.kitOne K (.ref C) (.ref D) = some b := by
  unfold PySem.W.kitOne
  split
  · rename_i e
    have e' : C = D := Value.ref.inj (beq_iff_eq.mp e)
    subst e'
    rw [T.self] at h
    exact h
  · show (if ((PySem.W.clsIn K D).isSome && PySem.W.typeIn K (.ref D) == some (.type "type")) = true then PySem.W.subIn K (.ref C) (.ref D) else none) = some b
    rw [if_pos (by rw [T'.isCls, tD] <;> rfl)]
    exact h
/-- .. a built-in class -/
theorem EC.kitT {K : PySem.W.Frag} {B : String} {C : Addr} (T : EC K B C) (n : String) (hm : PySem.W.kitMeta n = true) : PySem.W.kitOne K (.ref C) (.type n) = some ((tailOf B).contains (.type n)) := by
  unfold PySem.W.kitOne
  rw [if_neg (by simp)]
  show (if PySem.W.kitMeta n = true then PySem.W.subIn K (.ref C) (.type n) else none) = _
  rw [if_pos hm]
  exact T.subT n
section
variable {X : Cx} {pins : List (Addr × Obj)} {σ : L2.St} {H : Hp} {s : Shared} {a C dx : Addr} {f : Str} {y : V} {u : Value} {fs : List (Str × V)} {Q : Unit → Shared → Prop} {E : Value → Shared → Prop} {A : Around} {B : String}
/-- self.f = y, the first one -/
theorem ost_newT (T : EC X.K B C) (I : Inv X pins σ H s) (e : H a = some (exo a C none)) (hno : PySem.W.findIn X.K (.ref C) f = some none) (ry : RelV y u)
    (h : ∀ dx s', H dx = none → dx ≠ a → Inv X pins σ (upd (upd H dx (exd dx [(f, y)])) a (exo a C (some dx))) s' → Q () s') : wpAny (model X.prog X.w) A (setAttr (.ref a) f u) Q E s := by
  obtain ⟨cd, bm, hcl, hmro, hbm, hdct⟩ := T.clsIn
  obtain ⟨t1, ho⟩ := exo_at I.hok e
  obtain ⟨hp, g, d, t, os⟩ := s
  refine PySem.W.set_plain I.kIn (ox := { cls := .ref C, dict := none, data := .fields #[.ref t1, .none, .none, .none, .bool false, .none] }) (od := none) ⟨ho, rfl, rfl, trivial⟩ T.sa ?_
  refine PySem.LwX.osa_newT T.tail I.kIn ho hcl (by rw [hmro]; exact hbm) hdct hno (fun h' tk' dx k dn dne hx hn => ?_)
  have hnd : H dx = none := I.hok.fresh dn
  have nd : ∀ {b : Addr} {o : Obj}, hp.get? b = some o → b ≠ dx := fun {b o} q => Nat.ne_of_lt (Nat.lt_of_lt_of_le (Heap.lt_size q) dn)
  have na : ∀ {b : Addr}, H b = none → b ≠ a := fun {b} n z => by
    rw [z, e] at n
    cases n
  have Un1 : Un X.fs [] H (upd (upd H dx (exd dx [(f, y)])) a (exo a C (some dx))) hp h' := {
    keep := fun b o q n _ _ => k b o (na n) q
    slot := fun b o q n _ _ => ⟨o.slots, k b o (na n) q⟩
    free := fun b o q n _ => by rw [upd_ne (na n), upd_ne (nd q)]; exact n
    there := fun b o q _ => by
      by_cases hb : b = a
      · exact ⟨_, by rw [hb]; exact hx⟩
      · exact ⟨o, k b o hb q⟩
    tups := fun b xs q => by rw [upd_ne (at_ne e q exo_tup), upd_ne (ne_of_none q hnd)]; exact q
    frzs := fun b o v q => by rw [upd_ne (at_ne e q exo_frz), upd_ne (ne_of_none q hnd)]; exact q
    tbls := fun b ps q => ⟨#[], by rw [upd_ne (at_ne e q exo_tbl), upd_ne (ne_of_none q hnd), q]; simp⟩ }
  refine h dx _ hnd dne (I.un (t' := tk') Un1 fun b o q => ?_)
  by_cases hb : b = a
  · subst hb
    rw [upd_same] at q
    cases q
    exact exo_ok hx
  · rw [upd_ne hb] at q
    by_cases hd : b = dx
    · subst hd
      rw [upd_same] at q
      cases q
      exact exd_ok hn (relO_put (fs := []) ry fun g => True.intro)
    · rw [upd_ne hd] at q
      exact (I.hok b o q).stay (fun c v hc z => k c v (by
          rcases hc with hc | hc
          · rw [hc]
            exact hb
          · exact at_ne e hc exo_own) z)
        (fun c hc => by rw [upd_ne (at_ne e hc exo_own), upd_ne (ne_of_none hc hnd)]; exact hc) (fun c xs hc => by rw [upd_ne (at_ne e hc exo_tup), upd_ne (ne_of_none hc hnd)]; exact hc)
/-- self.f = y, a further one -/
theorem ost_oldT (T : EC X.K B C) (I : Inv X pins σ H s) (e : H a = some (exo a C (some dx))) (ed : H dx = some (exd dx fs)) (hl : fs.length ≤ 900) (hno : PySem.W.findIn X.K (.ref C) f = some none) (ry : RelV y u)
    (h : ∀ s', Inv X pins σ (upd H dx (exd dx ((f, y) :: fs))) s' → Q () s') : wpAny (model X.prog X.w) A (setAttr (.ref a) f u) Q E s := by
  obtain ⟨cd, bm, hcl, hmro, hbm, hdct⟩ := T.clsIn
  obtain ⟨t1, ho⟩ := exo_at I.hok e
  obtain ⟨mA, hns, rel⟩ := exd_at I.hok ed
  have hw := within_of rel
  obtain ⟨hp, g, d, t, os⟩ := s
  obtain ⟨oD, _, _, hoD, _, _⟩ := hns.count hw
  refine PySem.W.set_plain I.kIn (ox := { cls := .ref C, dict := some dx, data := .fields #[.ref t1, .none, .none, .none, .bool false, .none] }) (od := some oD) ⟨ho, rfl, rfl, hoD⟩ T.sa ?_
  refine PySem.LwX.osa_oldT T.tail I.kIn ho hns hw (by rw [List.length_map]; omega) hcl (by rw [hmro]; exact hbm) hdct hno (fun h' tk' k hn => ?_)
  have hd : ∃ o, h'.get? dx = some o := by
    obtain ⟨o, _, _, e', _⟩ := hn
    exact ⟨o, e'⟩
  exact h _ (I.write (t' := tk') (x := dx) (e := dx) (o := exd dx ((f, y) :: fs)) (by rw [ed]; exact True.intro) (.inl rfl) k hd (exd_ok hn (relO_put ry rel)))
end
/-- self.f = e -/
def tOstT (K : PySem.W.Frag) (f : Str) (to te : TE) : TS := fun D σ H => te σ H fun y H1 => to σ H1 fun x H2 => ∃ (a C : Addr) (B : String), x = .ref a ∧ EC K B C ∧ PySem.W.findIn K (.ref C) f = some none ∧
  ((H2 a = some (exo a C none) ∧ ∀ dx, H2 dx = none → dx ≠ a → D.nx σ (upd (upd H2 dx (exd dx [(f, y)])) a (exo a C (some dx)))) ∨
    ∃ (dx : Addr) (fs : List (Str × V)), H2 a = some (exo a C (some dx)) ∧ H2 dx = some (exd dx fs) ∧ fs.length ≤ 900 ∧ D.nx σ (upd H2 dx (exd dx ((f, y) :: fs))))
theorem ps_ostT {X : Cx} {o e : Expr} {to te : TE} {f : Str} {p' pos : Pos} (ho : PE X o to) (he : PE X e te) (hs : swapsWith e (some (.Attribute o f p')) pos.line X.env = pure false := by rfl) : PS X (.Assign [.Attribute o f p'] e pos) (tOstT X.K f to te) := by
  refine ⟨fun pins s σ H D I h => ?_⟩
  refine plainObj_wpAny_Assign_Attribute (thn (he.run pins s σ H _ I h) fun v s1 ⟨y, H1, I1, r1, q1⟩ => thn (ho.run pins s1 σ H1 _ I1 q1) fun u s2 ⟨x, H2, I2, r2, a, C, B, ex, T, hno, q⟩ => ?_) hs
  subst ex
  obtain rfl : u = Value.ref a := r2
  rcases q with ⟨ea, q⟩ | ⟨dx, fs, ea, ed, hl, q⟩
  · exact ost_newT T I2 ea hno r1 fun dx s' n ne J => ⟨σ, _, J, q dx n ne⟩
  · exact ost_oldT T I2 ea ed hl hno r1 fun s' J => ⟨σ, _, J, q⟩

/-! ### an exception as a value -/
/-- an exception of the class at C, not raised, its fields fs -/
def ErrAt (H : Hp) (x : V) (C : Addr) (fs : List (Str × V)) : Prop := ∃ a d, x = .ref a ∧ H a = some (exo a C (some d)) ∧ H d = some (exd d fs)
theorem ErrAt.same {H H' : Hp} {x : V} {C : Addr} {fs : List (Str × V)} (h : ErrAt H x C fs) (s : Same H H') : ErrAt H' x C fs := by
  obtain ⟨a, d, e, h1, h2⟩ := h
  exact ⟨a, d, e, s _ _ h1, s _ _ h2⟩
/-- one without fields -/
def Err0At (H : Hp) (x : V) (C : Addr) : Prop := ∃ a, x = .ref a ∧ H a = some (ExO (.ref C) a)
/-- some exception -/
def AnyErr (H : Hp) (x : V) (C : Addr) : Prop := (∃ fs, ErrAt H x C fs) ∨ Err0At H x C
/-- X(..), its own __init__ keeping sp; gV: the values and the keywords' values in the parameters' order -/
def tMkE (C : Addr) (sp : Sp) (n m : Nat) (gV : List V → List V → List V) (t tk : TA) : TE := fun σ H Q => t σ H fun vs H1 => tk σ H1 fun zs H2 => vs.length = n ∧ zs.length = m ∧ ∀ a, H2 a = none →
  sp (gV (.ref a :: vs) zs) (upd H2 a (exo a C none)) (fun v H3 => v = .non ∧ Q (.ref a) H3) E0
section
variable {X : Cx} {k n : Nat} {fI C : Addr} {fd : FuncData} {ps ks : List Str} {sp : Sp} {x : Str} {p pos : Pos} {e : Expr} {es : List Expr} {kws : List Keyword} {t tk : TA} {g : List Value → List Value → List Value} {gV : List V → List V → List V} {B : String}
theorem run_mkE {pins : List (Addr × Obj)} {σ : L2.St} {H : Hp} {s : Shared} {Q : VK} {us ws : List Value} {vs zs : List V} (T : EC X.K B C) (iC : PySem.W.findIn X.K (.ref C) "__init__" = some (some (.ref fI))) (tI : PySem.W.typeIn X.K (.ref fI) = some (.type "function"))
    (F : FnOk X.prog X.w X.K X.mg X.base CX0 k fI fd ps sp) (hr : Room (k + 1) X.A) (hb : KBn X.K fd ps (n + 1) ks g gV)
    (I : Inv X pins σ H s) (r : Vals vs us) (rz : Vals zs ws) (l1 : vs.length = n) (l2 : zs.length = ks.length) (hn : n ≤ 1000)
    (h : ∀ a, H a = none → sp (gV (.ref a :: vs) zs) (upd H a (exo a C none)) (fun v H3 => v = .non ∧ Q (.ref a) H3) E0) :
    wpAny (model X.prog X.w) X.A (call (.ref C) us (ks.zip ws)) (EP X pins σ Q) X.xe s := by
  obtain ⟨newId, initId, nm, q, N, bs, bm, sn, sub, ab, col, dd, k0, k1, k2, k3, k5, FB, hC, hbm⟩ := T.cls
  obtain ⟨hp, gs, dr, tkk, os⟩ := s
  have hsz : hp.objs.size ≤ hp.objs.size + 1 := Nat.le_succ _
  have hn1 : H (hp.objs.size + 1) = none := I.hok.fresh hsz
  have hq := h (hp.objs.size + 1) hn1
  have kk : ∀ b o, hp.get? b = some o → ((hp.push (PySem.W.kdv_tup us)).push (PySem.HandSPX.excO C hp.objs.size)).get? b = some o := fun b o e => Heap.get?_push_of_some _ (Heap.get?_push_of_some _ e)
  have hget : ((hp.push (PySem.W.kdv_tup us)).push (PySem.HandSPX.excO C hp.objs.size)).get? (hp.objs.size + 1) = some (PySem.HandSPX.excO C hp.objs.size) := by heap_get
  have I2 : Inv X pins σ (upd H (hp.objs.size + 1) (exo (hp.objs.size + 1) C none)) ⟨(hp.push (PySem.W.kdv_tup us)).push (PySem.HandSPX.excO C hp.objs.size), gs, dr, tkk, os⟩ :=
    I.laid (t' := tkk) (a := hp.objs.size + 1) (o := exo (hp.objs.size + 1) C none) (h' := (hp.push (PySem.W.kdv_tup us)).push (PySem.HandSPX.excO C hp.objs.size)) kk hsz (exo_ok hget)
  have r1 : Vals (V.ref (hp.objs.size + 1) :: vs) (Value.ref (hp.objs.size + 1) :: us) := .cons rfl r
  have r2 := hb.rel r1 rz
  have e1 : (Value.ref (hp.objs.size + 1) :: us).length = n + 1 := by rw [List.length_cons, ← Paired.length r, l1]
  have e2 : ws.length = ks.length := (Paired.length rz).symm.trans l2
  have hus : us.length ≤ sizeLine := by
    rw [← Paired.length r, sizeLine_eq]
    omega
  refine wpAny_call (PySem.LwX.call_ownK FB (fun Y => refsT_contains T.tail Y bm hbm) (I.kIn _ _ hC) (PySem.W.looks_findIn I.kIn iC) (fun self => PySem.W.bind_fn I.kIn self tI) hus
    (codeAny_mono (F.run _ X.stack _ _ ⟨Value.ref (hp.objs.size + 1) :: us, ks.zip ws⟩ (g (Value.ref (hp.objs.size + 1) :: us) ws) _ _ E0 (hr.make C us (ks.zip ws)) (I2.env0.make C us (ks.zip ws)) (hb.to _ (Value.ref (hp.objs.size + 1) :: us) ws I2.kIn e1 e2) r2 hq) fun r s' hq' => ?_))
  cases r with
  | error er => exact False.elim hq'
  | ok fl =>
    cases fl with
    | ret u =>
      obtain ⟨v, H', I3, rv, ev, q3⟩ := I2.after hq'
      subst ev
      exact ⟨rv, ⟨V.ref (hp.objs.size + 1), H', I3, rfl, q3⟩⟩
    | next => exact False.elim hq'
    | brk => exact False.elim hq'
    | cont => exact False.elim hq'
/-- X(e, ..) -/
theorem pe_mkE (T : EC X.K B C) (iC : PySem.W.findIn X.K (.ref C) "__init__" = some (some (.ref fI))) (tI : PySem.W.typeIn X.K (.ref fI) = some (.type "function"))
    (F : FnOk X.prog X.w X.K X.mg X.base CX0 k fI fd ps sp) (hr : Room (k + 1) X.A) (hb : KBn X.K fd ps (n + 1) [] g gV) (hn : n ≤ 1000) (hg : Gl X x) (hm : X.mg x = some (.ref C)) (ha : PA X (e :: es) t)
    (hdb : (x == ("__debug__" : Str)) = false := by decide) (he : starEach (e :: es) X.env = (false, eval e X.env) :: starEach es X.env := by rfl) (hpl : (backTo pos (starEach es X.env)).any (·.1) = false := by rfl) :
    PE X (.Call (.Name x p) (e :: es) [] pos) (tMkE C sp n 0 gV t tNil) := by
  refine ⟨fun pins s σ H Q I h => ?_⟩
  refine wpAny_Call_Name_kw (ld_glob I hg hm ?_ hdb)
  refine PySem.W.callWith_K (h₀ := X.base) I.ok.mod.kin T.kC (thn (ha.run pos pins s σ H _ I h) fun us s1 ⟨vs, H1, I1, r, l1, l2, q⟩ => ⟨I1.kIn, ?_⟩) he hpl
  exact run_mkE (ws := []) T iC tI F hr hb I1 r .nil l1 rfl hn q
/-- X(k = e, ..) -/
theorem pe_mkEK (T : EC X.K B C) (iC : PySem.W.findIn X.K (.ref C) "__init__" = some (some (.ref fI))) (tI : PySem.W.typeIn X.K (.ref fI) = some (.type "function"))
    (F : FnOk X.prog X.w X.K X.mg X.base CX0 k fI fd ps sp) (hr : Room (k + 1) X.A) (hb : KBn X.K fd ps 1 ks g gV) (hg : Gl X x) (hm : X.mg x = some (.ref C)) (hkw : PK X kws tk)
    (hall : (backToKw pos (keywordEach kws X.env)).all (·.1.isSome) = true := by rfl) (hks : (backToKw pos (keywordEach kws X.env)).filterMap (·.1) = ks := by rfl) (hdb : (x == ("__debug__" : Str)) = false := by decide)
    (hpl : ((backTo pos (starEach [] X.env)).any (·.1) || (backToKw pos (keywordEach kws X.env)).any (·.1.isNone)) = false := by rfl) :
    PE X (.Call (.Name x p) [] kws pos) (tMkE C sp 0 ks.length gV tNil tk) := by
  refine ⟨fun pins s σ H Q I h => ?_⟩
  refine wpAny_Call_Name_kw (ld_glob I hg hm ?_ hdb)
  refine PySem.W.callWith_KW0 (h₀ := X.base) I.ok.mod.kin T.kC hall ?_ hpl
  refine thn (hkw.run pos pins s σ H _ I h) fun ws s2 ⟨zs, H2, I2, rz, l1, l2, q2⟩ => ⟨I2.kIn, ?_⟩
  rw [hks]
  exact run_mkE (us := []) (vs := []) T iC tI F hr hb I2 .nil rz rfl l2 (by omega) q2
/-- X(), a class without an own __init__ -/
theorem pe_mkE0 {newId initId : String} (T : EC X.K B C) (FB : ExcBaseFacts B newId initId (tailOf B)) (q : PySem.W.excIn X.K C (tailOf B) newId = true) (hg : Gl X x) (hm : X.mg x = some (.ref C))
    (hdb : (x == ("__debug__" : Str)) = false := by decide) : PE X (.Call (.Name x p) [] [] pos) (fun σ H Q => ∀ y H', Same H H' → Err0At H' y C → Q y H') := by
  refine ⟨fun pins s σ H Q I h => ?_⟩
  refine wpAny_Call_Name_kw (ld_glob I hg hm ?_ hdb)
  refine PySem.W.callWith_K0 I.kIn T.kC ?_
  show wpAny _ _ (call (.ref C) []) _ _ _
  obtain ⟨bm, N, nm, qn, bs, hdct, sn, sub, ab, col, dd, k0, k1, k2, k3, k5, mN, hC, hN, hni, OT⟩ := exc_obj I.kIn q
  refine wpAny_call_exc_subT FB OT hC hN hni (fun h' a hm => ?_) (by show 0 ≤ sizeLine; omega)
  have hn : H a = none := I.hok.gone hm.new
  obtain ⟨t, ht, _, _⟩ := hm.there
  exact ⟨.ref a, upd H a (ExO (.ref C) a), I.laidN hm.keeps hm.new hn (exO_ok ht ⟨rfl, rfl⟩ rfl rfl rfl (show 4 < 6 by decide)), rfl, h _ _ (Same.new hn) ⟨a, rfl, upd_same⟩⟩
/-- x.f of an exception that isn't raised -/
def tEfld (K : PySem.W.Frag) (f : Str) (te : TE) : TE := fun σ H Q => te σ H fun x H1 => ∃ (C : Addr) (B : String) (fs : List (Str × V)) (v : V), ErrAt H1 x C fs ∧ EC K B C ∧ PySem.W.findIn K (.ref C) f = some none ∧ fs.lookup f = some v ∧ Q v H1
theorem pe_efld {f : Str} {te : TE} (he : PE X e te) (hb : attributeBase e f X.env (eval e X.env) = eval e X.env := by rfl) : PE X (.Attribute e f pos) (tEfld X.K f te) := by
  refine ⟨fun pins s σ H Q I h => ?_⟩
  refine attr_of hb (thn (he.run pins s σ H _ I h) fun u s1 ⟨x, H1, I1, rx, C, B, fs, v, ⟨a, d, ex, ha, hd⟩, T, hno, l, q⟩ => ?_)
  subst ex
  obtain rfl : u = Value.ref a := rx
  obtain ⟨t1, ho⟩ := exo_at I1.hok ha
  obtain ⟨mA, hns, hr⟩ := exd_at I1.hok hd
  obtain ⟨od, hod, hl⟩ := lookIn_ns hns
  obtain ⟨u, hu, ru⟩ := RelO.some_of (v := v) (o := mA f) (by rw [← l]; exact hr f)
  have J : PySem.W.InstAt s1.heap a { cls := .ref C, dict := some d, data := .fields #[.ref t1, .none, .none, .none, .bool false, .none] } C (some od) := ⟨ho, rfl, rfl, hod⟩
  have sb : PySem.W.subIn X.K (.ref C) (.type "BaseException") = some true := by
    rw [T.subT]
    have z := T.hasBase
    rw [z]
  exact HandSPX.exc_get I1.kIn J T.ga T.gg sb (PySem.W.findObj_own T.hd hno rfl (by rw [hl, hu])) (handed_of ru) ⟨v, H1, I1.tok _, ru, q⟩
/-- isinstance(x, c) of an exception that isn't raised -/
def rIsX (K : PySem.W.Frag) : List V → Hp → VK → Prop := fun xs H Q => ∃ (x c : V) (cv : Value) (b : Bool) (C : Addr) (B : String), xs = [x, c] ∧ ClsV c cv ∧ AnyErr H x C ∧ EC K B C ∧ PySem.W.kitOne K (.ref C) cv = some b ∧ Q (.bl b) H
theorem call_isX (hn : PySem.W.specialIn X.K (.builtin "object.__class__") "__get__" = some (some (.builtin "getset_descriptor.__get__"))) (ht : PySem.W.takesIn X.K (.builtin "object.__class__") = some true) : CallR X (.builtin "isinstance") (rIsX X.K) := by
  intro pins s σ H xs us Q I r h
  obtain ⟨x, c, cv, b, C, B, rfl, hcv, he, T, e, q⟩ := h
  obtain ⟨u1, u2, rfl, r1, r2⟩ := vals2 r
  have ec := hcv.eq r2
  subst ec
  have sb : PySem.W.subIn X.K (.ref C) (.type "BaseException") = some true := by
    rw [T.subT]
    have z := T.hasBase
    rw [z]
  have mo : PySem.W.mroIn X.K C (.type "object") = some true := by
    have z := T.subT "object"
    rw [T.tail.obj] at z
    exact z
  rcases he with ⟨fs, a, d, rfl, ha, hd⟩ | ⟨a, rfl, ha⟩
  · cases (show u1 = Value.ref a from r1)
    obtain ⟨t1, ho⟩ := exo_at I.hok ha
    obtain ⟨mA, hns, hr⟩ := exd_at I.hok hd
    obtain ⟨od, hod, hl⟩ := lookIn_ns hns
    have J : PySem.W.InstAt s.heap a { cls := .ref C, dict := some d, data := .fields #[.ref t1, .none, .none, .none, .bool false, .none] } C (some od) := ⟨ho, rfl, rfl, hod⟩
    exact PySem.W.kia_one (PySem.W.kitx_exc T.isCls T.ga T.gg sb T.ca hn ht mo) I.kIn J e (fun z => nomatch z) fun tk => ⟨.bl b, H, I.tok tk, rfl, q⟩
  · cases (show u1 = Value.ref a from r1)
    obtain ⟨⟨oe, vs, ho, hz, hd, _⟩, _, _⟩ := I.hok a _ ha
    have J : PySem.W.InstAt s.heap a oe C none := by
      obtain ⟨oc, odc, oda, osl⟩ := oe
      obtain ⟨h1, h2⟩ := hz
      dsimp only at h1 h2 hd
      subst h1 h2 hd
      exact ⟨ho, rfl, rfl, trivial⟩
    exact PySem.W.kia_one (PySem.W.kitx_exc T.isCls T.ga T.gg sb T.ca hn ht mo) I.kIn J e (fun z => nomatch z) fun tk => ⟨.bl b, H, I.tok tk, rfl, q⟩
end
end Lw

/-! ## LwK -/
set_option maxHeartbeats 4000000
namespace Lw
open PySem PySem.Spec PyProof.Rows L2
/-- an __init__ that stores its parameters -/
def spI (K : PySem.W.Frag) (ps : List Str) (C : Addr) : Sp := fun vs H Q _ => ∃ (a : Addr) (zs : List V) (B : String), vs = .ref a :: zs ∧ zs.length = ps.length ∧ H a = some (exo a C none) ∧ EC K B C ∧ (∀ f ∈ ps, PySem.W.findIn K (.ref C) f = some none) ∧
  ∀ H', (∀ b o, H b = some o → b ≠ a → H' b = some o) → ErrAt H' (.ref a) C ((ps.zip zs).reverse) → Q .non H'
section
variable {P : Program} {w : World} {K : PySem.W.Frag} {mg : Str → Option Value} {base : Heap} {f C : Addr} {fd : FuncData} {qual : Str} {st : Stmt}
theorem ok_init1 {n : Str} {p1 p2 p3 p4 : Pos} (F : Fun K "__init__" qual st f fd) (S : FnScope ["self", n] ["self", n] (defScope st)) (hb : defBody st = [.Assign [.Attribute (.Name "self" p1) n p2] (.Name n p3) p4])
    (v0 : (defScope st).names.lookup ("self" : Str) = some .local) (v1 : (defScope st).names.lookup n = some .local) (d1 : (n == ("__debug__" : Str)) = false) (d2 : (n == ("__classdict__" : Str)) = false) : FnOk P w K mg base CX0 1 f fd ["self", n] (spI K [n] C) := by
  refine F.ok S (fun vs H Q E h => ?_) (fun cdv A outer s H vs Q E hr h => ?_)
  · obtain ⟨a, zs, B, rfl, hl, _⟩ := h
    show zs.length + 1 = 2
    rw [hl] <;> rfl
  · obtain ⟨a, zs, B, rfl, hl, ha, T, no, k⟩ := h
    match zs, hl with
    | [z], _ =>
      rw [hb]
      refine ⟨_, pss_one (ps_ostT (pv 0 rfl (.inl v0)) (pv 1 rfl (.inl v1) d1 d2)), ?_⟩
      refine ⟨_, rfl, _, rfl, a, C, B, rfl, T, no n List.mem_cons_self, .inl ⟨ha, fun dx hd hne => ?_⟩⟩
      refine k _ (fun b o e hba => ?_) ⟨a, dx, rfl, upd_same, ?_⟩
      · rw [upd_ne hba, upd_ne (ne_of_none e hd)]
        exact e
      · rw [upd_ne hne, upd_same] <;> rfl
theorem ok_init2 {n m : Str} {p1 p2 p3 p4 q1 q2 q3 q4 : Pos} (F : Fun K "__init__" qual st f fd) (S : FnScope ["self", n, m] ["self", n, m] (defScope st))
    (hb : defBody st = [.Assign [.Attribute (.Name "self" p1) n p2] (.Name n p3) p4, .Assign [.Attribute (.Name "self" q1) m q2] (.Name m q3) q4])
    (v0 : (defScope st).names.lookup ("self" : Str) = some .local) (v1 : (defScope st).names.lookup n = some .local) (v2 : (defScope st).names.lookup m = some .local) (d1 : (n == ("__debug__" : Str)) = false) (d2 : (n == ("__classdict__" : Str)) = false)
    (d3 : (m == ("__debug__" : Str)) = false) (d4 : (m == ("__classdict__" : Str)) = false) : FnOk P w K mg base CX0 1 f fd ["self", n, m] (spI K [n, m] C) := by
  refine F.ok S (fun vs H Q E h => ?_) (fun cdv A outer s H vs Q E hr h => ?_)
  · obtain ⟨a, zs, B, rfl, hl, _⟩ := h
    show zs.length + 1 = 3
    rw [hl] <;> rfl
  · obtain ⟨a, zs, B, rfl, hl, ha, T, no, k⟩ := h
    match zs, hl with
    | [z, y], _ =>
      rw [hb]
      refine ⟨_, pss_cons (ps_ostT (pv 0 rfl (.inl v0)) (pv 1 rfl (.inl v1) d1 d2)) (pss_one (ps_ostT (pv 0 rfl (.inl v0)) (pv 2 rfl (.inl v2) d3 d4))), ?_⟩
      refine ⟨_, rfl, _, rfl, a, C, B, rfl, T, no n List.mem_cons_self, .inl ⟨ha, fun dx hd hne => ?_⟩⟩
      refine ⟨_, rfl, _, rfl, a, C, B, rfl, T, no m (List.mem_cons_of_mem _ List.mem_cons_self), .inr ⟨dx, [(n, z)], upd_same, ?_, by show 1 ≤ 900; decide, ?_⟩⟩
      · rw [upd_ne hne, upd_same]
      · have hda : a ≠ dx := fun z => hne z.symm
        have had : dx ≠ a := hne
        refine k _ (fun b o e hba => ?_) ⟨a, dx, rfl, ?_, upd_same⟩
        · have hbd := ne_of_none e hd
          rw [upd_ne hbd, upd_ne hba, upd_ne hbd]
          exact e
        · rw [upd_ne hda, upd_same]
end
/-- an exception class of the program whose __init__ stores its parameters -/
structure Ex (P : Program) (w : World) (K : PySem.W.Frag) (mg : Str → Option Value) (base : Heap) (x : Str) (B : String) (C : Addr) (ps : List Str) : Prop where
  ec : EC K B C
  mgC : mg x = some (.ref C)
  no : ∀ f ∈ ps, PySem.W.findIn K (.ref C) f = some none
  ini : ∃ (fI : Addr) (fd : FuncData), PySem.W.findIn K (.ref C) "__init__" = some (some (.ref fI)) ∧ PySem.W.typeIn K (.ref fI) = some (.type "function") ∧ FnOk P w K mg base CX0 1 fI fd (("self" : Str) :: ps) (spI K ps C) ∧
    (∀ us : List Value, us.length = ps.length + 1 → bindArgs fd ⟨us, []⟩ = pure ((("self" : Str) :: ps).zip us)) ∧ (∀ (u : Value) (ws : List Value), ws.length = ps.length → bindArgs fd ⟨[u], ps.zip ws⟩ = pure ((("self" : Str) :: ps).zip (u :: ws))) ∧
    (∀ (u : Value) (ws : List Value), ws.length = ps.length → bindArgs fd ⟨[u], ps.reverse.zip ws⟩ = pure ((("self" : Str) :: ps).zip (u :: ws.reverse)))
/-- a new exception -/
def tErr (C : Addr) (ps : List Str) (g : List V → List V) (t : TA) : TE := fun σ H Q => t σ H fun vs H1 => vs.length = ps.length ∧ ∀ y H2, Same H1 H2 → ErrAt H2 y C ((ps.zip (g vs)).reverse) → Q y H2
theorem err_sp {K : PySem.W.Frag} {ps : List Str} {C : Addr} {B : String} {H : Hp} {Q : VK} {a : Addr} {zs : List V} (T : EC K B C) (no : ∀ f ∈ ps, PySem.W.findIn K (.ref C) f = some none) (hl : zs.length = ps.length) (ha : H a = none)
    (q : ∀ y H2, Same H H2 → ErrAt H2 y C ((ps.zip zs).reverse) → Q y H2) : spI K ps C (.ref a :: zs) (upd H a (exo a C none)) (fun v H3 => v = .non ∧ Q (.ref a) H3) E0 :=
  ⟨a, zs, B, rfl, hl, upd_same, T, no, fun H' k e => ⟨rfl, q _ _ (fun b o h => k b o (by rw [upd_ne (ne_of_none h ha)]; exact h) (ne_of_none h ha)) e⟩⟩
theorem vals_reverse {vs : List V} {us : List Value} (r : Vals vs us) : Vals vs.reverse us.reverse := by
  induction r with
  | nil => exact .nil
  | cons h t ih =>
    rw [List.reverse_cons, List.reverse_cons]
    exact ih.append (.cons h .nil)
section
variable {X : Cx} {k : Nat} {x : Str} {B : String} {C : Addr} {ps : List Str} {p pos : Pos} {e : Expr} {es : List Expr} {kws : List Keyword} {t tk : TA}
theorem pe_x (M : Ex X.prog X.w X.K X.mg X.base x B C ps) (hr : RoomG k X.A) (hk : 2 ≤ k) (hg : Gl X x) (hn : ps.length ≤ 1000) (ha : PA X (e :: es) t)
    (hdb : (x == ("__debug__" : Str)) = false := by decide) (he : starEach (e :: es) X.env = (false, eval e X.env) :: starEach es X.env := by rfl) (hpl : (backTo pos (starEach es X.env)).any (·.1) = false := by rfl) :
    PE X (.Call (.Name x p) (e :: es) [] pos) (tErr C ps id t) := by
  obtain ⟨fI, fd, iC, tI, F, b, _⟩ := M.ini
  refine ⟨fun pins s σ H Q I h => ?_⟩
  refine wpAny_Call_Name_kw (ld_glob I hg M.mgC ?_ hdb)
  refine PySem.W.callWith_K (h₀ := X.base) I.ok.mod.kin M.ec.kC (thn (ha.run pos pins s σ H _ I h) fun us s1 ⟨vs, H1, I1, r, l1, q⟩ => ⟨I1.kIn, ?_⟩) he hpl
  have kb : KBn X.K fd (("self" : Str) :: ps) (ps.length + 1) [] (fun us _ => us) (fun vs _ => vs) := ⟨fun s us ws _ h1 _ => .of_eq (b us h1), fun r _ => r⟩
  exact run_mkE (n := ps.length) (ws := []) (zs := []) M.ec iC tI F (hr.rm.mono hk) kb I1 r .nil l1 rfl hn fun a hn => err_sp M.ec M.no l1 hn q
theorem pe_xk (M : Ex X.prog X.w X.K X.mg X.base x B C ps) (hr : RoomG k X.A) (hk : 2 ≤ k) (hg : Gl X x) (hkw : PK X kws tk)
    (hall : (backToKw pos (keywordEach kws X.env)).all (·.1.isSome) = true := by rfl) (hks : (backToKw pos (keywordEach kws X.env)).filterMap (·.1) = ps := by rfl) (hdb : (x == ("__debug__" : Str)) = false := by decide)
    (hpl : ((backTo pos (starEach [] X.env)).any (·.1) || (backToKw pos (keywordEach kws X.env)).any (·.1.isNone)) = false := by rfl) : PE X (.Call (.Name x p) [] kws pos) (tErr C ps id tk) := by
  obtain ⟨fI, fd, iC, tI, F, _, b, _⟩ := M.ini
  refine ⟨fun pins s σ H Q I h => ?_⟩
  refine wpAny_Call_Name_kw (ld_glob I hg M.mgC ?_ hdb)
  refine PySem.W.callWith_KW0 (h₀ := X.base) I.ok.mod.kin M.ec.kC hall ?_ hpl
  refine thn (hkw.run pos pins s σ H _ I h) fun ws s2 ⟨zs, H2, I2, rz, l2, q2⟩ => ⟨I2.kIn, ?_⟩
  rw [hks]
  have kb : KBn X.K fd (("self" : Str) :: ps) (0 + 1) ps (fun us ws => us ++ ws) (fun vs zs => vs ++ zs) := ⟨fun s us ws _ h1 h2 => by
    match us, h1 with
    | [u], _ => exact .of_eq (b u ws h2), fun r1 r2 => r1.append r2⟩
  exact run_mkE (n := 0) (us := []) (vs := []) M.ec iC tI F (hr.rm.mono hk) kb I2 .nil rz rfl l2 (by omega) fun a hn => err_sp M.ec M.no l2 hn q2
theorem pe_xr (M : Ex X.prog X.w X.K X.mg X.base x B C ps) (hr : RoomG k X.A) (hk : 2 ≤ k) (hg : Gl X x) (hkw : PK X kws tk)
    (hall : (backToKw pos (keywordEach kws X.env)).all (·.1.isSome) = true := by rfl) (hks : (backToKw pos (keywordEach kws X.env)).filterMap (·.1) = ps.reverse := by rfl) (hdb : (x == ("__debug__" : Str)) = false := by decide)
    (hpl : ((backTo pos (starEach [] X.env)).any (·.1) || (backToKw pos (keywordEach kws X.env)).any (·.1.isNone)) = false := by rfl) : PE X (.Call (.Name x p) [] kws pos) (tErr C ps List.reverse tk) := by
  obtain ⟨fI, fd, iC, tI, F, _, _, b⟩ := M.ini
  refine ⟨fun pins s σ H Q I h => ?_⟩
  refine wpAny_Call_Name_kw (ld_glob I hg M.mgC ?_ hdb)
  refine PySem.W.callWith_KW0 (h₀ := X.base) I.ok.mod.kin M.ec.kC hall ?_ hpl
  refine thn (hkw.run pos pins s σ H _ I h) fun ws s2 ⟨zs, H2, I2, rz, l2, q2⟩ => ⟨I2.kIn, ?_⟩
  rw [hks]
  have kb : KBn X.K fd (("self" : Str) :: ps) (0 + 1) ps.reverse (fun us ws => us ++ ws.reverse) (fun vs zs => vs ++ zs.reverse) := ⟨fun s us ws _ h1 h2 => by
    match us, h1 with
    | [u], _ => exact .of_eq (b u ws (by rw [h2, List.length_reverse])), fun r1 r2 => r1.append (vals_reverse r2)⟩
  have l3 : zs.reverse.length = ps.length := by rw [List.length_reverse]; exact l2
  exact run_mkE (n := 0) (us := []) (vs := []) M.ec iC tI F (hr.rm.mono hk) kb I2 .nil rz rfl (by rw [List.length_reverse]; exact l2) (by omega) fun a hn => err_sp M.ec M.no l3 hn q2
end
/-- an exception class without an own __init__ -/
structure Ex0 (K : PySem.W.Frag) (mg : Str → Option Value) (x : Str) (B : String) (C : Addr) : Prop where
  ec : EC K B C
  mgC : mg x = some (.ref C)
  ex : ∃ newId initId, ExcBaseFacts B newId initId (PySem.LwX.tailOf B) ∧ PySem.W.excIn K C (PySem.LwX.tailOf B) newId = true
def tErr0 (C : Addr) : TE := fun σ H Q => ∀ y H', Same H H' → Err0At H' y C → Q y H'
theorem pe_x0 {X : Cx} {x : Str} {B : String} {C : Addr} {p pos : Pos} (M : Ex0 X.K X.mg x B C) (hg : Gl X x) (hdb : (x == ("__debug__" : Str)) = false := by decide) : PE X (.Call (.Name x p) [] [] pos) (tErr0 C) := by
  obtain ⟨newId, initId, F, q⟩ := M.ex
  exact pe_mkE0 M.ec F q hg M.mgC hdb
end Lw

/-! ## LwH -/
set_option maxHeartbeats 4000000
/-! what the head tells, by one look at the written part -/
namespace Lw
open PySem PySem.Spec PyProof.Rows L2
open PySem.LwX (refsT TailOk tailOf)
/-! ### an exception class, looked at -/
def clsB (K : PySem.W.Frag) (C : Addr) (B newId : String) : Bool := match K.lookup C with
  | some ⟨.type "type", _, .cls cd, sl⟩ => (match cd.mro, sl.toList with
    | .ref C' :: bm, [_, _, _, _, some (.builtin n), _] => C' == C && (n == newId && (!cd.hasDel && (cd.hasDict && refsT (tailOf B) bm)))
    | _, _ => false)
  | _ => false
def ecB (K : PySem.W.Frag) (C : Addr) (B newId : String) : Bool := clsB K C B newId && (He.eqO (PySem.W.findIn K (.ref C) "__setattr__") (some (some (.builtin "object.__setattr__"))) && (He.eqO (PySem.W.findIn K (.ref C) "__getattribute__") (some (some (.builtin "BaseException.__getattribute__"))) &&
  (He.eqO (PySem.W.findIn K (.ref C) "__getattr__") (some none) && (He.eqO (PySem.W.findIn K (.ref C) "__class__") (some (some (.builtin "object.__class__"))) && PySem.W.keepIn K (.ref C)))))
theorem ecB_ok {K : PySem.W.Frag} {C : Addr} {B newId initId : String} (F : ExcBaseFacts B newId initId (tailOf B)) (T : TailOk (tailOf B)) (h : ecB K C B newId = true) : EC K B C := by
  obtain ⟨h1, h⟩ := He.ba h
  obtain ⟨h2, h⟩ := He.ba h
  obtain ⟨h3, h⟩ := He.ba h
  obtain ⟨h4, h⟩ := He.ba h
  obtain ⟨h5, h6⟩ := He.ba h
  refine ⟨T, ?_, He.eqO_ok h2, He.eqO_ok h3, He.eqO_ok h4, He.eqO_ok h5, h6⟩
  unfold clsB at h1
  split at h1
  · rename_i dd cd sl ho
    split at h1
    · rename_i C' bm k0 k1 k2 k3 n k5 hm hs
      obtain ⟨a1, h1⟩ := He.ba h1
      obtain ⟨a2, h1⟩ := He.ba h1
      obtain ⟨a3, h1⟩ := He.ba h1
      obtain ⟨a4, a5⟩ := He.ba h1
      obtain rfl := beq_iff_eq.mp a1
      obtain rfl := beq_iff_eq.mp a2
      obtain ⟨nm, bs, mro, ns, qn, hd, sn, sub, ab, col, del⟩ := cd
      dsimp only at hm a3 a4
      subst hm a4
      obtain rfl : del = false := by simpa using a3
      have hsl : sl = #[k0, k1, k2, k3, some (.builtin n), k5] := by
        obtain ⟨l⟩ := sl
        simp only at hs
        rw [hs]
      subst hsl
      exact ⟨n, initId, nm, qn, ns, bs, bm, sn, sub, ab, col, dd, k0, k1, k2, k3, k5, F, ho, a5⟩
    · cases h1
  · cases h1
def subB (K : PySem.W.Frag) (C D : Addr) (b : Bool) : Bool := decide (PySem.W.subIn K (.ref C) (.ref D) = some b)
def tyB (K : PySem.W.Frag) (a : Addr) (n : String) : Bool := decide (PySem.W.typeIn K (.ref a) = some (.type n))
/-- the class x and its own __init__ -/
def exB (x : Str) (B newId : String) (ps : List Str) (K : PySem.W.Frag) : Bool := (He.Fa.glo x).ok K && (ecB K (He.ga K x) B newId && (He.eqO (PySem.W.findIn K (.ref (He.ga K x)) "__init__") (some (some (.ref (He.ma K (He.ga K x) "__init__")))) &&
  (tyB K (He.ma K (He.ga K x) "__init__") "function" && ps.all fun f => He.eqO (PySem.W.findIn K (.ref (He.ga K x)) f) (some none))))
theorem Fun.ofD {K : PySem.W.Frag} {x qual : Str} {st : Stmt} {f : Addr} {fd : FuncData} (F : FunD K x qual (defArgs st) (defBody st) (defScope st) [] [] f fd) : Fun K x qual st f fd := by
  obtain ⟨oc, od, dV, kV, doc, pm, an, cdv, ct, osl, e, lk, hcd, hD, _⟩ := F.ex
  rcases hD with ⟨_, rfl⟩ | ⟨z, _⟩
  · exact ⟨⟨oc, od, kV, doc, pm, an, cdv, ct, osl, e, lk, hcd⟩, F.kp⟩
  · exact absurd rfl z
theorem Fun.bound {K : PySem.W.Frag} {x qual : Str} {st : Stmt} {f : Addr} {fd : FuncData} (F : Fun K x qual st f fd) {p : FuncData → Prop}
    (h : ∀ (kV doc pm : Value) (an : Option Addr) (cdv ct : Value), p (PySem.W.fnOf x qual (defArgs st) (defBody st) (defScope st) .none kV doc pm an cdv ct)) : p fd := by
  obtain ⟨oc, od, kV, doc, pm, an, cdv, ct, osl, rfl, lk, hcd⟩ := F.ex
  exact h kV doc pm an cdv ct
/-! ### the look -/
abbrev AlW : Type := Bool × List He.FnW
def obsW (fs : List (PySem.W.Frag → Bool)) (fn : List He.DefD) (K : PySem.W.Frag) : AlW := ((fs.all fun f => f K) && fn.all fun d => d.ok K, fn.map fun d => He.fnW K d.at_)
def SaysW (fs : List (PySem.W.Frag → Bool)) (fn : List He.DefD) (K : PySem.W.Frag) : Prop := obsW fs fn K = (true, fn.map He.DefD.val)
def obsWG (as : List Addr) (fs : List (PySem.W.Frag → Bool)) (fn : List He.DefD) (g : Addr → Option Obj) : AlW := obsW fs fn (He.frG g as)
def hookW (as : List Addr) (fs : List (PySem.W.Frag → Bool)) (fn : List He.DefD) : PySem.W.Hook where
  α := AlW
  obs := fun s => obsWG as fs fn s.heap.get?
  val := fun _ => (true, fn.map He.DefD.val)
  says := fun _ h => ∃ K : PySem.W.Frag, K.In h ∧ SaysW fs fn K
  of := fun _ _ e => ⟨_, He.frG_in, e⟩
  keeps := fun _ _ _ ⟨K, hK, c⟩ k => ⟨K, PySem.W.Frag.In.keeps hK k, c⟩
theorem obsWG_eq {as : List Addr} {fs : List (PySem.W.Frag → Bool)} {fn : List He.DefD} {g : Addr → Option Obj} {s : Shared} (h : ∀ a, g a = s.heap.get? a) : obsWG as fs fn g = (hookW as fs fn).obs s := by
  have e : g = s.heap.get? := funext h
  rw [e] <;> rfl
section
variable {fs : List (PySem.W.Frag → Bool)} {fn : List He.DefD} {K : PySem.W.Frag}
theorem SaysW.fact (c : SaysW fs fn K) {f : PySem.W.Frag → Bool} (i : Nat) (h : fs[i]? = some f := by rfl) : f K = true :=
  List.all_eq_true.mp (He.ba (congrArg (fun z : AlW => z.1) c)).1 f (List.mem_of_getElem? h)
theorem SaysW.def_ (c : SaysW fs fn K) {d : He.DefD} (i : Nat) (h : fn[i]? = some d := by rfl) : ∃ fd, FunD K d.name d.qual d.params d.body d.scope (d.dvs K) (d.kws K) (He.fAd K d.at_) fd := by
  have e : fn.map (fun d => He.fnW K d.at_) = fn.map He.DefD.val := congrArg (fun z : AlW => z.2) c
  have e2 : (fn.map fun d => He.fnW K d.at_)[i]? = (fn.map He.DefD.val)[i]? := by rw [e]
  rw [List.getElem?_map, List.getElem?_map, h] at e2
  exact He.DefD.funD (Option.some.inj e2) (List.all_eq_true.mp (He.ba (congrArg (fun z : AlW => z.1) c)).2 d (List.mem_of_getElem? h))
end
theorem map_two {α β γ : Type} {x : Option α} {f : α → β} {g : α → γ} {b : β} {c : γ} (h1 : x.map f = some b) (h2 : x.map g = some c) : x.map (fun s => (f s, g s)) = some (b, c) := by
  cases x with
  | none => cases h1
  | some s =>
    injection h1 with h1
    injection h2 with h2
    exact congrArg some (Prod.ext h1 h2)
theorem obs_two {as : List Addr} {x : Option PySem.W.SharedT} {f1 f2 : List (PySem.W.Frag → Bool)} {d1 d2 : List He.DefD} (h1 : x.map (fun s => obsWG as f1 d1 (HandSHeadRun.getT s)) = some (true, d1.map He.DefD.val)) (h2 : x.map (fun s => obsWG as f2 d2 (HandSHeadRun.getT s)) = some (true, d2.map He.DefD.val)) :
    x.map (fun s => obsWG as (f1 ++ f2) (d1 ++ d2) (HandSHeadRun.getT s)) = some (true, (d1 ++ d2).map He.DefD.val) := by
  cases x with
  | none => cases h1
  | some s =>
    have e1 : obsW f1 d1 (He.frG (HandSHeadRun.getT s) as) = (true, d1.map He.DefD.val) := Option.some.inj h1
    have e2 : obsW f2 d2 (He.frG (HandSHeadRun.getT s) as) = (true, d2.map He.DefD.val) := Option.some.inj h2
    show some (obsW (f1 ++ f2) (d1 ++ d2) (He.frG (HandSHeadRun.getT s) as)) = _
    generalize He.frG (HandSHeadRun.getT s) as = K at *
    have a1 := congrArg (fun z : AlW => z.1) e1
    have a2 := congrArg (fun z : AlW => z.1) e2
    have b1 := congrArg (fun z : AlW => z.2) e1
    have b2 := congrArg (fun z : AlW => z.2) e2
    obtain ⟨p1, q1⟩ := He.ba a1
    obtain ⟨p2, q2⟩ := He.ba a2
    unfold obsW
    rw [List.all_append, List.all_append, List.map_append, List.map_append, p1, q1, p2, q2]
    exact congrArg some (Prod.ext rfl (by rw [show d1.map (fun d => He.fnW K d.at_) = d1.map He.DefD.val from b1, show d2.map (fun d => He.fnW K d.at_) = d2.map He.DefD.val from b2]))
theorem map_three {α β γ δ : Type} {x : Option α} {f : α → β} {g : α → γ} {k : α → δ} {a : β} {b : γ} {c : δ} (h1 : x.map (fun s => (f s, g s)) = some (a, b)) (h2 : x.map k = some c) : x.map (fun s => (f s, g s, k s)) = some (a, b, c) := by
  cases x with
  | none => cases h1
  | some s =>
    have h1 : (f s, g s) = (a, b) := Option.some.inj h1
    have h2 : k s = c := Option.some.inj h2
    have e1 : f s = a := congrArg Prod.fst h1
    have e2 : g s = b := congrArg Prod.snd h1
    show some (f s, g s, k s) = _
    rw [e1, e2, h2]
/-- the end, over such a look -/
theorem walk_look {l : PySem.W.OpenLaw} {n k : Nat} {q : Program} {loose : List Str} {XP : (Str → Option Value) → Heap → Prop} {YP : World → Heap → Prop} {d : DefRec} {sp : PySem.W.Frag → Sp} {x : Str}
    (hn : l.most = some n) (hn2 : n ≤ sizeLine) (hdf : d.params.defaults = []) (hr : RoomG k callerA)
    (F : ∀ (w : World) (mg : Str → Option Value) (fa : Addr) (h : Heap), YP w h → h.Ns mainGlobals mg → mg d.name = some (.ref fa) →
      ∃ (K : PySem.W.Frag) (fd : FuncData), K.In h ∧ (∀ u : Value, bindArgs fd ⟨[u], []⟩ = pure [(x, u)]) ∧ ∀ base : Heap, K.In base → base.Ns mainGlobals mg → FnG l.prog w K mg base k fa fd [x] (sp K))
    (hsp : ∀ (K : PySem.W.Frag) (H : Hp) (a : Addr) (ns : List Int), ns.length ≤ n → Only H → SqL K H a (ns.map V.int) → sp K [.ref a] H (fun v _ => v = .bl true) E0) :
    PySem.W.WalkO q loose XP YP l.row.toRowW d [] (fun f vs => PySem.call f vs) := by
  refine Att.attach_call hn hdf fun w s₀ s₁ mg mb fa o pm cd doc a vs ns G Y ho hd hcd hmg hobj hints hlen hg => ?_
  obtain ⟨K, fd, KX, hb, hF⟩ := F w mg fa _ Y G.T.g hmg
  exact law_end KX G.T.g G.T.b G.T.builtins G.T.nolimit hg hobj hints (Nat.le_trans hlen hn2) hr hF hb (fun H hO hS => hsp K H a ns hlen hO hS)
end Lw

/-! ## KaN -/
set_option maxHeartbeats 8000000
namespace Lw
open PySem PySem.Spec PyProof.Rows L2
def fsW0 : List (PySem.W.Frag → Bool) := [
  (He.Fa.free "len").ok,
  (He.Fa.free "int").ok,
  (He.Fa.free "abs").ok,
  (He.Fa.free "isinstance").ok,
  (He.Fa.free "str").ok,
  (He.Fa.free "tuple").ok,
  (He.Fa.free "bool").ok,
  (He.Fa.free "all").ok,
  (He.Fa.free "sorted").ok,
  (He.Fa.free "set").ok,
  (He.Fa.free "range").ok,
  (He.Fa.free "max").ok,
  (He.Fa.free "min").ok,
  (He.Fa.free "repr").ok,
  (He.Fa.str "_LETTERS" lettersS).ok,
  (He.Fa.str "_SIGNS" signsS).ok,
  (He.Fa.str "MIDDLE" atS).ok,
  (He.Fa.int "_LONGEST_NAME" 8).ok,
  (He.Fa.glo "is_integer").ok,
  (He.Fa.glo "is_name").ok,
  (He.Fa.glo "is_symbol").ok,
  (He.Fa.glo "_is_worth").ok,
  (He.Fa.glo "is_values").ok,
  (He.Fa.glo "_law_is_name").ok,
  (He.Fa.glo "_law_is_symbol").ok,
  (He.Fa.glo "_law_is_values").ok,
  (He.Fa.glo "_law_cell").ok,
  (He.Fa.glo "_law_heap").ok,
  (He.Fa.glo "_law_roll").ok,
  (He.Fa.glo "_law_pick").ok]
def fsW1 : List (PySem.W.Frag → Bool) := [
  (He.Fa.glo "_law_name").ok,
  (He.Fa.glo "_law_names").ok,
  (He.Fa.glo "_law_bent").ok,
  (He.Fa.glo "_law_odd").ok,
  (He.Fa.glo "_law_pairs").ok,
  (He.Fa.glo "_law_right").ok,
  (He.Fa.glo "law").ok]
def fsW : List (PySem.W.Frag → Bool) := fsW0 ++ (fsW1)
def fnW0 : List (He.DefD) := [
  ⟨("is_integer", none), "is_integer", "is_integer", defArgs s_is_integer, defBody s_is_integer, defScope s_is_integer, [], []⟩,
  ⟨("is_name", none), "is_name", "is_name", defArgs s_is_name, defBody s_is_name, defScope s_is_name, [], []⟩,
  ⟨("is_symbol", none), "is_symbol", "is_symbol", defArgs s_is_symbol, defBody s_is_symbol, defScope s_is_symbol, [], []⟩,
  ⟨("_is_worth", none), "_is_worth", "_is_worth", defArgs s__is_worth, defBody s__is_worth, defScope s__is_worth, [], []⟩,
  ⟨("is_values", none), "is_values", "is_values", defArgs s_is_values, defBody s_is_values, defScope s_is_values, [], []⟩,
  ⟨("_law_is_name", none), "_law_is_name", "_law_is_name", defArgs s__law_is_name, defBody s__law_is_name, defScope s__law_is_name, [], []⟩,
  ⟨("_law_is_symbol", none), "_law_is_symbol", "_law_is_symbol", defArgs s__law_is_symbol, defBody s__law_is_symbol, defScope s__law_is_symbol, [], []⟩,
  ⟨("_law_is_values", none), "_law_is_values", "_law_is_values", defArgs s__law_is_values, defBody s__law_is_values, defScope s__law_is_values, [], []⟩,
  ⟨("_law_cell", none), "_law_cell", "_law_cell", defArgs s__law_cell, defBody s__law_cell, defScope s__law_cell, [], []⟩,
  ⟨("_law_heap", none), "_law_heap", "_law_heap", defArgs s__law_heap, defBody s__law_heap, defScope s__law_heap, [], []⟩,
  ⟨("_law_roll", none), "_law_roll", "_law_roll", defArgs s__law_roll, defBody s__law_roll, defScope s__law_roll, [], []⟩,
  ⟨("_law_pick", none), "_law_pick", "_law_pick", defArgs s__law_pick, defBody s__law_pick, defScope s__law_pick, [], []⟩,
  ⟨("_law_name", none), "_law_name", "_law_name", defArgs s__law_name, defBody s__law_name, defScope s__law_name, [], []⟩,
  ⟨("_law_names", none), "_law_names", "_law_names", defArgs s__law_names, defBody s__law_names, defScope s__law_names, [], []⟩,
  ⟨("_law_bent", none), "_law_bent", "_law_bent", defArgs s__law_bent, defBody s__law_bent, defScope s__law_bent, [], []⟩,
  ⟨("_law_odd", none), "_law_odd", "_law_odd", defArgs s__law_odd, defBody s__law_odd, defScope s__law_odd, [], []⟩,
  ⟨("_law_pairs", none), "_law_pairs", "_law_pairs", defArgs s__law_pairs, defBody s__law_pairs, defScope s__law_pairs, [], []⟩,
  ⟨("_law_right", none), "_law_right", "_law_right", defArgs s__law_right, defBody s__law_right, defScope s__law_right, [], []⟩,
  ⟨("law", none), "law", "law", defArgs s_law, defBody s_law, defScope s_law, [], []⟩]
def fnW : List (He.DefD) := fnW0
section
variable {P : Program} {w : World} {K : PySem.W.Frag} {h base : Heap} {mg : Str → Option Value}
theorem ta_mk (X : K.In h) (G : h.Ns mainGlobals mg) (c : SaysW fsW fnW K) : Ta mg := { 
    b_len := He.free_ok X G (c.fact 0),
    b_int := He.free_ok X G (c.fact 1),
    b_abs := He.free_ok X G (c.fact 2),
    b_isinstance := He.free_ok X G (c.fact 3),
    b_str := He.free_ok X G (c.fact 4),
    b_tuple := He.free_ok X G (c.fact 5),
    b_bool := He.free_ok X G (c.fact 6),
    b_all := He.free_ok X G (c.fact 7),
    b_sorted := He.free_ok X G (c.fact 8),
    b_set := He.free_ok X G (c.fact 9),
    b_range := He.free_ok X G (c.fact 10),
    b_max := He.free_ok X G (c.fact 11),
    b_min := He.free_ok X G (c.fact 12),
    b_repr := He.free_ok X G (c.fact 13),
    g__LETTERS := by
      obtain ⟨t, e⟩ := He.str_ok X G (c.fact 14)
      exact ⟨_, e, t, rfl⟩,
    g__SIGNS := by
      obtain ⟨t, e⟩ := He.str_ok X G (c.fact 15)
      exact ⟨_, e, t, rfl⟩,
    g_MIDDLE := by
      obtain ⟨t, e⟩ := He.str_ok X G (c.fact 16)
      exact ⟨_, e, t, rfl⟩,
    g__LONGEST_NAME := by
      obtain ⟨t, e⟩ := He.int_ok X G (c.fact 17)
      exact ⟨_, e, t, rfl⟩ }
theorem end_mk (hm : K.In base) (hG : base.Ns mainGlobals mg) (X : K.In h) (G : h.Ns mainGlobals mg) (c : SaysW fsW fnW K) {fa : Addr} (hfa : mg "law" = some (.ref fa)) {fd : FuncData} (F : Fun K "law" "law" s_law fa fd) : FnG P w K mg base 6 fa fd ["_law_script"] (spLaw K) := by
  have T : Ta mg := ta_mk X G c
  obtain ⟨fd_is_integer, F0_is_integer⟩ := c.def_ 0
  have F_is_integer := Fun.ofD (st := s_is_integer) F0_is_integer
  have c_is_integer : Cal P w K mg base 1 "is_integer" ["value"] (spB K Tr.whole) := ⟨_, fd_is_integer, ok_is_integer F_is_integer T, He.glo_ok X G (c.fact 18), F_is_integer.kp,
    fun us hl => Fun.bound (p := fun fd => bindArgs fd ⟨us, []⟩ = (pure ((["value"] : List Str).zip us) : Sem (List (Str × Value)))) F_is_integer fun _ _ _ _ _ _ => match us, hl with | [_], _ => rfl, fun u _ => Fun.bound (p := fun fd => bindArgs fd ⟨[], (["value"] : List Str).zip [u]⟩ = (pure ((["value"] : List Str).zip [u]) : Sem (List (Str × Value)))) F_is_integer fun _ _ _ _ _ _ => rfl⟩
  obtain ⟨fd_is_name, F0_is_name⟩ := c.def_ 1
  have F_is_name := Fun.ofD (st := s_is_name) F0_is_name
  have c_is_name : Cal P w K mg base 1 "is_name" ["value"] (spB K Tr.name) := ⟨_, fd_is_name, ok_is_name F_is_name T, He.glo_ok X G (c.fact 19), F_is_name.kp,
    fun us hl => Fun.bound (p := fun fd => bindArgs fd ⟨us, []⟩ = (pure ((["value"] : List Str).zip us) : Sem (List (Str × Value)))) F_is_name fun _ _ _ _ _ _ => match us, hl with | [_], _ => rfl, fun u _ => Fun.bound (p := fun fd => bindArgs fd ⟨[], (["value"] : List Str).zip [u]⟩ = (pure ((["value"] : List Str).zip [u]) : Sem (List (Str × Value)))) F_is_name fun _ _ _ _ _ _ => rfl⟩
  obtain ⟨fd_is_symbol, F0_is_symbol⟩ := c.def_ 2
  have F_is_symbol := Fun.ofD (st := s_is_symbol) F0_is_symbol
  have c_is_symbol : Cal P w K mg base 2 "is_symbol" ["value"] (spB K Tr.sym) := ⟨_, fd_is_symbol, ok_is_symbol F_is_symbol T c_is_name, He.glo_ok X G (c.fact 20), F_is_symbol.kp,
    fun us hl => Fun.bound (p := fun fd => bindArgs fd ⟨us, []⟩ = (pure ((["value"] : List Str).zip us) : Sem (List (Str × Value)))) F_is_symbol fun _ _ _ _ _ _ => match us, hl with | [_], _ => rfl, fun u _ => Fun.bound (p := fun fd => bindArgs fd ⟨[], (["value"] : List Str).zip [u]⟩ = (pure ((["value"] : List Str).zip [u]) : Sem (List (Str × Value)))) F_is_symbol fun _ _ _ _ _ _ => rfl⟩
  obtain ⟨fd__is_worth, F0__is_worth⟩ := c.def_ 3
  have F__is_worth := Fun.ofD (st := s__is_worth) F0__is_worth
  have c__is_worth : Cal P w K mg base 3 "_is_worth" ["pair"] (spB K Tr.worth) := ⟨_, fd__is_worth, ok_is_worth F__is_worth T c_is_symbol c_is_integer, He.glo_ok X G (c.fact 21), F__is_worth.kp,
    fun us hl => Fun.bound (p := fun fd => bindArgs fd ⟨us, []⟩ = (pure ((["pair"] : List Str).zip us) : Sem (List (Str × Value)))) F__is_worth fun _ _ _ _ _ _ => match us, hl with | [_], _ => rfl, fun u _ => Fun.bound (p := fun fd => bindArgs fd ⟨[], (["pair"] : List Str).zip [u]⟩ = (pure ((["pair"] : List Str).zip [u]) : Sem (List (Str × Value)))) F__is_worth fun _ _ _ _ _ _ => rfl⟩
  obtain ⟨fd_is_values, F0_is_values⟩ := c.def_ 4
  have F_is_values := Fun.ofD (st := s_is_values) F0_is_values
  have c_is_values : Cal P w K mg base 4 "is_values" ["value"] (spB K Tr.vals) := ⟨_, fd_is_values, ok_is_values F_is_values T c__is_worth, He.glo_ok X G (c.fact 22), F_is_values.kp,
    fun us hl => Fun.bound (p := fun fd => bindArgs fd ⟨us, []⟩ = (pure ((["value"] : List Str).zip us) : Sem (List (Str × Value)))) F_is_values fun _ _ _ _ _ _ => match us, hl with | [_], _ => rfl, fun u _ => Fun.bound (p := fun fd => bindArgs fd ⟨[], (["value"] : List Str).zip [u]⟩ = (pure ((["value"] : List Str).zip [u]) : Sem (List (Str × Value)))) F_is_values fun _ _ _ _ _ _ => rfl⟩
  obtain ⟨fd__law_is_name, F0__law_is_name⟩ := c.def_ 5
  have F__law_is_name := Fun.ofD (st := s__law_is_name) F0__law_is_name
  have c__law_is_name : Cal P w K mg base 1 "_law_is_name" ["_law_thing"] (spB K Tr.name) := ⟨_, fd__law_is_name, ok_law_is_name F__law_is_name T, He.glo_ok X G (c.fact 23), F__law_is_name.kp,
    fun us hl => Fun.bound (p := fun fd => bindArgs fd ⟨us, []⟩ = (pure ((["_law_thing"] : List Str).zip us) : Sem (List (Str × Value)))) F__law_is_name fun _ _ _ _ _ _ => match us, hl with | [_], _ => rfl, fun u _ => Fun.bound (p := fun fd => bindArgs fd ⟨[], (["_law_thing"] : List Str).zip [u]⟩ = (pure ((["_law_thing"] : List Str).zip [u]) : Sem (List (Str × Value)))) F__law_is_name fun _ _ _ _ _ _ => rfl⟩
  obtain ⟨fd__law_is_symbol, F0__law_is_symbol⟩ := c.def_ 6
  have F__law_is_symbol := Fun.ofD (st := s__law_is_symbol) F0__law_is_symbol
  have c__law_is_symbol : Cal P w K mg base 2 "_law_is_symbol" ["_law_thing"] (spB K Tr.sym) := ⟨_, fd__law_is_symbol, ok_law_is_symbol F__law_is_symbol T c__law_is_name, He.glo_ok X G (c.fact 24), F__law_is_symbol.kp,
    fun us hl => Fun.bound (p := fun fd => bindArgs fd ⟨us, []⟩ = (pure ((["_law_thing"] : List Str).zip us) : Sem (List (Str × Value)))) F__law_is_symbol fun _ _ _ _ _ _ => match us, hl with | [_], _ => rfl, fun u _ => Fun.bound (p := fun fd => bindArgs fd ⟨[], (["_law_thing"] : List Str).zip [u]⟩ = (pure ((["_law_thing"] : List Str).zip [u]) : Sem (List (Str × Value)))) F__law_is_symbol fun _ _ _ _ _ _ => rfl⟩
  obtain ⟨fd__law_is_values, F0__law_is_values⟩ := c.def_ 7
  have F__law_is_values := Fun.ofD (st := s__law_is_values) F0__law_is_values
  have c__law_is_values : Cal P w K mg base 3 "_law_is_values" ["_law_thing"] (spB K Tr.vals) := ⟨_, fd__law_is_values, ok_law_is_values F__law_is_values T c__law_is_symbol, He.glo_ok X G (c.fact 25), F__law_is_values.kp,
    fun us hl => Fun.bound (p := fun fd => bindArgs fd ⟨us, []⟩ = (pure ((["_law_thing"] : List Str).zip us) : Sem (List (Str × Value)))) F__law_is_values fun _ _ _ _ _ _ => match us, hl with | [_], _ => rfl, fun u _ => Fun.bound (p := fun fd => bindArgs fd ⟨[], (["_law_thing"] : List Str).zip [u]⟩ = (pure ((["_law_thing"] : List Str).zip [u]) : Sem (List (Str × Value)))) F__law_is_values fun _ _ _ _ _ _ => rfl⟩
  obtain ⟨fd__law_cell, F0__law_cell⟩ := c.def_ 8
  have F__law_cell := Fun.ofD (st := s__law_cell) F0__law_cell
  have c__law_cell : Cal P w K mg base 1 "_law_cell" ["_law_script", "_law_k"] (spCellI K) := ⟨_, fd__law_cell, .of (ok_cell F__law_cell T.toBlt), He.glo_ok X G (c.fact 26), F__law_cell.kp,
    fun us hl => Fun.bound (p := fun fd => bindArgs fd ⟨us, []⟩ = (pure ((["_law_script", "_law_k"] : List Str).zip us) : Sem (List (Str × Value)))) F__law_cell fun _ _ _ _ _ _ => match us, hl with | [_, _], _ => rfl, fun u e => absurd e (by decide)⟩
  obtain ⟨fd__law_heap, F0__law_heap⟩ := c.def_ 9
  have F__law_heap := Fun.ofD (st := s__law_heap) F0__law_heap
  have c__law_heap : Cal P w K mg base 1 "_law_heap" ["_law_number"] spHeap := ⟨_, fd__law_heap, .of (ok_heap F__law_heap T.toBlt), He.glo_ok X G (c.fact 27), F__law_heap.kp,
    fun us hl => Fun.bound (p := fun fd => bindArgs fd ⟨us, []⟩ = (pure ((["_law_number"] : List Str).zip us) : Sem (List (Str × Value)))) F__law_heap fun _ _ _ _ _ _ => match us, hl with | [_], _ => rfl, fun u _ => Fun.bound (p := fun fd => bindArgs fd ⟨[], (["_law_number"] : List Str).zip [u]⟩ = (pure ((["_law_number"] : List Str).zip [u]) : Sem (List (Str × Value)))) F__law_heap fun _ _ _ _ _ _ => rfl⟩
  obtain ⟨fd__law_roll, F0__law_roll⟩ := c.def_ 10
  have F__law_roll := Fun.ofD (st := s__law_roll) F0__law_roll
  have c__law_roll : Cal P w K mg base 1 "_law_roll" ["_law_heap_here", "_law_many"] spRoll := ⟨_, fd__law_roll, .of (ok_roll F__law_roll T.toBlt), He.glo_ok X G (c.fact 28), F__law_roll.kp,
    fun us hl => Fun.bound (p := fun fd => bindArgs fd ⟨us, []⟩ = (pure ((["_law_heap_here", "_law_many"] : List Str).zip us) : Sem (List (Str × Value)))) F__law_roll fun _ _ _ _ _ _ => match us, hl with | [_, _], _ => rfl, fun u e => absurd e (by decide)⟩
  obtain ⟨fd__law_pick, F0__law_pick⟩ := c.def_ 11
  have F__law_pick := Fun.ofD (st := s__law_pick) F0__law_pick
  have c__law_pick : Cal P w K mg base 2 "_law_pick" ["_law_heap_here", "_law_things"] (spPick K) := ⟨_, fd__law_pick, ok_pick F__law_pick T.toBlt c__law_roll, He.glo_ok X G (c.fact 29), F__law_pick.kp,
    fun us hl => Fun.bound (p := fun fd => bindArgs fd ⟨us, []⟩ = (pure ((["_law_heap_here", "_law_things"] : List Str).zip us) : Sem (List (Str × Value)))) F__law_pick fun _ _ _ _ _ _ => match us, hl with | [_, _], _ => rfl, fun u e => absurd e (by decide)⟩
  obtain ⟨fd__law_name, F0__law_name⟩ := c.def_ 12
  have F__law_name := Fun.ofD (st := s__law_name) F0__law_name
  have c__law_name : Cal P w K mg base 3 "_law_name" ["_law_heap_here"] (spText 8) := ⟨_, fd__law_name, ok_law_name c__law_roll c__law_pick F__law_name T, He.glo_ok X G (c.fact 30), F__law_name.kp,
    fun us hl => Fun.bound (p := fun fd => bindArgs fd ⟨us, []⟩ = (pure ((["_law_heap_here"] : List Str).zip us) : Sem (List (Str × Value)))) F__law_name fun _ _ _ _ _ _ => match us, hl with | [_], _ => rfl, fun u _ => Fun.bound (p := fun fd => bindArgs fd ⟨[], (["_law_heap_here"] : List Str).zip [u]⟩ = (pure ((["_law_heap_here"] : List Str).zip [u]) : Sem (List (Str × Value)))) F__law_name fun _ _ _ _ _ _ => rfl⟩
  obtain ⟨fd__law_names, F0__law_names⟩ := c.def_ 13
  have F__law_names := Fun.ofD (st := s__law_names) F0__law_names
  have c__law_names : Cal P w K mg base 4 "_law_names" ["_law_heap_here", "_law_many"] spNames := ⟨_, fd__law_names, ok_law_names c__law_roll c__law_pick c__law_name F__law_names T, He.glo_ok X G (c.fact 31), F__law_names.kp,
    fun us hl => Fun.bound (p := fun fd => bindArgs fd ⟨us, []⟩ = (pure ((["_law_heap_here", "_law_many"] : List Str).zip us) : Sem (List (Str × Value)))) F__law_names fun _ _ _ _ _ _ => match us, hl with | [_, _], _ => rfl, fun u e => absurd e (by decide)⟩
  obtain ⟨fd__law_bent, F0__law_bent⟩ := c.def_ 14
  have F__law_bent := Fun.ofD (st := s__law_bent) F0__law_bent
  have c__law_bent : Cal P w K mg base 3 "_law_bent" ["_law_heap_here", "_law_word"] spBent := ⟨_, fd__law_bent, ok_law_bent c__law_roll c__law_pick F__law_bent T, He.glo_ok X G (c.fact 32), F__law_bent.kp,
    fun us hl => Fun.bound (p := fun fd => bindArgs fd ⟨us, []⟩ = (pure ((["_law_heap_here", "_law_word"] : List Str).zip us) : Sem (List (Str × Value)))) F__law_bent fun _ _ _ _ _ _ => match us, hl with | [_, _], _ => rfl, fun u e => absurd e (by decide)⟩
  obtain ⟨fd__law_odd, F0__law_odd⟩ := c.def_ 15
  have F__law_odd := Fun.ofD (st := s__law_odd) F0__law_odd
  have c__law_odd : Cal P w K mg base 3 "_law_odd" ["_law_heap_here", "_law_word"] (spOdd K) := ⟨_, fd__law_odd, ok_law_odd c__law_roll c__law_pick F__law_odd T, He.glo_ok X G (c.fact 33), F__law_odd.kp,
    fun us hl => Fun.bound (p := fun fd => bindArgs fd ⟨us, []⟩ = (pure ((["_law_heap_here", "_law_word"] : List Str).zip us) : Sem (List (Str × Value)))) F__law_odd fun _ _ _ _ _ _ => match us, hl with | [_, _], _ => rfl, fun u e => absurd e (by decide)⟩
  obtain ⟨fd__law_pairs, F0__law_pairs⟩ := c.def_ 16
  have F__law_pairs := Fun.ofD (st := s__law_pairs) F0__law_pairs
  have c__law_pairs : Cal P w K mg base 3 "_law_pairs" ["_law_heap_here", "_law_names_here"] (spPairs K) := ⟨_, fd__law_pairs, ok_law_pairs c__law_roll c__law_pick F__law_pairs T, He.glo_ok X G (c.fact 34), F__law_pairs.kp,
    fun us hl => Fun.bound (p := fun fd => bindArgs fd ⟨us, []⟩ = (pure ((["_law_heap_here", "_law_names_here"] : List Str).zip us) : Sem (List (Str × Value)))) F__law_pairs fun _ _ _ _ _ _ => match us, hl with | [_, _], _ => rfl, fun u e => absurd e (by decide)⟩
  obtain ⟨fd__law_right, F0__law_right⟩ := c.def_ 17
  have F__law_right := Fun.ofD (st := s__law_right) F0__law_right
  have c__law_right : Cal P w K mg base 5 "_law_right" ["_law_heap_here"] spRight := ⟨_, fd__law_right, ok_law_right c__law_roll c__law_names c__law_bent c__law_odd c__law_pairs c_is_name c_is_symbol c_is_values c__law_is_name c__law_is_symbol c__law_is_values F__law_right T, He.glo_ok X G (c.fact 35), F__law_right.kp,
    fun us hl => Fun.bound (p := fun fd => bindArgs fd ⟨us, []⟩ = (pure ((["_law_heap_here"] : List Str).zip us) : Sem (List (Str × Value)))) F__law_right fun _ _ _ _ _ _ => match us, hl with | [_], _ => rfl, fun u _ => Fun.bound (p := fun fd => bindArgs fd ⟨[], (["_law_heap_here"] : List Str).zip [u]⟩ = (pure ((["_law_heap_here"] : List Str).zip [u]) : Sem (List (Str × Value)))) F__law_right fun _ _ _ _ _ _ => rfl⟩
  exact ok_law F T c__law_cell c__law_heap c__law_right
end
def looseW : List Str := ["_LETTERS", "_SIGNS", "_LONGEST_NAME", "MIDDLE", "is_integer", "is_name", "is_symbol", "is_values", "_is_worth", "_law_cell", "_law_heap", "_law_roll", "_law_pick", "_law_name", "_law_names", "_law_bent", "_law_is_name", "_law_is_symbol", "_law_is_values", "_law_pairs", "_law_odd", "_law_right"]
abbrev RW : PySem.W.OpenRow := PySem.W.OpenLaw.row PySem.Challenge.rw_blockmoves_k01_names_symbols_values
def asW : List Addr := [3, 6, 4, 21, 26, 33, 38, 45, 52, 59, 66, 73, 78, 83, 90, 95, 102, 109, 114, 121, 126, 131, 0, 20, 25, 32, 37, 44, 51, 58, 65, 72, 77, 82, 89, 94, 101, 108, 113, 120, 125, 130, 15, 16, 17, 18, 19, 22, 23, 24, 27, 28, 29, 30, 31, 34, 35, 36, 39, 40, 41, 42, 43, 46, 47, 48, 49, 50, 53, 54, 55, 56, 57, 60, 61, 62, 63, 64, 67, 68, 69, 70, 71, 74, 75, 76, 79, 80, 81, 84, 85, 86, 87, 88, 91, 92, 93, 96, 97, 98, 99, 100, 103, 104, 105, 106, 107, 110, 111, 112, 115, 116, 117, 118, 119, 122, 123, 124, 127, 128, 129]
abbrev hkW : PySem.W.Hook := hookW asW fsW fnW
def obR (s : PySem.W.SharedT) : AlW := obsWG asW fsW fnW (HandSHeadRun.getT s)
theorem obR_eq (s : PySem.W.SharedT) : obR s = hkW.obs s.abs := obsWG_eq (HandSHeadRun.getT_eq s)
end Lw

/-! ## KaO -/
set_option maxHeartbeats 0
namespace Lw
open PySem PySem.Spec PyProof.Rows L2
noncomputable abbrev runO (w : World) (os : OsState) : Option PySem.W.SharedT := HandSHeadRun.endF (HandSHeadRun.stepQ (HandSHeadRun.denQ HandSHeadRun.tabQ) RW.prog w) 900 RW.prog w os
abbrev qW : Program := PySem.W.view RW.prog [24]
open PySem.W PySem.Calls in
theorem run1 (w : World) (os : OsState) : (runO w os).map (fun s => (HandSHeadRun.looksF RW.prog (boot_heap w.params) s.abs, HandSHeadRun.seenQ qW looseW (importedModules RW.prog.main.body) (fun s => PySem.W.xlAt qW [] s && PySem.W.recOk RW.toRowW.records s) s.abs)) = some (true, PySem.W.openGood qW looseW) := by kernel_rfl
theorem run2 (w : World) (os : OsState) : (runO w os).map (fun s => obR s) = some (hkW.val w) := by kernel_rfl
theorem runW (w : World) : HandSHeadRun.RunEq RW qW hkW obR 900 looseW w := fun os => map_three (run1 w os) (run2 w os)
end Lw
open PySem PySem.W PySem.Calls PyProof.Rows
theorem PySem.Challenge.cw_blockmoves_k01_names_symbols_values_holds : PySem.Challenge.rw_blockmoves_k01_names_symbols_values.Holds := by
  w_on; o_law
  refine HandSHeadRun.head_any (r := OpenLaw.row PySem.Challenge.rw_blockmoves_k01_names_symbols_values) (q := view (OpenLaw.row PySem.Challenge.rw_blockmoves_k01_names_symbols_values).prog [24]) (H := Lw.hkW) (ob := Lw.obR) (M := 900) (loose := Lw.looseW) (d := HandSHeadRun.topDef (OpenLaw.row PySem.Challenge.rw_blockmoves_k01_names_symbols_values).prog 24) (kwd := []) Lw.obR_eq
    (by kernel_rfl) (fun s => by kernel_rfl) Lw.runW (by kernel_rfl) (by kernel_rfl) (by kernel_rfl) (by rfl) (by first | assumption | decide +kernel) (by decide +kernel) ⟨rfl, rfl, rfl, rfl, rfl, by decide +kernel⟩ ?hw ?hc
  case hw => w_witness2
  case hc =>
    refine Lw.walk_look (l := PySem.Challenge.rw_blockmoves_k01_names_symbols_values) (n := 63) (k := 6) (x := "_law_script") (sp := Lw.spLaw) rfl (by decide) (by kernel_rfl) ⟨⟨rfl, by decide, by decide⟩, rfl⟩ ?F (fun K H a ns hl _ hS => ⟨a, ns, rfl, hS, hl, fun _ => rfl⟩)
    intro w mg fa h Y G hmg0
    obtain ⟨K, KX, c⟩ := Y
    have hmg : mg ("law" : PySem.Str) = some (.ref fa) := by
      have e : (HandSHeadRun.topDef (OpenLaw.row PySem.Challenge.rw_blockmoves_k01_names_symbols_values).prog 24).name = ("law" : PySem.Str) := by kernel_rfl
      rw [← e]
      exact hmg0
    obtain ⟨fd, F0⟩ := c.def_ 18
    have F := Lw.Fun.ofD (st := Lw.s_law) F0
    have e := hmg.symm.trans (He.glo_ok KX G (c.fact 36))
    cases e
    exact ⟨K, fd, KX, fun u => Lw.Fun.bound (p := fun fd => bindArgs fd ⟨[u], []⟩ = (pure [("_law_script", u)] : Sem (List (Str × Value)))) F fun _ _ _ _ _ _ => rfl, fun base hm hG => Lw.end_mk hm hG KX G c hmg F⟩
