import PyProof.Rows.All
import Wide.All
import OpenK.AllK
import Wide.FinOn
import HandS.ForMost
import HandS.Wide
import HandS.IsInst
import HandS.Defaults
import PyProof.ReprRoads
import HandS.Flow
import HandS.Style
import HandS.Star
import HandS.OwnEq
import HandS.Exc
import KE.KOpsOwn
import KE.KFmtOwn
import KE.KxPart
import KE.SortData
import KE.KDictPairs
import HandS.DictTup
import KE.KDictWalk
import PyProof.InstEq
import KE.KParD
import HandS.ExcInit
import HandS.ExcField
import KE.KExcIs
import HandS.MakeKwOnly
import HandS.ExcOwn
import HandS.ExcValue
import HandS.ExcIs
import HandS.ExcCtx
import HandS.Lambda
import HandS.HotCalls
import HandS.DeepEq
import HandS.Sort
import PyProof.CallFns
import KE.KSuper
import HandS.Set
import HandS.SetFor
import HandS.Strs
import HandS.List
import HandS.More
import HandS.SetBool
import KE.DataMinMax
import HandS.SortKw
import PySem.Challenge.RW_blockmoves_k06_truth_of_conditions
import HandS.Walk
import HandS.Comp
import HandS.Text
import PyProof.Rows.StrLast
import KE.KIntText
import HandS.DictComp
import HandS.Codes
import HandS.FStr
import PyProof.Rows.RegStrFacts
import HandS.AnyAll
import HandS.TryOnly
import HandS.Conv
import HandS.Head0
import HandS.Head1
import HandS.Head2
import HandS.HeadEnd
import HandS.HeadHook1
import HandS.HeadHook2
set_option Elab.async false
set_option linter.all false
set_option maxRecDepth 100000
/-! ## LwA -/
set_option maxHeartbeats 4000000
namespace Lw
open PySem PySem.Spec PyProof.Rows L2

/-! ### an object looked at in another way -/
/-- what may be looked at otherwise -/
def Lt : HO → Prop
  | .lst _ => True
  | .ext _ => True
  | _ => False
/-- the same heap, some lists looked at otherwise -/
structure Rc (H H1 : Hp) : Prop where
  no : ∀ b, H b = none → H1 b = none
  lt : ∀ b o, H b = some o → H1 b = some o ∨ (Lt o ∧ ∃ o', H1 b = some o' ∧ Lt o')
theorem Rc.keep {H H1 : Hp} (r : Rc H H1) {b : Addr} {o : HO} (h : H b = some o) (n : ¬ Lt o) : H1 b = some o := by
  rcases r.lt b o h with e | ⟨l, _⟩
  · exact e
  · exact absurd l n
theorem Rc.refl (H : Hp) : Rc H H := ⟨fun _ h => h, fun _ _ h => .inl h⟩
theorem Rc.put {H : Hp} {a : Addr} {o u : HO} (h : H a = some o) (l : Lt o) (l' : Lt u) : Rc H (upd H a u) := ⟨fun b n => by
    rw [upd_ne (fun z => by rw [z, h] at n; cases n)]
    exact n, fun b v e => by
    by_cases hb : b = a
    · subst hb
      rw [h] at e
      cases e
      exact .inr ⟨l, u, upd_same, l'⟩
    · exact .inl (by rw [upd_ne hb]; exact e)⟩
section
variable {P : Program} {w : World} {H H1 H2 H3 : Hp} {h h' : Heap} {fs ex : List Addr}
theorem Rc.hok {a : Addr} {o u : HO} (x : HOk P w H h) (e : H a = some o) (l : Lt o) (new : ObjOk P w H h a u) : HOk P w (upd H a u) h := fun b v q => by
  have no : ∀ {c : Addr} {z : HO}, H c = some z → ¬ Lt z → c ≠ a := fun {c z} hc n q => by
    rw [q, e] at hc
    cases hc
    exact n l
  have stay : ∀ {b : Addr} {v : HO}, ObjOk P w H h b v → ObjOk P w (L2.upd H a u) h b v := fun {b v} x => x.stay (fun c v _ q => q) (fun c q => by rw [upd_ne (no q fun z => z)]; exact q) fun c xs q => by rw [upd_ne (no q fun z => z)]; exact q
  by_cases hb : b = a
  · subst hb
    rw [upd_same] at q
    cases q
    exact stay new
  · rw [upd_ne hb] at q
    exact stay (x b v q)
theorem Rc.un (r : Rc H H1) (r' : Rc H2 H3) (U : Un fs ex H1 H2 h h') : Un fs ex H H3 h h' where
  keep := fun b o q n h1 h2 => U.keep b o q (r.no b n) h1 h2
  slot := fun b o q n h1 h2 => U.slot b o q (r.no b n) h1 h2
  free := fun b o q n h1 => r'.no b (U.free b o q (r.no b n) h1)
  there := fun b o q h1 => U.there b o q h1
  tups := fun b xs q => r'.keep (U.tups b xs (r.keep q fun z => z)) fun z => z
  frzs := fun b o u q => r'.keep (U.frzs b o u (r.keep q fun z => z)) fun z => z
  tbls := fun b ps q => by
    obtain ⟨m, e⟩ := U.tbls b ps (r.keep q fun z => z)
    exact ⟨m, r'.keep e fun z => z⟩
end
theorem Rc.back {H H1 : Hp} (r : Rc H H1) {b : Addr} (n : H1 b = none) : H b = none := by
  cases e : H b with
  | none => rfl
  | some o =>
    rcases r.lt b o e with q | ⟨_, o', q, _⟩
    · rw [n] at q
      cases q
    · rw [n] at q
      cases q
/-- a promise over the other look -/
theorem recast {P : Program} {w : World} {K : PySem.W.Frag} {mg : Str → Option Value} {base : Heap} {k : Nat} {f : Addr} {fd : FuncData} {ps : List Str} {sp sp' : Sp} (F : FnOk P w K mg base CX0 k f fd ps sp) (len : ∀ vs H Q E, sp' vs H Q E → vs.length = ps.length)
    (hs : ∀ vs H Q E (h : Heap), sp' vs H Q E → HOk P w H h → ∃ H1, Rc H H1 ∧ HOk P w H1 h ∧ sp vs H1 (fun v H2 => ∀ h', HOk P w H2 h' → ∃ H3, Rc H2 H3 ∧ HOk P w H3 h' ∧ Q v H3) E0) : FnOk P w K mg base CX0 k f fd ps sp' := by
  refine ⟨len, fun A outer s H args us vs Q E hr e0 hb hv h => ?_⟩
  obtain ⟨H1, r, ok1, q⟩ := hs vs H Q E s.heap h e0.hok
  have e1 : Env0 P w K mg base A outer s H1 := ⟨e0.frames, e0.mod, fun b o e => ⟨(e0.bs b o e).1, r.no b (e0.bs b o e).2⟩, e0.bsz, e0.funs, fun b hb => r.no b (e0.frf b hb), ok1, e0.bare⟩
  refine codeAny_mono (F.run A outer s H1 args us vs _ _ hr e1 hb hv q) fun rr s' hq => ?_
  cases rr with
  | error e => exact hq
  | ok fl =>
    cases fl with
    | ret u =>
      obtain ⟨v, H2, os, bare, un, hok, rv, q2⟩ := hq
      obtain ⟨H3, r3, ok3, q3⟩ := q2 _ hok
      exact ⟨v, H3, os, bare, r.un r3 un, ok3, rv, q3⟩
    | next => exact hq
    | brk => exact hq
    | cont => exact hq

/-! ### what numbers are drawn from: a list of three ints that only the draws read -/
/-- the bounds of a drawn state -/
structure DB (s d : Int) : Prop where
  s0 : 0 ≤ s
  s1 : s < 2147483587
  d0 : 0 ≤ d
def DrawO (a : Addr) : HO := .ext fun h => ∃ (s d n : Int) (its : List Value) (m : Nat), DB s d ∧ Vals [V.int s, V.int d, V.int n] its ∧ h.get? a = some { cls := .type "list", data := .seq its.toArray m }
theorem draw_of {P : Program} {w : World} {H : Hp} {h : Heap} {a : Addr} {s d n : Int} (b : DB s d) (x : ObjOk P w H h a (.lst [.int s, .int d, .int n])) : ObjOk P w H h a (DrawO a) := by
  obtain ⟨_, its, m, r, e⟩ := x
  exact ⟨⟨s, d, n, its, m, b, r, e⟩, ⟨_, e⟩, fun h1 h2 ⟨s, d, n, its, m, b, r, e⟩ k => ⟨s, d, n, its, m, b, r, k _ e⟩⟩
theorem draw_to {P : Program} {w : World} {H : Hp} {h : Heap} {a : Addr} (x : ObjOk P w H h a (DrawO a)) : ∃ s d n, DB s d ∧ ObjOk P w H h a (.lst [.int s, .int d, .int n]) := by
  obtain ⟨⟨s, d, n, its, m, b, r, e⟩, _, _⟩ := x
  exact ⟨s, d, n, b, (by show 3 ≤ sizeLine; decide), its, m, r, e⟩

/-! ### ways joined -/
section
variable {X : Cx} {e : Expr} {te : TE} {tA : TT}
def tMid (te : TE) : TE := fun σ H Q => ∃ R : VK, te σ H R ∧ ∀ v H', R v H' → Q v H'
theorem pe_mid (h : PE X e te) : PE X e (tMid te) := ⟨fun pins s σ H Q I hq => by
  obtain ⟨R, h1, h2⟩ := hq
  exact thn (h.run pins s σ H R I h1) fun u s1 ⟨v, H1, I1, r, q⟩ => ⟨v, H1, I1, r, h2 _ _ q⟩⟩
def tMidT (t : TT) : TT := fun σ H Q => ∃ R : Bool → Hp → Prop, t σ H R ∧ ∀ b H', R b H' → Q b H'
theorem pt_mid (h : PT X e tA) : PT X e (tMidT tA) := ⟨fun pins s σ H Q I hq => by
  obtain ⟨R, h1, h2⟩ := hq
  exact thn (h.run pins s σ H R I h1) fun b s1 ⟨H1, I1, q⟩ => ⟨H1, I1, h2 _ _ q⟩⟩
end
theorem at_int {xs : List V} {r : Int} (h0 : 0 ≤ r) (h1 : r < xs.length) : ∃ v, atI xs r = some v ∧ v ∈ xs := by
  obtain ⟨j, rfl⟩ : ∃ j : Nat, r = (j : Int) := ⟨r.toNat, by omega⟩
  have hj : j < xs.length := by omega
  exact ⟨xs[j], atI_nat (List.getElem?_eq_getElem hj), List.getElem_mem hj⟩
theorem at_nat {xs : List Nat} {r : Int} (h0 : 0 ≤ r) (h1 : r < xs.length) : ∃ v, atI xs r = some v ∧ v ∈ xs := by
  obtain ⟨j, rfl⟩ : ∃ j : Nat, r = (j : Int) := ⟨r.toNat, by omega⟩
  have hj : j < xs.length := by omega
  exact ⟨xs[j], atI_nat (List.getElem?_eq_getElem hj), List.getElem_mem hj⟩
theorem mem_cutV {xs : List V} {lo hi : Option Int} {v : V} (h : v ∈ cutV xs lo hi) : v ∈ xs := List.mem_of_mem_drop (List.mem_of_mem_take h)
theorem Same.new {H : Hp} {p : Addr} {o : HO} (h : H p = none) : Same H (upd H p o) := fun a u e => by
  rw [upd_ne (ne_of_none e h)]
  exact e

/-! ### the promises -/
/-- what was tracked stands, v is so: Q of it -/
def Gives (H : Hp) (Q : VK) (p : V → Hp → Prop) : Prop := ∀ v H', Same H H' → p v H' → Q v H'
def spRollL : Sp := fun vs H Q _ => ∃ (a : Addr) (s d n m : Int), vs = [.ref a, .int m] ∧ H a = some (.lst [.int s, .int d, .int n]) ∧ DB s d ∧ 0 < m ∧ m.natAbs < 2 ^ 200 ∧
  ∀ (r s' d' n' : Int) (H' : Hp), 0 ≤ r → r < m → DB s' d' → H' = upd H a (.lst [.int s', .int d', .int n']) → Q (.int r) H'
/-- a number from 0 to m - 1 -/
def spRoll : Sp := fun vs H Q _ => ∃ (a : Addr) (m : Int), vs = [.ref a, .int m] ∧ H a = some (DrawO a) ∧ 0 < m ∧ m.natAbs < 2 ^ 200 ∧ ∀ r : Int, 0 ≤ r → r < m → Q (.int r) H
theorem roll_recast {P : Program} {w : World} {K : PySem.W.Frag} {mg : Str → Option Value} {base : Heap} {k : Nat} {f : Addr} {fd : FuncData} {ps : List Str} (hps : ps.length = 2) (F : FnOk P w K mg base CX0 k f fd ps spRollL) : FnOk P w K mg base CX0 k f fd ps spRoll := by
  refine recast F (fun vs H Q E h => ?_) fun vs H Q E h q ok => ?_
  · obtain ⟨a, m, rfl, _⟩ := h
    exact hps.symm
  · obtain ⟨a, m, rfl, ha, h0, h1, q⟩ := q
    obtain ⟨s, d, n, b, x⟩ := draw_to (ok a _ ha)
    refine ⟨upd H a (.lst [.int s, .int d, .int n]), Rc.put ha True.intro True.intro, Rc.hok ok ha True.intro x, a, s, d, n, m, rfl, upd_same, b, h0, h1, fun r s' d' n' H' r0 r1 b' e h' ok' => ?_⟩
    subst e
    refine ⟨H, ?_, ?_, q r r0 r1⟩
    · have e : upd (upd (upd H a (.lst [.int s, .int d, .int n])) a (.lst [.int s', .int d', .int n'])) a (DrawO a) = H := by
        rw [upd_upd, upd_upd]
        funext b
        by_cases hb : b = a
        · rw [hb, upd_same, ha]
        · rw [upd_ne hb]
      rw [← e]
      have z := Rc.put (H := upd (upd H a (.lst [.int s, .int d, .int n])) a (.lst [.int s', .int d', .int n'])) (a := a) (u := DrawO a) upd_same True.intro True.intro
      rw [e] at z ⊢
      exact z
    · have e : upd (upd (upd H a (.lst [.int s, .int d, .int n])) a (.lst [.int s', .int d', .int n'])) a (DrawO a) = H := by
        rw [upd_upd, upd_upd]
        funext b
        by_cases hb : b = a
        · rw [hb, upd_same, ha]
        · rw [upd_ne hb]
      rw [← e]
      exact Rc.hok ok' upd_same True.intro (draw_of b' (ok' a _ upd_same))
end Lw

/-! ## LwG -/
set_option maxHeartbeats 4000000
/-! Promises of defs that are called where no guard of the C level is set (repr of a list asks for that). -/
namespace Lw
open PySem PySem.Spec PyProof.Rows L2
/-- room, and no guard -/
structure RoomG (k : Nat) (A : Around) : Prop where
  rm : Room k A
  gd : A.guards = some []
theorem RoomG.mono {j k : Nat} {A : Around} (r : RoomG k A) (h : j ≤ k) : RoomG j A := ⟨r.rm.mono h, r.gd⟩
theorem RoomG.deeper {k : Nat} {A : Around} (r : RoomG (k + 1) A) (env : Env) : RoomG k (A.deeper env) := ⟨r.rm.deeper env, r.gd⟩
theorem RoomG.units {k : Nat} {A : Around} (r : RoomG k A) : A.units + 64 < cLine := r.rm.units
/-- the def at f keeps the promise sp -/
structure FnG (P : Program) (w : World) (K : PySem.W.Frag) (mg : Str → Option Value) (base : Heap) (k : Nat) (f : Addr) (fd : FuncData) (ps : List Str) (sp : Sp) : Prop where
  len : ∀ vs H Q E, sp vs H Q E → vs.length = ps.length
  run : ∀ (A : Around) (outer : List Env) (s : Shared) (H : Hp) (args : Args) (us : List Value) (vs : List V) (Q : VK), RoomG k A → Env0 P w K mg base A outer s H → BindsTo s fd args (ps.zip us) → Vals vs us → sp vs H Q E0 →
    codeAny (model P w) A (.call (.ref f) args) (CR CX0 outer P w H s Q E0) s
section
variable {P : Program} {w : World} {K : PySem.W.Frag} {mg : Str → Option Value} {base : Heap} {k : Nat} {f : Addr} {fd : FuncData} {ps : List Str} {sp sp' : Sp}
theorem FnG.of (F : FnOk P w K mg base CX0 k f fd ps sp) : FnG P w K mg base k f fd ps sp := ⟨F.len, fun A outer s H args us vs Q hr => F.run A outer s H args us vs Q E0 hr.rm⟩
theorem FnG.mono {j : Nat} (F : FnG P w K mg base j f fd ps sp) (h : j ≤ k) : FnG P w K mg base k f fd ps sp := ⟨F.len, fun A outer s H args us vs Q hr => F.run A outer s H args us vs Q (hr.mono h)⟩
theorem FnG.imp (F : FnG P w K mg base k f fd ps sp) (h : ∀ vs H Q E, sp' vs H Q E → sp vs H Q E) : FnG P w K mg base k f fd ps sp' :=
  ⟨fun vs H Q E q => F.len vs H Q E (h _ _ _ _ q), fun A outer s H args us vs Q hr he hb hv hs => F.run A outer s H args us vs Q hr he hb hv (h _ _ _ _ hs)⟩
/-- a def of the text, by its body -/
theorem okG {x qual : Str} {st : Stmt} {N : List Str} (F : Fun K x qual st f fd) (S : FnScope N ps (defScope st)) (len : ∀ vs H Q E, sp vs H Q E → vs.length = ps.length)
    (hbody : ∀ (cdv : Value) (A : Around) (outer : List Env) (s : Shared) (H : Hp) (vs : List V) (Q : VK), RoomG k (A.deeper (envOfC qual (defScope st) s.heap.objs.size f cdv)) → sp vs H Q E0 →
      ∃ t, PSs (cxOf CX0 P w K mg base N qual (defScope st) f cdv A outer s H E0).nox (defBody st) t ∧ t { nx := fun _ H' => Q .non H', rt := Q } (start N vs) H) : FnG P w K mg base (k + 1) f fd ps sp := by
  obtain ⟨oc, od, kV, doc, pm, an, cdv, ct, osl, rfl, lk, hcd⟩ := F.ex
  refine ⟨len, fun A outer s H args us vs Q hr e0 hb r hsp => ?_⟩
  have below : ∀ b o, base.get? b = some o → s.heap.get? b = some o := fun b o e => (e0.bs b o e).1
  have KX := e0.mod.kin.keeps below
  have lim := e0.mod.nolimit.keeps below
  have bound : ∀ y ∈ ps.zip us, (defScope st).names.lookup y.1 = some .local ∨ ((defScope st).names.lookup y.1 = some .cell ∧ ((cellsFrom (s.heap.objs.size + 1) (defScope st).names []).lookup y.1).isSome = true) := fun ⟨n, v⟩ hy =>
    (S.par n (List.of_mem_zip hy).1).elim .inl fun q => .inr ⟨q, PySem.W.cellsFrom_some _ _ _ (.inl q)⟩
  refine codeAny_call_function hr.rm.depth (KX _ _ lk) rfl S.co S.gen rfl (PySem.W.codeRec_of KX hcd) (hb _ _ _ _ ?_)
  refine wpAny_newFunctionEnv_cells S.kind bound fun env he s1 x => ?_
  subst he
  refine ⟨lim.keeps x.toInCall.keep, codeAny_func ?_⟩
  obtain ⟨t, ht, hq⟩ := hbody cdv A outer s H vs Q (hr.deeper _) hsp
  have I := inv_start (CX := CX0) (E := E0) S hr.rm.hd e0 (len _ _ _ _ hsp) r x
  refine wpAny_mono (ht.nox.run [] s1 (start N vs) H _ I hq) (fun fl s' hs => ?_) fun e s' hs => hs
  cases fl with
  | ret u =>
    obtain ⟨v, σ', H', J, rv, q⟩ := hs
    exact ⟨v, H', J.os, J.bare, J.base, J.hok, rv, q⟩
  | next =>
    obtain ⟨σ', H', J, q⟩ := hs
    exact ⟨V.non, H', J.os, J.bare, J.base, J.hok, rfl, q⟩
  | brk => exact hs.elim fun _ h => h.elim fun _ h => h.2.elim
  | cont => exact hs.elim fun _ h => h.elim fun _ h => h.2.elim
end
/-- a def of the module, by its promise -/
structure Cal (P : Program) (w : World) (K : PySem.W.Frag) (mg : Str → Option Value) (base : Heap) (k : Nat) (x : Str) (ps : List Str) (sp : Sp) : Prop where
  ex : ∃ (f : Addr) (fd : FuncData), FnG P w K mg base k f fd ps sp ∧ mg x = some (.ref f) ∧ PySem.W.keepIn K (.ref f) = true ∧ (∀ us : List Value, us.length = ps.length → bindArgs fd ⟨us, []⟩ = pure (ps.zip us)) ∧
    (∀ u : Value, ps.length = 1 → bindArgs fd ⟨[], ps.zip [u]⟩ = pure (ps.zip [u]))
section
variable {X : Cx} {k j : Nat} {x : Str} {ps : List Str} {sp : Sp} {p pos : Pos} {e : Expr} {es : List Expr} {kws : List Keyword} {t tk : TA}
theorem run_g {f : Addr} {fd : FuncData} {args : Args} {us : List Value} {vs : List V} {pins : List (Addr × Obj)} {σ : L2.St} {H : Hp} {s : Shared} {Q : VK} (F : FnG X.prog X.w X.K X.mg X.base k f fd ps sp) (hr : RoomG k X.A) (b : bindArgs fd args = pure (ps.zip us))
    (I : Inv X pins σ H s) (r : Vals vs us) (h : sp vs H Q E0) : codeAny (model X.prog X.w) X.A (.call (.ref f) args) (fun r s' => match r with | .ok (.ret u) => EP X pins σ Q u s' | .ok _ => False | .error e => X.xe e s') s := by
  refine codeAny_mono (F.run X.A X.stack s H args us vs Q hr I.env0 (.of_eq b) r h) fun r s' hq => ?_
  cases r with
  | error e => exact False.elim hq
  | ok fl =>
    cases fl with
    | ret u => exact I.after hq
    | next => exact hq
    | brk => exact hq
    | cont => exact hq
theorem pe_c (c : Cal X.prog X.w X.K X.mg X.base k x ps sp) (hr : RoomG j X.A) (hk : k ≤ j) (hg : Gl X x) (ha : PA X (e :: es) t)
    (hdb : (x == ("__debug__" : Str)) = false := by decide) (he : starEach (e :: es) X.env = (false, eval e X.env) :: starEach es X.env := by rfl) (hpl : (backTo pos (starEach es X.env)).any (·.1) = false := by rfl) :
    PE X (.Call (.Name x p) (e :: es) [] pos) (tCall sp [] E0 t) := by
  obtain ⟨f, fd, F, hm, kp, b, _⟩ := c.ex
  refine ⟨fun pins s σ H Q I h => ?_⟩
  refine wpAny_Call_Name_kw (ld_glob I hg hm ?_ hdb)
  refine PySem.W.callWith_K (h₀ := X.base) I.ok.mod.kin kp (thn (ha.run pos pins s σ H _ I h) fun us s1 ⟨vs, H1, I1, r, q⟩ => ⟨I1.kIn, ?_⟩) he hpl
  have q : sp vs H1 Q E0 := by
    have q' : sp (vs ++ []) H1 Q E0 := q
    rwa [List.append_nil] at q'
  show wpAny _ _ (call (.ref f) us) _ _ _
  exact wpAny_call (codeAny_mono (run_g F (hr.mono hk) (b us (by rw [← r.length]; exact F.len _ _ _ _ q)) I1 r q) fun r s' z => by
    rcases r with e | (v | _ | _ | _) <;> exact z)
theorem pe_c0 (c : Cal X.prog X.w X.K X.mg X.base k x ps sp) (hr : RoomG j X.A) (hk : k ≤ j) (hg : Gl X x)
    (hdb : (x == ("__debug__" : Str)) = false := by decide) : PE X (.Call (.Name x p) [] [] pos) (tCall sp [] E0 tNil) := by
  obtain ⟨f, fd, F, hm, kp, b, _⟩ := c.ex
  refine ⟨fun pins s σ H Q I h => ?_⟩
  refine wpAny_Call_Name_kw (ld_glob I hg hm ?_ hdb)
  have q : sp [] H Q E0 := h
  exact PySem.W.callWith_K0 I.kIn kp (wpAny_call (codeAny_mono (run_g F (hr.mono hk) (b [] (F.len _ _ _ _ q)) I .nil q) fun r s' z => by
    rcases r with e | (v | _ | _ | _) <;> exact z))
/-- f(k = e), a def of one parameter -/
theorem pe_ck (c : Cal X.prog X.w X.K X.mg X.base k x ps sp) (hr : RoomG j X.A) (hk : k ≤ j) (hps : ps.length = 1) (hg : Gl X x) (hkw : PK X kws tk)
    (hall : (backToKw pos (keywordEach kws X.env)).all (·.1.isSome) = true := by rfl) (hks : (backToKw pos (keywordEach kws X.env)).filterMap (·.1) = ps := by rfl) (hdb : (x == ("__debug__" : Str)) = false := by decide)
    (hpl : ((backTo pos (starEach [] X.env)).any (·.1) || (backToKw pos (keywordEach kws X.env)).any (·.1.isNone)) = false := by rfl) :
    PE X (.Call (.Name x p) [] kws pos) (tCall sp [] E0 tk) := by
  obtain ⟨f, fd, F, hm, kp, _, b⟩ := c.ex
  refine ⟨fun pins s σ H Q I h => ?_⟩
  refine wpAny_Call_Name_kw (ld_glob I hg hm ?_ hdb)
  refine PySem.W.callWith_KW0 (h₀ := X.base) I.ok.mod.kin kp hall ?_ hpl
  refine thn (hkw.run pos pins s σ H _ I h) fun us s1 ⟨vs, H1, I1, r, q⟩ => ⟨I1.kIn, ?_⟩
  rw [hks]
  have q : sp vs H1 Q E0 := by
    have q' : sp (vs ++ []) H1 Q E0 := q
    rwa [List.append_nil] at q'
  have l1 : vs.length = 1 := (F.len _ _ _ _ q).trans hps
  obtain ⟨u, rfl⟩ : ∃ u, us = [u] := by
    have l2 : us.length = 1 := r.length.symm.trans l1
    match us, l2 with
    | [u], _ => exact ⟨u, rfl⟩
  exact wpAny_call (codeAny_mono (run_g F (hr.mono hk) (b u hps) I1 r q) fun r s' z => by
    rcases r with e | (v | _ | _ | _) <;> exact z)
end
/-- repr of data -/
def rRepr (K : PySem.W.Frag) : List V → Hp → VK → Prop := fun xs H Q => ∃ (a : Addr) (d : PyData), xs = [.ref a] ∧ Dp K H (.ref a) d ∧ d.showable = true ∧ d.hasDict = false ∧ d.depth ≤ 50 ∧ d.shown.length ≤ sizeLine ∧ Q (.str d.shown) H
theorem call_repr {X : Cx} {k : Nat} (hr : RoomG k X.A) : CallR X (.builtin "repr") (rRepr X.K) := by
  intro pins s σ H xs us Q I r h
  obtain ⟨a, d, rfl, hd, hs, hx, hdep, hl, q⟩ := h
  obtain ⟨u, rfl, rx⟩ := vals1 r
  obtain ⟨as, rd⟩ := Dp.reads I d _ u hd rx
  cases (show u = Value.ref a from rx)
  have hu := hr.units
  exact repr_of_reads' rd hs (fun z => by rw [hx] at z; cases z) hr.gd (by omega) (fun _ _ e => e) (fun h' u tk kk => ⟨.str d.shown, H, I.kept (h' := h') (t' := tk) kk, ⟨u, rfl⟩, q⟩) hl

/-- the end of a law's row -/
theorem law_end {P : Program} {w : World} {K : PySem.W.Frag} {mg mb : Str → Option Value} {k : Nat} {fa a : Addr} {fd : FuncData} {x : Str} {sp : Sp} {s₁ : Shared} {vs : List Value} {ns : List Int}
    (KX : K.In s₁.heap) (hns : s₁.heap.Ns mainGlobals mg) (hb : s₁.heap.Ns builtinsNs mb) (hbb : ∀ x : Str, x ≠ "__name__" → mb x = bootBuiltins x) (hlim : s₁.heap.NoLimit) (hg : s₁.gens = #[])
    (ha : s₁.heap.get? a = some { cls := .type "list", data := .seq vs.toArray }) (hi : IntsAre vs ns) (hl : ns.length ≤ sizeLine) (hr : RoomG k callerA)
    (F : ∀ base : Heap, K.In base → base.Ns mainGlobals mg → FnG P w K mg base k fa fd [x] sp) (hbind : ∀ u : Value, bindArgs fd ⟨[u], []⟩ = pure [(x, u)])
    (hsp : ∀ H : Hp, Only H → SqL K H a (ns.map V.int) → sp [.ref a] H (fun v _ => v = .bl true) E0) :
    codeAny (model P w) callerA (.call (.ref fa) ⟨[.ref a], []⟩) (fun r s' => r = .ok (.ret (.bool true)) ∧ OldK s₁.heap s'.heap ∧ s'.os = s₁.os ∧ AllBare s'.gens) s₁ := by
  have rv := vals_ints hi
  have lenV := hi.length
  have hsz : (ns.map V.int).length ≤ sizeLine := by rw [List.length_map]; exact hl
  have core : ∀ H : Hp, Only H → SqL K H a (ns.map V.int) → HOk P w H s₁.heap → (∀ b, H b ≠ none → b = a) → (H a ≠ none → K.lookup a = none) →
      codeAny (model P w) callerA (.call (.ref fa) ⟨[.ref a], []⟩) (fun r s' => r = .ok (.ret (.bool true)) ∧ OldK s₁.heap s'.heap ∧ s'.os = s₁.os ∧ AllBare s'.gens) s₁ := by
    intro H hO hS hok hA hK
    have free : ∀ {b : Addr} {o : Obj}, s₁.heap.get? b = some o → (b = a → False) → H b = none := fun {b o} _ n => by
      cases q : H b with
      | none => rfl
      | some u => exact (n (hA b (by rw [q]; simp))).elim
    have nsK : ∀ {b : Addr} {m : Str → Option Value}, s₁.heap.Ns b m → (hidT s₁.heap H).Ns b m := fun {b m} ⟨o, es, ep, e, d, r⟩ => ⟨o, es, ep, hidT_get e (free e fun z => by
      subst z
      rw [ha] at e
      cases e
      cases d), d, r⟩
    have hKb : K.In (hidT s₁.heap H) := fun b o e => hidT_get (KX b o e) (by
      cases q : H b with
      | none => rfl
      | some u =>
        have z := hA b (by rw [q]; simp)
        subst z
        rw [hK (by rw [q]; simp)] at e
        cases e)
    have hM : Mod K mg (hidT s₁.heap H) := ⟨hKb, nsK hns, ⟨mb, nsK hb, hbb⟩, hlim.elim fun mc h => ⟨mc, nsK h.1, h.2⟩⟩
    have nofr : ∀ b, b ∉ frs [] := fun b hb => by cases hb
    have e0 : Env0 P w K mg (hidT s₁.heap H) callerA [] s₁ H := ⟨rfl, hM, fun b o e => of_hidT e, Nat.le_of_eq (hidT_size _ _), trivial, fun b hb => (nofr b hb).elim, hok, .of_eq hg⟩
    refine codeAny_mono ((F _ hKb (nsK hns)).run callerA [] s₁ H ⟨[.ref a], []⟩ [.ref a] [.ref a] _ hr e0 (.of_eq (hbind (.ref a))) (.cons rfl .nil) (hsp H hO hS)) fun r s' h => ?_
    match r, h with
    | .ok (.ret u), ⟨v, H', os, bare, un, hok', r', q⟩ =>
      have q' : v = .bl true := q
      subst q'
      obtain rfl : u = Value.bool true := r'
      refine ⟨rfl, OldK.of_keep fun b o e => ?_, os, bare⟩
      rcases hO b with z | ⟨ob, xs, z⟩
      · exact un.keep b o e z (nofr b) (fun q => by cases q)
      · have e1 := (hok b _ z).1
        rw [e] at e1
        cases e1
        exact (hok' b _ (un.frzs b _ _ z)).1
  cases hk : K.lookup a with
  | some o =>
    have e := KX a o hk
    rw [ha] at e
    cases e
    exact core (fun _ => none) (fun _ => .inl rfl) (.inr ⟨_, vs.toArray, _, hk, rfl, rfl, rfl, by rw [List.size_toArray, lenV]; exact hl, by simpa using rv⟩) (fun b u z => nomatch z) (fun b z => (z rfl).elim) fun z => (z rfl).elim
  | none =>
    have at_ : ∀ {b : Addr} {u : HO}, (if b = a then some (HO.frz { cls := .type "list", data := .seq vs.toArray } (.lst (ns.map V.int))) else none) = some u → b = a ∧ u = HO.frz { cls := .type "list", data := .seq vs.toArray } (.lst (ns.map V.int)) := fun {b u} z => by
      split at z
      · exact ⟨by assumption, (Option.some.inj z).symm⟩
      · cases z
    refine core (fun b => if b = a then some (.frz { cls := .type "list", data := .seq vs.toArray } (.lst (ns.map V.int))) else none) (fun b => ?_) (.inl (.inr ⟨_, if_pos rfl⟩)) (fun b u z => ?_) (fun b z => ?_) fun _ => hk
    · by_cases hb : b = a
      · exact .inr ⟨_, _, if_pos hb⟩
      · exact .inl (if_neg hb)
    · obtain ⟨rfl, rfl⟩ := at_ z
      exact ⟨ha, hsz, vs, _, rv, ha⟩
    · by_cases hb : b = a
      · exact hb
      · exact (z (if_neg hb)).elim
theorem walk_end {l : PySem.W.OpenLaw} {n k : Nat} {q : Program} {loose : List Str} {XP : (Str → Option Value) → Heap → Prop} {YP : World → Heap → Prop} {d : DefRec} {K : Params → PySem.W.Frag} {sp : PySem.W.Frag → Sp} {x : Str}
    (hn : l.most = some n) (hn2 : n ≤ sizeLine) (hdf : d.params.defaults = []) (hr : RoomG k callerA) (hY : ∀ (w : World) (h : Heap), YP w h → (K w.params).In h)
    (F : ∀ (w : World) (mg : Str → Option Value) (fa : Addr) (h : Heap), (K w.params).In h → h.Ns mainGlobals mg → mg d.name = some (.ref fa) →
      ∃ fd : FuncData, (∀ u : Value, bindArgs fd ⟨[u], []⟩ = pure [(x, u)]) ∧ ∀ base : Heap, (K w.params).In base → base.Ns mainGlobals mg → FnG l.prog w (K w.params) mg base k fa fd [x] (sp (K w.params)))
    (hsp : ∀ (K : PySem.W.Frag) (H : Hp) (a : Addr) (ns : List Int), ns.length ≤ n → Only H → SqL K H a (ns.map V.int) → sp K [.ref a] H (fun v _ => v = .bl true) E0) :
    PySem.W.WalkO q loose XP YP l.row.toRowW d [] (fun f vs => PySem.call f vs) := by
  refine Att.attach_call hn hdf fun w s₀ s₁ mg mb fa o pm cd doc a vs ns G Y ho hd hcd hmg hobj hints hlen hg => ?_
  obtain ⟨fd, hb, hF⟩ := F w mg fa _ (hY w _ Y) G.T.g hmg
  exact law_end (hY w _ Y) G.T.g G.T.b G.T.builtins G.T.nolimit hg hobj hints (Nat.le_trans hlen hn2) hr hF hb (fun H hO hS => hsp (K w.params) H a ns hlen hO hS)
end Lw

/-! ## Fm3 -/
set_option maxHeartbeats 4000000
/-! own classes: operators, str, static methods, keyword parameters -/
namespace Lw
open PySem PySem.Spec PyProof.Rows L2
theorem RoomG.in1 {k : Nat} {A : Around} (r : RoomG (k + 1) A) : RoomG k A.in1 := ⟨r.rm.in1, r.gd⟩
theorem make_guards {A : Around} {C : Addr} {us : List Value} {kw : List (Str × Value)} : (A.under (.builtin "type.__call__" ⟨.ref C :: us, kw⟩)).guards = A.guards := by
  first | rfl | simp [Around.under, Code.isGuard, guardIds]
theorem RoomG.make {k : Nat} {A : Around} (r : RoomG (k + 1) A) (C : Addr) (us : List Value) (kw : List (Str × Value)) : RoomG k (A.under (.builtin "type.__call__" ⟨.ref C :: us, kw⟩)) := ⟨r.rm.make C us kw, by rw [make_guards]; exact r.gd⟩
theorem rel_ni {v : V} {u : Value} (r : RelV v u) : u ≠ .notImplemented := by
  intro e
  subst e
  cases v <;> first | (obtain ⟨_, r⟩ := r; cases r; done) | (cases r; done)
/-- what is not reached -/
theorem ps_dead {X : Cx} {st : Stmt} : PS X st (fun _ _ _ => False) := ⟨fun _ _ _ _ _ _ h => h.elim⟩
theorem pss_dead {X : Cx} {st : List Stmt} : PSs X st (fun _ _ _ => False) := ⟨fun _ _ _ _ _ _ h => h.elim⟩
section
variable {X : Cx} {k j : Nat} {f C : Addr} {fd : FuncData} {ps : List Str} {sp : Sp} {m : Str}
/-- a call of a def, somewhere below the running body -/
theorem run_at {A : Around} {args : Args} {us : List Value} {vs : List V} {pins : List (Addr × Obj)} {σ : L2.St} {H : Hp} {s : Shared} {Q : VK} (F : FnG X.prog X.w X.K X.mg X.base k f fd ps sp) (hr : RoomG k A) (hf : A.frames = X.A.frames)
    (b : bindArgs fd args = pure (ps.zip us)) (I : Inv X pins σ H s) (r : Vals vs us) (h : sp vs H Q E0) :
    codeAny (model X.prog X.w) A (.call (.ref f) args) (fun r s' => match r with | .ok (.ret u) => EP X pins σ Q u s' | .ok _ => False | .error e => X.xe e s') s := by
  have e0 : Env0 X.prog X.w X.K X.mg X.base A X.stack s H := by
    have e := I.env0
    exact ⟨by rw [hf]; exact e.frames, e.mod, e.bs, e.bsz, e.funs, e.frf, e.hok, e.bare⟩
  refine codeAny_mono (F.run A X.stack s H args us vs Q hr e0 (.of_eq b) r h) fun r s' hq => ?_
  cases r with
  | error e => exact False.elim hq
  | ok fl =>
    cases fl with
    | ret u => exact I.after hq
    | next => exact hq
    | brk => exact hq
    | cont => exact hq
end
/-- a def of the class's body -/
structure Mt (P : Program) (w : World) (K : PySem.W.Frag) (mg : Str → Option Value) (base : Heap) (k : Nat) (C : Addr) (m : Str) (ps : List Str) (sp : Sp) : Prop where
  ex : ∃ (f : Addr) (fd : FuncData), FnG P w K mg base k f fd ps sp ∧ Meth K C m f ∧ (∀ us : List Value, us.length = ps.length → bindArgs fd ⟨us, []⟩ = pure (ps.zip us)) ∧
    (∀ (u v : Value) (a b : Str), ps = [a, b] → bindArgs fd ⟨[u], [(b, v)]⟩ = pure ([a, b].zip [u, v]))
section
variable {X : Cx} {k j : Nat} {C : Addr} {ps : List Str} {sp : Sp} {m : Str} {o e : Expr} {es : List Expr} {kws : List Keyword} {ta : TE} {t tk : TA} {pos apos : Pos}
/-- an instance of the class at C -/
def Is (C : Addr) (H : Hp) (a : Addr) : Prop := ∃ dx fs, H a = some (.ins C dx fs)
theorem is_inst {pins : List (Addr × Obj)} {σ : L2.St} {H : Hp} {s : Shared} {a : Addr} (I : Inv X pins σ H s) (h : Is C H a) : ∃ ox od, PySem.W.InstAt s.heap a ox C od := by
  obtain ⟨dx, fs, h⟩ := h
  obtain ⟨mA, J, _⟩ := ins_get I.hok h
  obtain ⟨od, J, _⟩ := J.look
  exact ⟨_, _, J⟩
/-- o.m(e, ..) -/
def tMe (C : Addr) (m : Str) (sp : Sp) (ta : TE) (t : TA) : TE := fun σ H Q => ta σ H fun x H1 => ∃ a dx fs, x = .ref a ∧ H1 a = some (.ins C dx fs) ∧ fs.lookup m = none ∧ t σ H1 fun vs H2 => sp (x :: vs) H2 Q E0
theorem pe_me {pl : Sem Bool} (he : PE X o ta) (c : Cls X.K C) (M : Mt X.prog X.w X.K X.mg X.base k C m ps sp) (hr : RoomG j X.A) (hk : k ≤ j) (ha : PA X (e :: es) t)
    (hst : starEach (e :: es) X.env = (false, eval e X.env) :: starEach es X.env := by rfl) (hpl : (backTo pos (starEach es X.env)).any (·.1) = false := by rfl)
    (ht : eval (.Call (.Attribute o m apos) (e :: es) [] pos) X.env = (do
      let ov ← eval o X.env
      standAt apos.atName
      let (f, first) ← holding [ov] (getMethod ov m pl)
      callWith pos f first (backTo pos (starEach (e :: es) X.env)) (backToKw pos (keywordEach [] X.env))) := by rfl) :
    PE X (.Call (.Attribute o m apos) (e :: es) [] pos) (tMe C m sp ta t) := by
  obtain ⟨f, fd, F, hm, b, _⟩ := M.ex
  refine ⟨fun pins s σ H Q I h => ?_⟩
  refine PySem.W.methodCall_KW (pl := pl) (thn (he.run pins s σ H _ I h) fun u s1 ⟨x, H1, I1, rx, a, dx, fs, ex, ea, l, q⟩ => ?_) ht
  subst ex
  obtain rfl : u = Value.ref a := rx
  refine getmeth_ok I1 ea c hm l ?_
  refine PySem.W.callWith_K (first := [.ref a]) (h₀ := X.base) I.ok.mod.kin hm.kp (thn (ha.run pos pins s1 σ H1 _ I1 q) fun us s2 ⟨vs, H2, I2, r, q2⟩ => ⟨I2.kIn, ?_⟩) hst hpl
  have r2 : Vals (V.ref a :: vs) (Value.ref a :: us) := .cons rfl r
  exact wpAny_call (codeAny_mono (run_at F (hr.mono hk) rfl (b (Value.ref a :: us) (by rw [← r2.length]; exact F.len _ _ _ _ q2)) I2 r2 q2) fun r s' z => by
    rcases r with e | (v | _ | _ | _) <;> exact z)
/-- o.m(k = e), m of one parameter beside self -/
theorem pe_mek {pl : Sem Bool} {p1 p2 : Str} {ev : Expr} {p : Pos} {tv : TE} (he : PE X o ta) (c : Cls X.K C) (M : Mt X.prog X.w X.K X.mg X.base k C m [p1, p2] sp) (hr : RoomG j X.A) (hk : k ≤ j) (hkw : PK X kws tk)
    (hall : (backToKw pos (keywordEach kws X.env)).all (·.1.isSome) = true := by rfl) (hks : (backToKw pos (keywordEach kws X.env)).filterMap (·.1) = [p2] := by rfl)
    (hpl : ((backTo pos (starEach [] X.env)).any (·.1) || (backToKw pos (keywordEach kws X.env)).any (·.1.isNone)) = false := by rfl)
    (ht : eval (.Call (.Attribute o m apos) [] kws pos) X.env = (do
      let ov ← eval o X.env
      standAt apos.atName
      let (f, first) ← holding [ov] (getMethod ov m pl)
      callWith pos f first (backTo pos (starEach [] X.env)) (backToKw pos (keywordEach kws X.env))) := by rfl) :
    PE X (.Call (.Attribute o m apos) [] kws pos) (tMe C m sp ta tk) := by
  obtain ⟨f, fd, F, hm, _, b⟩ := M.ex
  refine ⟨fun pins s σ H Q I h => ?_⟩
  refine PySem.W.methodCall_KW (pl := pl) (thn (he.run pins s σ H _ I h) fun u s1 ⟨x, H1, I1, rx, a, dx, fs, ex, ea, l, q⟩ => ?_) ht
  subst ex
  obtain rfl : u = Value.ref a := rx
  refine getmeth_ok I1 ea c hm l ?_
  refine PySem.W.callWith_KW0 (first := [.ref a]) (h₀ := X.base) I.ok.mod.kin hm.kp hall (thn (hkw.run pos pins s1 σ H1 _ I1 q) fun us s2 ⟨vs, H2, I2, r, q2⟩ => ⟨I2.kIn, ?_⟩) hpl
  rw [hks]
  have r2 : Vals (V.ref a :: vs) (Value.ref a :: us) := .cons rfl r
  obtain ⟨v, rfl⟩ : ∃ v, us = [v] := by
    have l2 := F.len _ _ _ _ q2
    have l3 := r.length
    simp at l2
    match us, (show us.length = 1 by omega) with
    | [v], _ => exact ⟨v, rfl⟩
  exact wpAny_call (codeAny_mono (run_at F (hr.mono hk) rfl (b _ _ _ _ rfl) I2 r2 q2) fun r s' z => by
    rcases r with e | (v | _ | _ | _) <;> exact z)
/-! ### operators -/
/-- a op b by the own method of a's class -/
def rOwn (C : Addr) (sp : Sp) : R2 := fun x y H Q => ∃ a b, x = .ref a ∧ y = .ref b ∧ Is C H a ∧ Is C H b ∧ sp [x, y] H Q E0
theorem call_bin {pins : List (Addr × Obj)} {σ : L2.St} {H : Hp} {s : Shared} {Q : VK} {f : Addr} {fd : FuncData} {us : List Value} {vs : List V} (F : FnG X.prog X.w X.K X.mg X.base k f fd ps sp) (hr : RoomG k X.A) (b : bindArgs fd ⟨us, []⟩ = pure (ps.zip us)) (I : Inv X pins σ H s) (r : Vals vs us) (h : sp vs H Q E0) :
    wpAny (model X.prog X.w) X.A (call (.ref f) us) (PySem.W.CmpBack (EP X pins σ Q)) X.xe s := by
  refine wpAny_call (codeAny_mono (run_at F hr rfl b I r h) fun r s' z => ?_)
  cases r with
  | error e => exact z
  | ok fl =>
    cases fl with
    | ret v =>
      obtain ⟨y, H', I', ry, q⟩ := z
      have n := rel_ni ry
      show PySem.W.CmpBack _ v s'
      cases v <;> first | exact absurd rfl n | exact ⟨y, H', I', ry, q⟩
    | next => exact z
    | brk => exact z
    | cont => exact z
theorem op_own {op : Operator} (M : Mt X.prog X.w X.K X.mg X.base k C (PySem.dunder op.info.2) ps sp) (hr : RoomG j X.A) (hk : k ≤ j) (hc : PySem.W.selfFirst X.K C = true) : OpR X (binaryOp op) (rOwn C sp) := by
  obtain ⟨f, fd, F, hm, b, _⟩ := M.ex
  intro pins s σ H x y v u Q I rx ry hq
  obtain ⟨a, c, rfl, rfl, ha, hb, h⟩ := hq
  cases rx
  cases ry
  obtain ⟨ox, od, J⟩ := is_inst I ha
  obtain ⟨ox', od', J'⟩ := is_inst I hb
  obtain ⟨m, hF⟩ := I.fr
  exact PySem.W.binop_K hF I.ok.mod.kin J J'.type hc hm.at_ hm.fn (call_bin (vs := [V.ref a, V.ref c]) (us := [Value.ref a, Value.ref c]) F (hr.mono hk) (b _ (F.len _ _ _ _ h).symm.symm) I (.cons rfl (.cons rfl .nil)) h)
/-- a op i, i an int -/
def rOwnI (C : Addr) (sp : Sp) : R2 := fun x y H Q => ∃ a i, x = .ref a ∧ y = .int i ∧ Is C H a ∧ sp [x, y] H Q E0
theorem op_ownI {op : Operator} {fo ro rc : Option Value} (M : Mt X.prog X.w X.K X.mg X.base k C (PySem.dunder op.info.2) ps sp) (hr : RoomG j X.A) (hk : k ≤ j) (hc : PySem.W.selfFirst X.K C = true)
    (h0 : PySem.W.findIn X.K (.ref C) (dunderR op.info.2) = some rc) (hp : rc = none ∨ ∃ g : Addr, rc = some (.ref g)) (h1 : PySem.W.findIn X.K (.type "int") (PySem.dunder op.info.2) = some fo) (h2 : PySem.W.findIn X.K (.type "int") (dunderR op.info.2) = some ro)
    (hsub : PySem.W.subIn X.K (.type "int") (.ref C) = some false) : OpR X (binaryOp op) (rOwnI C sp) := by
  obtain ⟨f, fd, F, hm, b, _⟩ := M.ex
  intro pins s σ H x y v u Q I rx ry hq
  obtain ⟨a, i, rfl, rfl, ha, h⟩ := hq
  cases rx
  obtain ⟨t, rfl⟩ := ry
  obtain ⟨ox, od, J⟩ := is_inst I ha
  obtain ⟨m, hF⟩ := I.fr
  exact PySem.W.ksp_binT hF I.ok.mod.kin J rfl hc hm.at_ hm.fn h0 hp h1 h2 hsub (call_bin (vs := [V.ref a, V.int i]) (us := [Value.ref a, Value.int i t]) F (hr.mono hk) (b _ (F.len _ _ _ _ h)) I (.cons rfl (.cons ⟨t, rfl⟩ .nil)) h)
/-- -a -/
def rNegO (C : Addr) (sp : Sp) : V → Hp → VK → Prop := fun x H Q => ∃ a, x = .ref a ∧ Is C H a ∧ sp [x] H Q E0
theorem un_own (M : Mt X.prog X.w X.K X.mg X.base k C "__neg__" ps sp) (hr : RoomG j X.A) (hk : k ≤ j) : UnR X (unaryOp .USub) (rNegO C sp) := by
  obtain ⟨f, fd, F, hm, b, _⟩ := M.ex
  intro pins s σ H x v Q I rx hq
  obtain ⟨a, rfl, ha, h⟩ := hq
  cases rx
  obtain ⟨ox, od, J⟩ := is_inst I ha
  obtain ⟨m, hF⟩ := I.fr
  refine PySem.W.ksp_neg hF I.ok.mod.kin J hm.at_ hm.fn (wpAny_call (codeAny_mono (run_at (vs := [V.ref a]) (us := [Value.ref a]) F (hr.mono hk) rfl (b _ (F.len _ _ _ _ h)) I (.cons rfl .nil) h) fun r s' z => ?_))
  rcases r with e | (v | _ | _ | _) <;> exact z
/-! ### str(a) -/
def rStrO (C : Addr) (sp : Sp) : List V → Hp → VK → Prop := fun xs H Q => ∃ a, xs = [.ref a] ∧ Is C H a ∧ sp [.ref a] H (fun v H' => (∃ z, v = .str z) ∧ Q v H') E0
open PySem.Builtin PySem.Builtin.Str in
theorem call_strO (M : Mt X.prog X.w X.K X.mg X.base k C "__str__" ps sp) (hr : RoomG j X.A) (hk : k + 4 ≤ j) : CallR X (.type "str") (rStrO C sp) := by
  obtain ⟨f, fd, F, hm, b, _⟩ := M.ex
  intro pins s σ H xs us Q I r hq
  obtain ⟨a, rfl, ha, h⟩ := hq
  obtain ⟨u, rfl, rx⟩ := vals1 r
  cases rx
  obtain ⟨ox, od, J⟩ := is_inst I ha
  have hr4 : RoomG (k + 4) X.A := hr.mono hk
  have hr2 : RoomG (k + 2) X.A.in1.in1 := hr4.in1.in1
  have hr3 : RoomG k X.A.in1.in1 := hr2.mono (by omega)
  have XK := I.kIn
  refine PySem.callType_codes (T := "str") (Bi := Builtin.«object.__init__») (Q₁ := fun r s₁ => ∃ y u, r = .str y u ∧ EP X pins σ Q r s₁) PySem.F.called_str (PySem.F.typeCall_str_1 _) PySem.F.entry_object_init ?_ ?_
  · refine codeAny_of_tree ?_
    show wpAny _ X.A.in1.in1 (do checkBuiltinCall "str.__new__" ⟨[.type "str", .ref a], []⟩; again (.builtin "str.__new__" ⟨[.type "str", .ref a], []⟩)) _ _ s
    refine wpAny_bind (wpAny_of_eq (PySem.F.newCall_str_1 _) (wpAny_pure ⟨plainId_quiet (by decide +kernel) _, codeAny_builtin PySem.F.entry_str_new ?_⟩))
    rw [Around.under_plainId (by decide +kernel) _]
    rw [str_new_tree]
    refine wpAny_bind (wpAny_pure ?_)
    refine wpAny_bind (wpAny_of_eq isSubtype_str_str ?_)
    have key : wpAny (model X.prog X.w) X.A.in1.in1 (PySem.Builtin.Str.strOf (.ref a)) (fun r s₁ => ∃ y u, r = .str y u ∧ EP X pins σ Q r s₁) X.xe s := by
      unfold PySem.Builtin.Str.strOf
      rw [show isExactStr (.ref a) = false from rfl]
      refine wpAny_bind (m := cRoomFor _ _) (wpAny_cRoomFor hr3.rm.units0 ?_)
      refine wpAny_bind (m := callSpecial? (.ref a) (Str.ofString "__str__")) (PySem.W.special_fn XK J hm.at_ (beq_iff_eq.mp hm.fn) ?_)
      refine wpAny_call (codeAny_mono (run_at (vs := [V.ref a]) (us := [Value.ref a]) F hr3 rfl (b _ (F.len _ _ _ _ h)) I (.cons rfl .nil) h) fun r s' z => ?_)
      cases r with
      | error e => exact z
      | ok fl =>
        cases fl with
        | ret v =>
          obtain ⟨y, H', I', ry, ⟨zz, rfl⟩, q⟩ := z
          obtain ⟨t, rfl⟩ := ry
          exact wpAny_pure ⟨zz, t, rfl, V.str zz, H', I', ⟨t, rfl⟩, q⟩
        | next => exact z
        | brk => exact z
        | cont => exact z
    exact wpAny_bind (wpAny_mono key (fun r s₁ hr => wpAny_pure hr) fun _ _ y => y)
  · rintro obj s₁ ⟨y, u, rfl, hq⟩
    exact ⟨typeIs_str _ _ _, PySem.F.args_object_init_2 _ _, object_init_meets PySem.F.called_str.init.lookup PySem.F.called_str.made (by decide) X.prog X.w X.A.in1 _ s₁ ⟨typeIs_str _ _ _, rfl, hq⟩⟩
end
end Lw

/-! ## Fm4 -/
set_option maxHeartbeats 4000000
/-! rpartition; dict of a tuple of pairs; sorted of pairs (text, int); static methods; **parameters -/
namespace Lw
open PySem PySem.Spec PyProof.Rows L2
section
variable {X : Cx}
theorem mt_rpartition : MtR X "str.rpartition" (fun x xs H Q => ∃ a b, x = .str a ∧ xs = [.str b] ∧ (b.length == 0) = false ∧ a.length ≤ sizeLine ∧
    ∀ p, H p = none → Q (.ref p) (upd H p (.tup [.str (Txt.rpartition a b).1, .str (Txt.rpartition a b).2.1, .str (Txt.rpartition a b).2.2]))) := by
  intro pins s σ H x xs v us Q I rx rs h
  obtain ⟨a, b, rfl, rfl, hb, hz, h⟩ := h
  obtain ⟨t, rfl⟩ := rx
  cases rs with
  | cons r1 rs =>
    cases rs
    obtain ⟨u, rfl⟩ := r1
    refine call_meets F.slot_str_rpartition (typeIs_str _ _ _) F.entry_str_rpartition (F.args_str_rpartition_2 _ _) (meets_str_rpartition a b t u hb hz) ?_
    unfold Txt.rpartition at h
    revert h
    cases Builtin.Str.lastOccurrence a b 0 a.length with
    | none => intro h; exact laid_parts I h
    | some i => intro h; exact laid_parts I h
theorem pe_rpartition {o e : Expr} {to te : TE} {apos pos : Pos} (ho : PE X o to) (he : PE X e te) (hs : starEach [e] X.env = [(false, eval e X.env)] := by rfl) (hbase : attributeBase o "rpartition" X.env (eval o X.env) = eval o X.env := by rfl) (hline : (apos.endLine == pos.line) = true := by rfl) :
    PE X (.Call (.Attribute o "rpartition" apos) [e] [] pos) (tM1 (fun x xs H Q => ∃ a b, x = .str a ∧ xs = [.str b] ∧ (b.length == 0) = false ∧ a.length ≤ sizeLine ∧
      ∀ p, H p = none → Q (.ref p) (upd H p (.tup [.str (Txt.rpartition a b).1, .str (Txt.rpartition a b).2.1, .str (Txt.rpartition a b).2.2]))) to te) :=
  pe_m1 F.slot_str_rpartition F.type_str_rpartition mt_rpartition ho he hs hbase hline
/-! ### tuples whose object is known -/
def TupF (H : Hp) (p : Addr) (xs : List V) : Prop := ∃ o : Obj, o.dict = none ∧ H p = some (.frz o (.tup xs))
theorem TupF.sq {K : PySem.W.Frag} {H : Hp} {p : Addr} {xs : List V} (h : TupF H p xs) : SqT K H p xs := by
  obtain ⟨o, _, h⟩ := h
  exact .inl (.inr ⟨o, h⟩)
theorem TupF.same {H H' : Hp} {p : Addr} {xs : List V} (s : Same H H') (h : TupF H p xs) : TupF H' p xs := by
  obtain ⟨o, d, h⟩ := h
  exact ⟨o, d, s _ _ h⟩
/-- tuple(xs), xs a list: a new tuple -/
theorem call_tupleF : CallR X (.type "tuple") (fun xs H Q => ∃ p ys, xs = [.ref p] ∧ SqL X.K H p ys ∧ ∀ l H', H l = none → Same H H' → TupF H' l ys → Q (.ref l) H') := by
  intro pins s σ H xs us Q I r h
  obtain ⟨p, ys, rfl, hq, q⟩ := h
  obtain ⟨u, rfl, rx⟩ := vals1 r
  cases rx
  obtain ⟨its, r', pl, hz⟩ := I.list hq
  have hlen := r'.length
  refine call_tuple_list pl.isList (fun h' kp => ?_) (by simp only [List.size_toArray] <;> omega)
  have I1 : Inv X pins σ H { s with heap := h' } := I.kept (t' := s.toks) kp
  have hn := I1.hok.fresh (Nat.le_refl _)
  have I2 : Inv X pins σ (upd H h'.objs.size (.frz { cls := .type "tuple", data := .seq its.toArray } (.tup ys))) { s with heap := h'.push { cls := .type "tuple", data := .seq its.toArray } } :=
    I1.laid (t' := s.toks) (fun b o e => Heap.get?_push_of_some _ e) (Nat.le_refl _) (show ObjOk X.prog X.w _ _ _ (.frz _ (.tup ys)) from ⟨Heap.get?_push_size _ rfl, hz, its, r', IsTup.new _ _⟩)
  exact ⟨.ref h'.objs.size, _, I2, rfl, q _ _ hn (Same.new hn) ⟨_, rfl, upd_same⟩⟩
/-! ### dict of a tuple of pairs -/
theorem call_dictPT (hcalm : X.calm = true) : CallR X (.type "dict") (fun xs H Q => ∃ (a : Addr) (ps : List Addr) (kvs : List (Key × V)), xs = [.ref a] ∧ TupF H a (ps.map V.ref) ∧ Paired (fun p kv => SqT X.K H p [kV kv.1, kv.2]) ps kvs ∧
    ∀ p, H p = none → Q (.ref p) (upd H p (.dK (mergeK [] kvs)))) := by
  intro pins s σ H xs us Q I r q
  obtain ⟨a, ps, kvs, ex, hq, hp, q⟩ := q
  subst ex
  obtain ⟨u, eu, rx⟩ := vals1 r
  subst eu
  cases rx
  obtain ⟨o, hd, hf⟩ := hq
  obtain ⟨ho, hz, its, rv, o', ho', hc, n, hdat⟩ := (show ObjOk X.prog X.w H s.heap a (.frz o (.tup (ps.map V.ref))) from I.hok a _ hf)
  rw [ho] at ho'
  cases ho'
  have ei := refs_at rv
  subst ei
  rw [List.length_map] at hz
  obtain ⟨prs, rel, hl, hpr⟩ := pairs_of I hp
  -- the keys' values
  obtain ⟨vks, hvk⟩ : ∃ vks : List (Value × Value), vks.length = prs.length ∧ ∀ (j : Nat) (q : Key × Value), prs[j]? = some q → ∃ (b : Addr) (u : Value), ps[j]? = some b ∧ IsTup s.heap b #[u, q.2] ∧ keyIs q.1 u = true ∧ vks[j]? = some (u, q.2) := by
    have : ∀ (qs : List (Key × Value)) (c : Nat), (∀ (j : Nat) (q : Key × Value), qs[j]? = some q → ∃ (b : Addr) (u : Value), ps[c + j]? = some b ∧ IsTup s.heap b #[u, q.2] ∧ keyIs q.1 u = true) →
        ∃ vks : List (Value × Value), vks.length = qs.length ∧ ∀ (j : Nat) (q : Key × Value), qs[j]? = some q → ∃ (b : Addr) (u : Value), ps[c + j]? = some b ∧ IsTup s.heap b #[u, q.2] ∧ keyIs q.1 u = true ∧ vks[j]? = some (u, q.2) := by
      intro qs
      induction qs with
      | nil => exact fun c _ => ⟨[], rfl, fun j q e => by simp at e⟩
      | cons x r ih =>
        intro c h
        obtain ⟨b, u, e1, e2, e3⟩ := h 0 x rfl
        obtain ⟨vks, l, k⟩ := ih (c + 1) fun j q e => by
          obtain ⟨b, u, e1, e2, e3⟩ := h (j + 1) q (by simpa using e)
          exact ⟨b, u, by rw [show c + 1 + j = c + (j + 1) by omega]; exact e1, e2, e3⟩
        refine ⟨(u, x.2) :: vks, by rw [List.length_cons, List.length_cons, l], fun j q e => ?_⟩
        cases j with
        | zero =>
          cases (show x = q from Option.some.inj e)
          exact ⟨b, u, e1, e2, e3, rfl⟩
        | succ j =>
          obtain ⟨b, u', e1, e2, e3, e4⟩ := k j q (by simpa using e)
          exact ⟨b, u', by rw [show c + (j + 1) = c + 1 + j by omega]; exact e1, e2, e3, by simpa using e4⟩
    obtain ⟨vks, l, k⟩ := this prs 0 fun j q e => by
      obtain ⟨b, u, e1, e2, e3⟩ := hpr j q e
      exact ⟨b, u, by rw [Nat.zero_add]; exact e1, e2, e3⟩
    exact ⟨vks, l, fun j q e => by
      obtain ⟨b, u, e1, r⟩ := k j q e
      exact ⟨b, u, by rw [Nat.zero_add] at e1; exact e1, r⟩⟩
  obtain ⟨lv, hvk⟩ := hvk
  have lps : vks.length = ps.length := lv.trans hl
  refine PySem.call_dict_pairs (knd := mixKind X.prog X.w) (kvs := prs) (PairArg.tuple a (ps.map Value.ref).toArray (fun j => ps.getD j 0) vks) (I.ok.hd hcalm) ⟨⟨o, n, ho, hc, hd, hdat⟩, ⟨by rw [List.size_toArray, List.length_map, lps], fun j k v e => ?_⟩⟩ ⟨lv.symm, fun i key v e => ?_⟩ (by rw [lps]; exact hz) fun h' tk hd' kk => ?_
  · obtain ⟨q, hq⟩ : ∃ q, prs[j]? = some q := ⟨_, List.getElem?_eq_getElem (by have := (List.getElem?_eq_some_iff.mp e).1; omega)⟩
    obtain ⟨b, u, e1, e2, e3, e4⟩ := hvk j q hq
    rw [e] at e4
    cases e4
    have eb : ps.getD j 0 = b := by rw [List.getD_eq_getElem?_getD, e1] <;> rfl
    dsimp only
    rw [eb]
    refine ⟨by rw [List.getElem?_toArray, List.getElem?_map, e1] <;> rfl, .inl ?_⟩
    obtain ⟨ob, g1, g2, n2, g3⟩ := e2
    exact ⟨ob, g1, g2, n2, g3⟩
  · obtain ⟨q, hq⟩ : ∃ q, prs[i]? = some q := ⟨_, List.getElem?_eq_getElem (by have := (List.getElem?_eq_some_iff.mp (show vks[i]? = some (key, v) from e)).1; omega)⟩
    obtain ⟨b, u, e1, e2, e3, e4⟩ := hvk i q hq
    rw [show vks[i]? = some (key, v) from e] at e4
    cases e4
    exact ⟨q.1, hq, e3⟩
  · have hm : (s.heap.objs.size == sysModules) = false := beq_eq_false_iff_ne.mpr (Nat.ne_of_gt I.big)
    have hlen : (mergeK [] kvs).length ≤ sizeLine := by
      refine Nat.le_trans (length_mergeK kvs []) ?_
      rw [List.length_nil, Nat.zero_add, rel.length, hl]
      exact hz
    exact ⟨.ref s.heap.objs.size, upd H s.heap.objs.size (.dK (mergeK [] kvs)), I.laid (t' := tk) (fun b o e => kk b o (fun m => nomatch m) e) (Nat.le_refl _) (show ObjOk X.prog X.w _ _ _ (.dK (mergeK [] kvs)) from ⟨hlen, hm, merged [] prs, KV.merge rel .nil, hd'⟩), rfl, q _ (I.hok.fresh (Nat.le_refl _))⟩
/-! ### sorted of pairs (text, int) -/
abbrev Ent := Addr × Str × Int
def encE (b : Ent) : PyData := .tuple [.str b.2.1, .int b.2.2]
theorem ltE (p q : Ent) : PySem.W.dataLt (encE p) (encE q) = decide (p.2.1.cps.toList < q.2.1.cps.toList ∨ (p.2.1 = q.2.1 ∧ p.2.2 < q.2.2)) := by
  unfold encE
  rw [PySem.W.dataLt_pair (by simp [PySem.W.alike]) (by simp [PySem.W.alike]), PySem.W.dataLt_str, PySem.W.dataLt_int]
  simp only [PyData.eqv, beq_iff_eq]
  by_cases h1 : p.2.1 = q.2.1
  · rw [if_pos h1]
    have n : ¬ p.2.1.cps.toList < q.2.1.cps.toList := by
      rw [h1]
      exact List.lt_irrefl _
    by_cases h2 : p.2.2 = q.2.2
    · rw [if_pos h2]
      refine (decide_eq_false fun h => ?_).symm
      rcases h with h | ⟨_, h⟩
      · exact n h
      · omega
    · rw [if_neg h2]
      exact decide_eq_decide.mpr ⟨fun h => .inr ⟨h1, h⟩, fun h => h.elim (fun h => (n h).elim) fun h => h.2⟩
  · rw [if_neg h1]
    exact decide_eq_decide.mpr ⟨fun h => .inl h, fun h => h.elim id fun h => (h1 h.1).elim⟩
theorem leE : PySem.W.dataLe false encE = fun p q => decide (¬ (q.2.1.cps.toList < p.2.1.cps.toList ∨ (q.2.1 = p.2.1 ∧ q.2.2 < p.2.2))) := by
  rw [PySem.W.dataLe_eq]
  funext p q
  show (!PySem.W.dataLt (encE q) (encE p)) = _
  rw [ltE]
  simp only [decide_not]
theorem str_tri (a b : List Nat) : a < b ∨ a = b ∨ b < a := by
  by_cases h : a < b
  · exact .inl h
  · by_cases k : b < a
    · exact .inr (.inr k)
    · exact .inr (.inl (List.le_antisymm (List.not_lt.mp k) (List.not_lt.mp h)))
theorem str_eq {a b : Str} (h : a.cps.toList = b.cps.toList) : a = b := by
  obtain ⟨⟨x⟩⟩ := a
  obtain ⟨⟨y⟩⟩ := b
  have h : x = y := h
  rw [h]
theorem sortE (bs : List Ent) : (bs.mergeSort (PySem.W.dataLe false encE)).Pairwise (fun p q => ¬ q.2.1.cps.toList < p.2.1.cps.toList) := by
  have tr : ∀ a b c : Ent, PySem.W.dataLe false encE a b = true → PySem.W.dataLe false encE b c = true → PySem.W.dataLe false encE a c = true := by
    intro a b c h1 h2
    rw [leE] at h1 h2 ⊢
    have h1 := of_decide_eq_true h1
    have h2 := of_decide_eq_true h2
    refine decide_eq_true fun h => ?_
    rcases str_tri a.2.1.cps.toList b.2.1.cps.toList with l | e | l
    · rcases str_tri b.2.1.cps.toList c.2.1.cps.toList with l' | e' | l'
      · have := List.lt_trans l l'
        rcases h with h | ⟨h, _⟩
        · exact List.lt_irrefl _ (List.lt_trans this h)
        · rw [h] at this
          exact List.lt_irrefl _ this
      · have e' := str_eq e'
        rcases h with h | ⟨h, _⟩
        · rw [← e'] at h
          exact List.lt_irrefl _ (List.lt_trans l h)
        · rw [e', h] at l
          exact List.lt_irrefl _ l
      · exact h2 (.inl l')
    · have e := str_eq e
      rcases str_tri b.2.1.cps.toList c.2.1.cps.toList with l' | e' | l'
      · rcases h with h | ⟨h, _⟩
        · rw [e] at h
          exact List.lt_irrefl _ (List.lt_trans l' h)
        · rw [← e, h] at l'
          exact List.lt_irrefl _ l'
      · have e' := str_eq e'
        rcases h with h | ⟨h, hi⟩
        · rw [e, e'] at h
          exact List.lt_irrefl _ h
        · by_cases g : b.2.2 < a.2.2
          · exact h1 (.inr ⟨e.symm, g⟩)
          · exact h2 (.inr ⟨e'.symm, by omega⟩)
      · exact h2 (.inl l')
    · exact h1 (.inl l)
  have to : ∀ a b : Ent, (PySem.W.dataLe false encE a b || PySem.W.dataLe false encE b a) = true := by
    intro a b
    rw [leE]
    simp only [Bool.or_eq_true, decide_eq_true_eq]
    rcases str_tri a.2.1.cps.toList b.2.1.cps.toList with l | e | l
    · refine .inl fun h => ?_
      rcases h with h | ⟨h, _⟩
      · exact List.lt_irrefl _ (List.lt_trans l h)
      · rw [h] at l
        exact List.lt_irrefl _ l
    · have e := str_eq e
      by_cases g : b.2.2 < a.2.2
      · refine .inr fun h => ?_
        rcases h with h | ⟨_, h⟩
        · rw [e] at h
          exact List.lt_irrefl _ h
        · omega
      · refine .inl fun h => ?_
        rcases h with h | ⟨_, h⟩
        · rw [e] at h
          exact List.lt_irrefl _ h
        · exact g h
    · refine .inr fun h => ?_
      rcases h with h | ⟨h, _⟩
      · exact List.lt_irrefl _ (List.lt_trans l h)
      · rw [h] at l
        exact List.lt_irrefl _ l
  refine (List.pairwise_mergeSort (le := PySem.W.dataLe false encE) tr to bs).imp fun {p q} h => ?_
  rw [leE] at h
  exact fun l => (of_decide_eq_true h) (.inl l)
theorem each_refs {bs : List Ent} : ∀ {out : List Value}, PySem.W.EachIs (fun v (b : Ent) => v = Value.ref b.1) out bs → out = bs.map fun b => Value.ref b.1 := by
  induction bs with
  | nil =>
    intro out h
    cases h
    rfl
  | cons b r ih =>
    intro out h
    cases h with
    | cons h1 t => rw [h1, ih t] <;> rfl
theorem refs_each : ∀ bs : List Ent, PySem.W.EachIs (fun v (b : Ent) => v = Value.ref b.1) (bs.map fun b => Value.ref b.1) bs
  | [] => .nil
  | b :: r => .cons rfl (refs_each r)
/-- sorted(xs), xs a list of pairs (text, int) -/
def rSortE (K : PySem.W.Frag) : List V → Hp → VK → Prop := fun vs H Q => ∃ (a : Addr) (bs : List Ent), vs = [V.ref a] ∧ SqL K H a (bs.map fun b => V.ref b.1) ∧ (∀ b ∈ bs, SqT K H b.1 [.str b.2.1, .int b.2.2]) ∧ bs.length ≤ 1000 ∧
  ∀ (L : List Ent) p, L.Perm bs → L.Pairwise (fun p q => ¬ q.2.1.cps.toList < p.2.1.cps.toList) → H p = none → Q (.ref p) (upd H p (.lst (L.map fun b => V.ref b.1)))
theorem vals_refs : ∀ bs : List Ent, Vals (bs.map fun b => V.ref b.1) (bs.map fun b => Value.ref b.1)
  | [] => .nil
  | b :: r => .cons rfl (vals_refs r)
theorem call_sortE {k : Nat} (hr : RoomG k X.A) : CallR X (.builtin "sorted") (rSortE X.K) := by
  intro pins s σ H vs us Q I r h
  obtain ⟨a, bs, rfl, hs, hb, hl, q⟩ := h
  obtain ⟨u, rfl, ru⟩ := vals1 r
  cases ru
  obtain ⟨its, rv, pl, hz⟩ := I.list hs
  have ei : its = bs.map fun b => Value.ref b.1 := by
    have : bs.map (fun b => V.ref b.1) = (bs.map (·.1)).map V.ref := by rw [List.map_map] <;> rfl
    rw [this] at rv
    rw [refs_at rv, List.map_map] <;> rfl
  subst ei
  have hu := hr.units
  have er : PySem.W.EachIs (fun v (b : Ent) => ∃ as, Reads s.heap v (encE b) as) (bs.map fun b => Value.ref b.1) bs := by
    have : ∀ cs : List Ent, (∀ b ∈ cs, SqT X.K H b.1 [.str b.2.1, .int b.2.2]) → PySem.W.EachIs (fun v (b : Ent) => ∃ as, Reads s.heap v (encE b) as) (cs.map fun b => Value.ref b.1) cs := by
      intro cs
      induction cs with
      | nil => exact fun _ => .nil
      | cons c r ih => exact fun h => .cons (Dp.reads I (encE c) (.ref c.1) (.ref c.1) (.tup (h c List.mem_cons_self) (.cons (.str _) (.cons (.int _) .nil))) rfl) (ih fun b m => h b (List.mem_cons_of_mem _ m))
    exact this bs hb
  refine PySem.W.sorted_data (bs := bs) (enc := encE) (R := fun v b => v = Value.ref b.1) pl.isList (refs_each bs) er (PySem.W.AllAlike.of fun b b' => by simp [encE, PySem.W.alike, PySem.W.alikeAll]) (PySem.W.Sortable.tuples fun b => ⟨_, _, rfl⟩) (Nat.le_trans hl (by decide)) (fun b _ => ?_) fun out lo eo => ?_
  · have : (encE b).depth ≤ 2 := by
      simp [encE, PyData.depth, PyData.depthAll]
    omega
  · have eo := each_refs eo
    subst eo
    have hp := List.mergeSort_perm bs (PySem.W.dataLe false encE)
    have hn := I.hok.fresh (Nat.le_succ s.heap.objs.size)
    obtain ⟨e, he⟩ := sortedAll_at s.heap (bs.map fun b => Value.ref b.1) ((bs.mergeSort (PySem.W.dataLe false encE)).map fun b => Value.ref b.1).toArray
    have hL : ((bs.mergeSort (PySem.W.dataLe false encE)).map fun b => V.ref b.1).length ≤ sizeLine := by
      rw [List.length_map, hp.length_eq]
      exact Nat.le_trans hl (by decide)
    have I2 : Inv X pins σ (upd H (s.heap.objs.size + 1) (.lst ((bs.mergeSort (PySem.W.dataLe false encE)).map fun b => V.ref b.1))) { s with heap := sortedAll s.heap (bs.map fun b => Value.ref b.1) ((bs.mergeSort (PySem.W.dataLe false encE)).map fun b => Value.ref b.1).toArray } :=
      I.laid (t' := s.toks) (fun b o q => sortedAll_old q) (Nat.le_succ _) (show ObjOk X.prog X.w _ _ _ (.lst _) from ⟨hL, _, e, vals_refs _, he⟩)
    exact ⟨.ref (s.heap.objs.size + 1), _, I2, rfl, q _ _ hp (sortE bs) hn⟩
end
end Lw

/-! ## Fm5 -/
set_option maxHeartbeats 4000000
/-! sorted(d.items()); static methods; an __init__ of **parameters -/
namespace Lw
open PySem PySem.Spec PyProof.Rows L2
section
variable {X : Cx}
abbrev entK (e : Str × Int) : Key × V := (Sum.inr e.1, V.int e.2)
def rItemsK : V → List V → Hp → VK → Prop := fun x xs H Q => ∃ (a : Addr) (kvs : List (Key × V)), x = .ref a ∧ xs = [] ∧ H a = some (.dK kvs) ∧ ∀ p, H p = none → Q (.ref p) (upd H p (L2.DX.itemsO p a))
theorem mt_itemsK : MtR X "dict.items" rItemsK := by
  intro pins s σ H x xs v us Q I rx rxs h
  obtain ⟨a, kvs, rfl, rfl, ha, q⟩ := h
  cases rx
  cases rxs
  obtain ⟨hz, hs0, vs, kv, hdo⟩ := I.hok a _ ha
  obtain ⟨es, ep, hraw, _⟩ := hdo.raw
  refine DT.callItems (es := es) (ep := ep) hs0 hraw ?_
  have hf : H s.heap.objs.size = none := I.hok.fresh (Nat.le_refl _)
  exact ⟨.ref s.heap.objs.size, upd H s.heap.objs.size (L2.DX.itemsO s.heap.objs.size a), I.laid (t' := s.toks) (fun b u e => Heap.get?_push_of_some _ e) (Nat.le_refl _) (L2.DX.itemsO_ok (Heap.get?_push_size _ rfl)), rfl, q _ hf⟩
def rSortItE : List V → Hp → VK → Prop := fun vs H Q => ∃ (p a : Addr) (ks : List (Str × Int)), vs = [.ref p] ∧ H p = some (L2.DX.itemsO p a) ∧ H a = some (.dK (ks.map entK)) ∧ ks.length ≤ 1000 ∧
  ∀ (H' : Hp) (l : Addr) (L : List Ent), Same H H' → H l = none → (L.map (·.2)).Perm ks → L.Pairwise (fun p q => ¬ q.2.1.cps.toList < p.2.1.cps.toList) → H' l = some (.lst (L.map fun b => V.ref b.1)) →
    (∀ b ∈ L, H' b.1 = some (.tup [.str b.2.1, .int b.2.2])) → Q (.ref l) H'
theorem call_sortItE {k : Nat} (hr : RoomG k X.A) (hc : X.calm = true) : CallR X (.builtin "sorted") rSortItE := by
  intro pins s σ H xs us Q I r h
  obtain ⟨p, a, ks, rfl, hp, ha, hlen, q⟩ := h
  obtain rfl := Vals.ref1 r
  have hu := hr.units
  have view : s.heap.IsItemsView p a := (show ObjOk X.prog X.w H s.heap p (L2.DX.itemsO p a) from I.hok p _ hp).1
  obtain ⟨hz, hs0, vs, kv, hdo⟩ := I.hok a _ ha
  obtain ⟨es, ep, hraw, l2, hes⟩ := hdo.raw
  have l1 : (ks.map entK).length = vs.length := Paired.length kv
  rw [List.length_map] at l1
  have hh : X.A.handled = none := I.ok.hd hc
  refine DT.sortedI (es := es) (ep := ep) hh view hraw (by rw [sizeLine_eq]; omega) fun h' tk as hk hlt hl hG => ?_
  have lak : as.length = ks.length := by omega
  have nd : as.Nodup := List.Pairwise.imp (fun h => Nat.ne_of_lt h) hG.rise
  -- the pairs that were made
  have pr : ∀ (j : Nat) (b : Addr), as[j]? = some b → ∃ (e : Str × Int) (t1 t2 : Tok), ks[j]? = some e ∧ h'.get? b = some { cls := .type "tuple", data := .seq #[Value.str e.1 t1, Value.int e.2 t2] } := by
    intro j b hj
    obtain ⟨en, he, hg⟩ := hG.pairs j b hj
    have hjs : j < es.size := (Array.getElem?_eq_some_iff.mp he).1
    obtain ⟨v, hv⟩ : ∃ v, vs[j]? = some v := ⟨_, List.getElem?_eq_getElem (by omega)⟩
    obtain ⟨k1, k2⟩ := hes j hjs v.1 v.2 hv
    have ee : es[j] = en := (Array.getElem?_eq_some_iff.mp he).2
    rw [ee] at k1 k2
    obtain ⟨e0, he0, r1, r2⟩ := L2.DX.pget kv hv
    rw [List.getElem?_map] at he0
    obtain ⟨e, he1, rfl⟩ := Option.map_eq_some_iff.mp he0
    have r1 : (Sum.inr e.1 : Key) = v.1 := r1
    obtain ⟨t2, r2⟩ := (show ∃ t, v.2 = Value.int e.2 t from r2)
    rw [← r1] at k1
    rcases keyIs_shape (k := Sum.inr e.1) (v := en.key) k1 with ⟨i, t, z, _⟩ | ⟨x, t, z, ek⟩
    · cases z
    · cases z
      exact ⟨e, t, t2, he1, by rw [hg, ek, k2, r2]⟩
  -- the heap of the sort
  have hob : (h'.push { cls := .type "list", data := .seq (as.map Value.ref).toArray }).get? h'.objs.size = some (seqObj "list" (as.map Value.ref).toArray 0) := Heap.get?_push_size _ rfl
  have ne0 : ∀ b o, h'.get? b = some o → b ≠ h'.objs.size := fun b o e => Nat.ne_of_lt (Heap.lt_size e)
  generalize hh2 : h'.push { cls := .type "list", data := .seq (as.map Value.ref).toArray } = h2 at hob ⊢
  have ka : ∀ b o, h'.get? b = some o → h2.get? b = some o := fun b o e => by rw [← hh2]; exact Heap.get?_push_of_some _ e
  obtain ⟨bs, hbs⟩ : ∃ bs : List Ent, bs = as.zip ks := ⟨_, rfl⟩
  have m1 : bs.map (·.1) = as := by rw [hbs]; exact List.map_fst_zip (by omega)
  have m2 : bs.map (·.2) = ks := by rw [hbs]; exact List.map_snd_zip (by omega)
  have idx : ∀ z ∈ bs, ∃ j : Nat, as[j]? = some z.1 ∧ ks[j]? = some z.2 := by
    intro z' hz'
    rw [hbs] at hz'
    obtain ⟨j, hj⟩ := List.mem_iff_getElem?.mp hz'
    exact ⟨j, List.getElem?_zip_eq_some.mp hj⟩
  have at_ : ∀ z ∈ bs, ∃ t1 t2 : Tok, h'.get? z.1 = some { cls := .type "tuple", data := .seq #[Value.str z.2.1 t1, Value.int z.2.2 t2] } := by
    intro z hz
    obtain ⟨j, j1, j2⟩ := idx z hz
    obtain ⟨e, t1, t2, he, hg⟩ := pr j z.1 j1
    rw [j2] at he
    cases he
    exact ⟨t1, t2, hg⟩
  have evs : as.map Value.ref = bs.map fun b => Value.ref b.1 := by rw [← m1, List.map_map] <;> rfl
  have lbs : bs.length = ks.length := by rw [← m2, List.length_map]
  have er : PySem.W.EachIs (fun v (b : Ent) => ∃ cs, Reads h2 v (encE b) cs ∧ h'.objs.size ∉ cs) (bs.map fun b => Value.ref b.1) bs := by
    have : ∀ cs : List Ent, (∀ b ∈ cs, b ∈ bs) → PySem.W.EachIs (fun v (b : Ent) => ∃ cs, Reads h2 v (encE b) cs ∧ h'.objs.size ∉ cs) (cs.map fun b => Value.ref b.1) cs := by
      intro cs
      induction cs with
      | nil => exact fun _ => .nil
      | cons c r ih =>
        intro h
        refine .cons ?_ (ih fun b m => h b (List.mem_cons_of_mem _ m))
        obtain ⟨t1, t2, g⟩ := at_ c (h c List.mem_cons_self)
        exact ⟨_, .tuple (ka _ _ g) rfl rfl (.cons (.str _ _) (.cons (.int _ _) .nil)), fun m => nomatch m⟩
    exact this bs fun _ m => m
  rw [evs] at hob
  refine PySem.W.list_sort_data (s := { s with heap := h2, toks := tk }) (bs := bs) (enc := encE) (R := fun v b => v = Value.ref b.1) hob (refs_each bs) er (PySem.W.AllAlike.of fun b b' => by simp [encE, PySem.W.alike, PySem.W.alikeAll]) (PySem.W.Sortable.tuples fun b => ⟨_, _, rfl⟩) (Nat.le_trans (by omega : bs.length ≤ 1000) (by decide)) (fun b _ => ?_) fun out lo eo => ?_
  · have : (encE b).depth ≤ 2 := by
      simp [encE, PyData.depth, PyData.depthAll]
    show X.A.units + 1 + 1 + _ < _
    omega
  · have eo := each_refs eo
    subst eo
    obtain ⟨L, hL⟩ : ∃ L, L = bs.mergeSort (PySem.W.dataLe false encE) := ⟨_, rfl⟩
    have hperm : L.Perm bs := by rw [hL]; exact List.mergeSort_perm bs (PySem.W.dataLe false encE)
    have hsort := sortE bs
    rw [← hL] at hsort ⊢
    obtain ⟨eF, heF⟩ := PyProof.Rows.sortedHeap_at (vs := bs.map fun b => Value.ref b.1) (out := (L.map fun b => Value.ref b.1).toArray) hob
    have kF : ∀ b o, b ≠ h'.objs.size → h2.get? b = some o → (sortedHeap h2 h'.objs.size (bs.map fun b => Value.ref b.1) (L.map fun b => Value.ref b.1).toArray).get? b = some o := fun b o hb e => (PyProof.Rows.sortedHeap_old hb (Heap.lt_size e)).trans e
    have kS : ∀ b o, s.heap.get? b = some o → (sortedHeap h2 h'.objs.size (bs.map fun b => Value.ref b.1) (L.map fun b => Value.ref b.1).toArray).get? b = some o := fun b o e => kF b o (ne0 _ _ (hk b o e)) (ka _ _ (hk b o e))
    generalize sortedHeap h2 h'.objs.size (bs.map fun b => Value.ref b.1) (L.map fun b => Value.ref b.1).toArray = h3 at heF kF kS ⊢
    show EP X pins σ Q (.ref h'.objs.size) { s with heap := h3, toks := tk }
    have I1 : Inv X pins σ H { s with heap := h3, toks := tk } := I.kept (t' := tk) kS
    have hn0 : H h'.objs.size = none := I.hok.fresh (Nat.le_of_lt hlt)
    have hlen : (L.map fun z => V.ref z.1).length ≤ sizeLine := by
      have e := hperm.length_eq
      rw [List.length_map, sizeLine_eq]
      omega
    have I2 : Inv X pins σ (upd H h'.objs.size (.lst (L.map fun z => V.ref z.1))) { s with heap := h3, toks := tk } :=
      I1.take (h' := h3) (t' := tk) (fun b ob _ e => e) (I.fpOk (Nat.le_of_lt hlt) hn0) (show ObjOk X.prog X.w _ _ _ (.lst _) from ⟨hlen, _, eF, vals_refs L, heF⟩)
    obtain ⟨H2, I3, g, qt⟩ := L2.DX.takeT (P := fun b vs => ∃ (j : Nat) (e : Str × Int), as[j]? = some b ∧ ks[j]? = some e ∧ vs = [.str e.1, .int e.2]) I as _ I2 nd fun b hb => by
      obtain ⟨j, hj⟩ := List.mem_iff_getElem?.mp hb
      obtain ⟨e, t1, t2, he, hg⟩ := pr j b hj
      have hbl : s.heap.objs.size ≤ b := Nat.le_of_lt (hG.above b hb)
      refine ⟨hbl, ?_, [.str e.1, .int e.2], ⟨j, e, hj, he, rfl⟩, fun H3 => ⟨(by rw [sizeLine_eq]; show 2 ≤ 16777216; omega), [Value.str e.1 t1, Value.int e.2 t2], .cons ⟨_, rfl⟩ (.cons ⟨_, rfl⟩ .nil), ⟨_, kF _ _ (ne0 _ _ hg) (ka _ _ hg), rfl, 0, rfl⟩⟩⟩
      rw [upd_ne (ne0 _ _ hg)]
      exact I.hok.fresh hbl
    have gr : Same H H2 := fun b o e => g b o (by rw [upd_ne (ne_of_none e hn0)]; exact e)
    refine ⟨.ref h'.objs.size, H2, I3, rfl, q H2 h'.objs.size L gr hn0 (by rw [← m2]; exact hperm.map _) hsort (g _ _ upd_same) fun z' hz' => ?_⟩
    obtain ⟨i, i1, i2⟩ := idx z' (hperm.mem_iff.mp hz')
    obtain ⟨vs, ⟨j, e, j1, j2, ev⟩, hH⟩ := qt z'.1 (List.mem_of_getElem? i1)
    have eij : i = j := (List.getElem?_inj (List.getElem?_eq_some_iff.mp i1).1 nd).mp (i1.trans j1.symm)
    subst eij
    have ee : e = z'.2 := Option.some.inj (j2.symm.trans i2)
    rw [ev, ee] at hH
    exact hH
end
/-! ### C.m(..), m a static method -/
structure StM (P : Program) (w : World) (K : PySem.W.Frag) (mg : Str → Option Value) (base : Heap) (k : Nat) (C : Addr) (m : Str) (ps : List Str) (sp : Sp) : Prop where
  ga : PySem.W.specialIn K (.ref C) "__getattribute__" = some (some (.builtin "type.__getattribute__"))
  ex : ∃ (mc : Value) (p f : Addr) (fd : FuncData) (rest : List Value), PySem.W.readsIn K C mc = true ∧ PySem.W.findCls K (.ref C) mc m = some (.get (.builtin "staticmethod.__get__") (.ref p) .none (.ref C)) ∧
    PySem.W.recIn K p "staticmethod" = some (.ref f :: rest) ∧ PySem.W.keepIn K (.ref f) = true ∧ FnG P w K mg base k f fd ps sp ∧ (∀ us : List Value, us.length = ps.length → bindArgs fd ⟨us, []⟩ = pure (ps.zip us))
section
variable {X : Cx} {k j : Nat} {C : Addr} {ps : List Str} {sp : Sp} {m : Str} {o e : Expr} {es : List Expr} {ta : TE} {t : TA} {pos apos : Pos}
def tSm (C : Addr) (sp : Sp) (ta : TE) (t : TA) : TE := fun σ H Q => ta σ H fun x H1 => x = .ref C ∧ t σ H1 fun vs H2 => sp vs H2 Q E0
theorem pe_sm {pl : Sem Bool} (he : PE X o ta) (M : StM X.prog X.w X.K X.mg X.base k C m ps sp) (hr : RoomG j X.A) (hk : k ≤ j) (ha : PA X (e :: es) t)
    (hst : starEach (e :: es) X.env = (false, eval e X.env) :: starEach es X.env := by rfl) (hpl : (backTo pos (starEach es X.env)).any (·.1) = false := by rfl)
    (ht : eval (.Call (.Attribute o m apos) (e :: es) [] pos) X.env = (do
      let ov ← eval o X.env
      standAt apos.atName
      let (f, first) ← holding [ov] (getMethod ov m pl)
      callWith pos f first (backTo pos (starEach (e :: es) X.env)) (backToKw pos (keywordEach [] X.env))) := by rfl) :
    PE X (.Call (.Attribute o m apos) (e :: es) [] pos) (tSm C sp ta t) := by
  obtain ⟨mc, p, f, fd, rest, h1, h2, h3, h4, F, b⟩ := M.ex
  refine ⟨fun pins s σ H Q I h => ?_⟩
  refine PySem.W.methodCall_KW (pl := pl) (thn (he.run pins s σ H _ I h) fun u s1 ⟨x, H1, I1, rx, ex, q⟩ => ?_) ht
  subst ex
  obtain rfl : u = Value.ref C := rx
  refine PySem.W.method_cls I1.kIn M.ga (PySem.W.cls_bind I1.kIn h1 h2 (wpAny_call (PySem.W.sm_get (s := { s1 with toks := s1.toks + 1 }) I1.kIn h3 (PySem.W.handed_on rfl ?_))))
  have I2 : Inv X pins σ H1 { s1 with toks := s1.toks + 1 } := I1.tok _
  refine PySem.W.callWith_K (first := []) (h₀ := X.base) I2.ok.mod.kin h4 (thn (ha.run pos pins _ σ H1 _ I2 q) fun us s2 ⟨vs, H2, I3, r, q2⟩ => ⟨I3.kIn, ?_⟩) hst hpl
  exact wpAny_call (codeAny_mono (run_at F (hr.mono hk) rfl (b us (by rw [← r.length]; exact F.len _ _ _ _ q2)) I3 r q2) fun r s' z => by
    rcases r with e | (v | _ | _ | _) <;> exact z)
end
end Lw

/-! ## Fm6 -/
set_option maxHeartbeats 4000000
/-! an __init__ of **parameters, called without any -/
namespace Lw
open PySem PySem.Spec PyProof.Rows L2
def FnN (P : Program) (w : World) (K : PySem.W.Frag) (mg : Str → Option Value) (base : Heap) (k : Nat) (f : Addr) (sp : Sp) : Prop :=
  ∀ (A : Around) (outer : List Env) (s : Shared) (H : Hp) (us : List Value) (vs : List V) (Q : VK), RoomG k A → Env0 P w K mg base A outer s H → Vals vs us → sp vs H Q E0 →
    codeAny (model P w) A (.call (.ref f) ⟨us, []⟩) (CR CX0 outer P w H s Q E0) s
section
variable {P : Program} {w : World} {K : PySem.W.Frag} {mg : Str → Option Value} {base : Heap} {k : Nat} {f : Addr} {fd : FuncData} {x qual pd : Str} {st : Stmt} {N ps : List Str} {sp : Sp}
theorem fn_kw0 (F : Fun K x qual st f fd) (S : FnScope N (ps ++ [pd]) (defScope st))
    (hb : ∀ us : List Value, us.length = ps.length → bindArgs fd ⟨us, []⟩ = ((alloc ({ cls := .type "dict", data := .dict #[] } : Obj) : Sem Addr) >>= fun d => pure (ps.zip us ++ [(pd, Value.ref d)])))
    (hbody : ∀ (cdv : Value) (A : Around) (outer : List Env) (s : Shared) (H : Hp) (vs : List V) (Q : VK), RoomG k (A.deeper (envOfC qual (defScope st) s.heap.objs.size f cdv)) → sp vs H Q E0 →
      ∃ t, PSs (cxOf CX0 P w K mg base N qual (defScope st) f cdv A outer s H E0).nox (defBody st) t ∧ t { nx := fun _ H' => Q .non H', rt := Q } (start N vs) H) :
    FnN P w K mg base (k + 1) f (fun vs H Q E => vs.length = ps.length ∧ ∀ d, H d = none → sp (vs ++ [V.ref d]) (upd H d (.dK [])) Q E0) := by
  obtain ⟨oc, od, kV, doc, pm, an, cdv, ct, osl, rfl, lk, hcd⟩ := F.ex
  intro A outer s H us vs Q hr e0 r ⟨hl, hq⟩
  have hn : H s.heap.objs.size = none := e0.hok.fresh (Nat.le_refl _)
  have hl1 : us.length = ps.length := by rw [← r.length]; exact hl
  refine StX.run_bnd (CX := CX0) (E := E0) lk hcd S hr.rm e0 (G := fun xs H2 => ∃ d, H d = none ∧ xs = vs ++ [V.ref d] ∧ H2 = upd H d (.dK [])) (fun A' Ex Q' h => ?_) fun s2 H2 xs ⟨d, hd, ex, eH⟩ hr' => ?_
  · rw [hb us hl1]
    refine wpAny_bind (wpAny_alloc (wpAny_pure ?_))
    have e1 := StX.env0_laid (u := .dK []) (o := ({ cls := .type "dict", data := .dict #[] } : Obj)) e0 (dk_empty _ (StX.env0_big e0))
    have un1 := StX.un_laid (fs := frs outer) (s := s) (o := ({ cls := .type "dict", data := .dict #[] } : Obj)) (u := .dK []) hn
    have z := h _ _ (vs ++ [V.ref s.heap.objs.size]) (us ++ [Value.ref s.heap.objs.size]) e1 un1 rfl (fun e s' z => z.elim) (r.append (.cons rfl .nil)) (by rw [List.length_append, List.length_append, hl] <;> rfl) ⟨_, hn, rfl, rfl⟩
    rw [List.zip_append hl1.symm] at z
    exact z
  · subst ex eH
    obtain ⟨t, ht, q⟩ := hbody cdv A outer s2 _ _ Q ⟨hr', hr.gd⟩ (hq d hd)
    exact ⟨t, ht.nox, q⟩
end
def tNew0 (C : Addr) (sp : Sp) : TE := fun σ H Q => ∀ x dx, H x = none → H dx = none → dx ≠ x → sp [.ref x] (upd (upd H dx (.own x)) x (.ins C dx [])) (fun v H2 => v = .non ∧ Q (.ref x) H2) E0
/-- a class that is made without arguments -/
structure Mk0 (P : Program) (w : World) (K : PySem.W.Frag) (mg : Str → Option Value) (base : Heap) (k : Nat) (x : Str) (C : Addr) (sp : Sp) : Prop where
  ex : ∃ f : Addr, Mk K C f ∧ FnN P w K mg base k f sp ∧ mg x = some (.ref C)
section
variable {X : Cx} {k j : Nat} {C : Addr} {sp : Sp} {x : Str} {p pos : Pos}
theorem pe_new0 (M : Mk0 X.prog X.w X.K X.mg X.base k x C sp) (hr : RoomG j X.A) (hk : k + 1 ≤ j) (hg : Gl X x) (hdb : (x == ("__debug__" : Str)) = false := by decide) : PE X (.Call (.Name x p) [] [] pos) (tNew0 C sp) := by
  obtain ⟨f, M, F, hm⟩ := M.ex
  refine ⟨fun pins s σ H Q I h => ?_⟩
  refine wpAny_Call_Name_kw (ld_glob I hg hm ?_ hdb)
  refine PySem.W.callWith_K0 I.kIn M.kp ?_
  have hq := h (s.heap.objs.size + 1) s.heap.objs.size (I.hok.fresh (Nat.le_succ _)) (I.hok.fresh (Nat.le_refl _)) (Nat.ne_of_lt (Nat.lt_succ_self _))
  have I2 := Inv.made (C := C) I
  have r2 : Vals [V.ref (s.heap.objs.size + 1)] [Value.ref (s.heap.objs.size + 1)] := .cons rfl .nil
  refine wpAny_call (make_map (f := f) I.kIn M.makes M.init (beq_iff_eq.mp M.fn) (codeAny_mono (F _ X.stack _ _ [Value.ref (s.heap.objs.size + 1)] _ _ ((hr.mono hk).make C [] []) (I2.env0.make C [] []) r2 hq) fun r s' hq' => ?_))
  cases r with
  | error e => exact False.elim hq'
  | ok fl =>
    cases fl with
    | ret u =>
      obtain ⟨v, H', I3, rv, ev, q3⟩ := I2.after hq'
      subst ev
      exact ⟨rv, ⟨V.ref (s.heap.objs.size + 1), H', I3, rfl, q3⟩⟩
    | next => exact False.elim hq'
    | brk => exact False.elim hq'
    | cont => exact False.elim hq'
end
end Lw

/-! ## Fn1 -/
set_option maxHeartbeats 4000000
/-! own == and !=, repr of own objects, keywords -/
namespace Lw
open PySem PySem.W PySem.Spec PySem.Calls PyProof.Rows Builtin
section
variable {prog : Program} {w : World} {M : Model} {A : Around} {E : Value → Shared → Prop} {s : Shared} {K : Frag} {x C f L : Addr} {ox : Obj} {od : Option Obj} {h₀ : Heap} {m : Str → Option Value} {b tb : Value}
theorem ifBoundB_Lw {name : Str} {id : String} {args : List Value} {Q : Option Value → Shared → Prop} (X : K.In s.heap) (I : InstAt s.heap x ox C od) (hs : findIn K (.ref C) name = some (some (.builtin id)))
    (hb : ∀ self, bindSpecial (.builtin id) self = pure (.builtin id, [self])) (h : wpAny M A (call (.builtin id) (.ref x :: args)) (fun v => Q (some v)) E s) : wpAny M A (callSpecialIfBound? (.ref x) name args) Q E s := by
  simp only [callSpecialIfBound?, bindSpecialIfBound?]
  refine wpAny_holding (wpAny_bind (wpAny_bind (wpAny_bind (I.type.here ((looks_findIn X hs).here ?_)))))
  refine wpAny_bind (wpAny_askSetting (wpAny_ite ?_))
  have fin : wpAny M A (call (.builtin id) ([.ref x] ++ args) >>= fun v => pure (some v)) Q E s := wpAny_bind (wpAny_mono h (fun v s' h' => wpAny_pure h') fun _ _ h' => h')
  split
  · exact wpAny_bind ((Looks.of_pure (hb _)).here (wpAny_pure (by exact fin)))
  · exact wpAny_tryCatch (wpAny_bind ((Looks.of_pure (hb _)).here (wpAny_pure (by exact fin))))
def NeBack (Q : Value → Shared → Prop) (v : Value) (s' : Shared) : Prop := ∃ c, v = .bool c ∧ Q (.bool (!c)) s'
theorem objNe_Lw {Q : Value → Shared → Prop} (hu : A.in1.units < cLine) (X : K.In s.heap) (I : InstAt s.heap x ox C od) (hm : mroIn K C (.type "object") = some true) (he : findIn K (.ref C) "__eq__" = some (some (.ref f))) (hf : isFn K (.ref f) = true)
    (h : wpAny (model prog w) A.in1 (call (.ref f) [.ref x, b]) (NeBack Q) E s) : wpAny (model prog w) A (call (.builtin "object.__ne__") [.ref x, b]) Q E s := by
  refine wpAny_call (codeAny_call_builtin PySem.F.cmp_object.ne.plain PySem.F.cmpEntry_ne (check_slot (i := "object.__ne__") (owner := "object") (n := "__ne__") (by decide +kernel) (by decide +kernel) (I.type.andThen (looks_mroIn X hm)) (PySem.F.cmpArgs_ne _ _) ?_))
  unfold Builtin.«object.__ne__»
  repeat (first
    | with_reducible refine wpAny_cRoomFor hu ?_
    | (refine wpAny_bind (m := callSpecialIfBound? (.ref x) (Str.ofString "__eq__") [b])
        (ifBound_K X I he hf (wpAny_mono h (fun r s' hr => by
          obtain ⟨b, rfl, hq⟩ := hr
          repeat (first | exact hq | exact wpAny_pure hq | exact wpAny_truthy_bool hq | (refine wpAny_bind (m := truthy (.bool _)) (wpAny_truthy_bool ?_)) | wp_step)) fun _ _ e => e)))
    | wp_step)
theorem ne_Lw {Q : Value → Shared → Prop} (hu : A.units < cLine) (hu1 : A.in1.units < cLine) (F : Fr h₀ L s.heap m) (X₀ : K.In h₀) (I : InstAt s.heap x ox C od) (hb : Looks (model prog w) s.heap (typeOf b) tb) (hn : notFirst K C tb = true)
    (hs : findIn K (.ref C) "__ne__" = some (some (.builtin "object.__ne__"))) (hm : mroIn K C (.type "object") = some true) (he : findIn K (.ref C) "__eq__" = some (some (.ref f))) (hf : isFn K (.ref f) = true)
    (h : wpAny (model prog w) A.in1 (call (.ref f) [.ref x, b]) (NeBack Q) E s) : wpAny (model prog w) A (richCompare .NotEq (.ref x) b) Q E s := by
  have X := X₀.keeps F.keep
  have one : wpAny (model prog w) A (tryCompare (.ref x) (cmpInfo .NotEq).2.1 b) (fun r s' => ∃ v, r = some v ∧ Q v s') E s := by
    unfold tryCompare
    refine wpAny_bind (ifBoundB_Lw X I hs PySem.F.cmp_object.ne.bind (objNe_Lw hu1 X I hm he hf (wpAny_mono h (fun v s' hv => ?_) fun _ _ e => e)))
    obtain ⟨c, rfl, q⟩ := hv
    exact ⟨c, rfl, wpAny_pure ⟨_, rfl, q⟩⟩
  unfold richCompare
  simp only [oneThing_ref]
  refine wpAny_holding (wpAny_bind (wpAny_cRoomFor hu ?_))
  refine wpAny_bind (I.type.here (wpAny_bind (hb.here ?_)))
  split
  · rename_i q
    have e : subIn K tb (.ref C) = some false := by
      rcases Bool.or_eq_true_iff.mp hn with e | e
      · rw [beq_iff_eq.mp e] at q; simp at q
      · exact beq_iff_eq.mp e
    refine wpAny_bind ((looks_subIn X e).here ?_)
    simp only [Bool.false_eq_true, if_false]
    refine wpAny_bind (wpAny_mono one (fun r s' z => ?_) fun _ _ e => e)
    obtain ⟨v, rfl, hq⟩ := z
    exact wpAny_pure hq
  · refine wpAny_bind (wpAny_pure ?_)
    simp only [Bool.false_eq_true, if_false]
    refine wpAny_bind (wpAny_mono one (fun r s' z => ?_) fun _ _ e => e)
    obtain ⟨v, rfl, hq⟩ := z
    exact wpAny_pure hq
end
end Lw
namespace Lw
open PySem PySem.Spec PyProof.Rows L2
/-- what the classes say to == -/
structure FeQ (K : PySem.W.Frag) (C : Addr) : Prop where
  str : PySem.W.subIn K (.type "str") (.ref C) = some false
  int : PySem.W.subIn K (.type "int") (.ref C) = some false
  ne : PySem.W.findIn K (.ref C) "__ne__" = some (some (.builtin "object.__ne__"))
  obj : PySem.W.mroIn K C (.type "object") = some true
  kstr : PySem.W.kitOne K (.type "str") (.ref C) = some false
  kint : PySem.W.kitOne K (.type "int") (.ref C) = some false
section
variable {X : Cx} {k j : Nat} {C : Addr} {ps : List Str} {sp : Sp}
/-- what an object may be held against: one of its class, a text, an int -/
inductive Oth (C : Addr) (H : Hp) : V → Prop
  | own {a : Addr} (h : Is C H a) : Oth C H (.ref a)
  | str (z : Str) : Oth C H (.str z)
  | int (i : Int) : Oth C H (.int i)
def rEqO (C : Addr) (sp : Sp) : R2 := fun x y H Q => ∃ a, x = .ref a ∧ Is C H a ∧ Oth C H y ∧ sp [x, y] H Q E0
def rNeO (C : Addr) (sp : Sp) : R2 := fun x y H Q => ∃ a, x = .ref a ∧ Is C H a ∧ Oth C H y ∧ sp [x, y] H (fun v H' => ∃ b, v = .bl b ∧ Q (.bl (!b)) H') E0
theorem oth_looks {pins : List (Addr × Obj)} {σ : L2.St} {H : Hp} {s : Shared} {y : V} {u : Value} (I : Inv X pins σ H s) (q : FeQ X.K C) (h : Oth C H y) (r : RelV y u) : ∃ tb, PySem.W.Looks (model X.prog X.w) s.heap (typeOf u) tb ∧ PySem.W.notFirst X.K C tb = true := by
  cases h with
  | own h =>
    cases r
    obtain ⟨ox, od, J⟩ := is_inst I h
    exact ⟨_, J.type, by unfold PySem.W.notFirst; simp⟩
  | str z =>
    obtain ⟨t, rfl⟩ := r
    exact ⟨.type "str", PySem.W.Looks.of_pure rfl, by unfold PySem.W.notFirst; rw [q.str]; simp⟩
  | int i =>
    obtain ⟨t, rfl⟩ := r
    exact ⟨.type "int", PySem.W.Looks.of_pure rfl, by unfold PySem.W.notFirst; rw [q.int]; simp⟩
theorem op_eq_own (M : Mt X.prog X.w X.K X.mg X.base k C "__eq__" ps sp) (hr : RoomG j X.A) (hk : k ≤ j) (q : FeQ X.K C) : OpR X (compareOp .Eq) (rEqO C sp) := by
  obtain ⟨f, fd, F, hm, b, _⟩ := M.ex
  intro pins s σ H x y v u Q I rx ry hq
  obtain ⟨a, rfl, ha, hy, h⟩ := hq
  cases rx
  obtain ⟨ox, od, J⟩ := is_inst I ha
  obtain ⟨m, hF⟩ := I.fr
  obtain ⟨tb, l, n⟩ := oth_looks I q hy ry
  have hu : X.A.units < cLine := Nat.lt_of_le_of_lt (Nat.le_add_right _ _) hr.units
  exact PySem.W.cmp_ofEq (PySem.W.cmp_K hu hF I.ok.mod.kin J l n hm.at_ hm.fn (call_bin (vs := [V.ref a, y]) (us := [Value.ref a, u]) F (hr.mono hk) (b _ (F.len _ _ _ _ h)) I (.cons rfl (.cons ry .nil)) h))
theorem op_ne_own (M : Mt X.prog X.w X.K X.mg X.base k C "__eq__" ps sp) (hr : RoomG j X.A) (hk : k + 1 ≤ j) (q : FeQ X.K C) : OpR X (compareOp .NotEq) (rNeO C sp) := by
  obtain ⟨f, fd, F, hm, b, _⟩ := M.ex
  intro pins s σ H x y v u Q I rx ry hq
  obtain ⟨a, rfl, ha, hy, h⟩ := hq
  cases rx
  obtain ⟨ox, od, J⟩ := is_inst I ha
  obtain ⟨m, hF⟩ := I.fr
  obtain ⟨tb, l, n⟩ := oth_looks I q hy ry
  have hu : X.A.units < cLine := Nat.lt_of_le_of_lt (Nat.le_add_right _ _) hr.units
  have hr1 : RoomG k X.A.in1 := (hr.mono hk).in1
  have hu1 : X.A.in1.units < cLine := Nat.lt_of_le_of_lt (Nat.le_add_right _ _) hr1.units
  refine PySem.W.cmp_ofNotEq (ne_Lw hu hu1 hF I.ok.mod.kin J l n q.ne q.obj hm.at_ hm.fn (wpAny_call (codeAny_mono (run_at (vs := [V.ref a, y]) (us := [Value.ref a, u]) F hr1 rfl (b _ (F.len _ _ _ _ h)) I (.cons rfl (.cons ry .nil)) h) fun r s' z => ?_)))
  cases r with
  | error e => exact z
  | ok fl =>
    cases fl with
    | ret v =>
      obtain ⟨y, H', I', ry, c, rfl, q⟩ := z
      cases ry
      exact ⟨c, rfl, V.bl (!c), H', I', rfl, q⟩
    | next => exact z
    | brk => exact z
    | cont => exact z
/-- repr(a) by the own __repr__ -/
theorem call_reprO (M : Mt X.prog X.w X.K X.mg X.base k C "__repr__" ps sp) (hr : RoomG j X.A) (hk : k + 1 ≤ j) : CallR X (.builtin "repr") (rStrO C sp) := by
  obtain ⟨f, fd, F, hm, b, _⟩ := M.ex
  intro pins s σ H xs us Q I r hq
  obtain ⟨a, rfl, ha, h⟩ := hq
  obtain ⟨u, rfl, rx⟩ := vals1 r
  cases rx
  obtain ⟨ox, od, J⟩ := is_inst I ha
  obtain ⟨m, hF⟩ := I.fr
  have hr1 : RoomG k X.A.in1 := (hr.mono hk).in1
  have hu1 : X.A.in1.units < cLine := Nat.lt_of_le_of_lt (Nat.le_add_right _ _) hr1.units
  refine PySem.W.repr_K hu1 hF I.ok.mod.kin J hm.at_ hm.fn (wpAny_call (codeAny_mono (run_at (vs := [V.ref a]) (us := [Value.ref a]) F hr1 rfl (b _ (F.len _ _ _ _ h)) I (.cons rfl .nil) h) fun r s' z => ?_))
  cases r with
  | error e => exact z
  | ok fl =>
    cases fl with
    | ret v =>
      obtain ⟨y, H', I', ry, ⟨zz, rfl⟩, q⟩ := z
      obtain ⟨t, rfl⟩ := ry
      exact ⟨V.str zz, H', I', ⟨t, rfl⟩, q⟩
    | next => exact z
    | brk => exact z
    | cont => exact z
end
end Lw

/-! ## Fn2 -/
set_option maxHeartbeats 4000000
/-! keywords: an __init__ of **parameters, a static method -/
namespace Lw
open PySem PySem.Spec PyProof.Rows L2 PySem.W
section
variable {prog : Program} {w : World} {A : Around} {E : Value → Shared → Prop} {d : Addr}
theorem set_kw {s : Shared} {es : List DictEntry} {n : Nat} {k : Str} {v : Value} {Q : Unit → Shared → Prop} (D : s.heap.get? d = some (dictOf es n))
    (hs : ∀ e ∈ es, e.key.isStr k = false) (hr : ∀ e ∈ es, e.refKey = false)
    (h : ∀ h' : Heap, h'.get? d = some (dictOf (es ++ [⟨PyData.keyHash w.params k, .str k s.toks, v⟩]) (n + 1)) → (∀ b o, b ≠ d → s.heap.get? b = some o → h'.get? b = some o) → h'.objs.size = s.heap.objs.size → Q () { s with heap := h', toks := s.toks + 1 }) :
    wpAny (model prog w) A (nsSet d k v) Q E s := by
  have e1 : es.any (·.key.isStr k) = false := by
    cases q : es.any (·.key.isStr k) with
    | false => rfl
    | true => obtain ⟨e, he, z⟩ := List.any_eq_true.mp q; rw [hs e he] at z; cases z
  have e2 : es.any (·.refKey) = false := by
    cases q : es.any (·.refKey) with
    | false => rfl
    | true => obtain ⟨e, he, z⟩ := List.any_eq_true.mp q; rw [hr e he] at z; cases z
  have e : Obj.putName k (PyData.keyHash w.params k) (.str k s.toks) v (dictOf es n) = dictOf (es ++ [⟨PyData.keyHash w.params k, .str k s.toks, v⟩]) (n + 1) := by
    rw [putName_dict, putL_new hs]
    show dictOf _ (if es.any (·.key.isStr k) then n else n + 1) = _
    rw [e1, if_neg Bool.false_ne_true]
  have c : aRefKeyMayBeTheName k es.toArray = false := by
    rw [aRefKeyMayBeTheName_at, ← Array.any_toList, ← Array.any_toList]
    show (!es.any (·.key.isStr k) && es.any (·.refKey)) = false
    rw [e2, Bool.and_false]
  have g := Heap.get?_update_self (Obj.putName k (PyData.keyHash w.params k) (.str k s.toks) v) D (by rw [e]; rfl)
  rw [e] at g
  unfold nsSet
  refine wpAny_bind (wpAny_bind (wpAny_askSetting (wpAny_pure (wpAny_bind (wpAny_mkText (wpAny_bind (wpAny_loadPart D ?_)))))))
  dsimp only
  rw [c]
  exact wpAny_updatePart D (h _ g (fun b o hb q => (Heap.get?_update_other _ _ (Ne.symm hb)).trans q) (Heap.size_update _ _ _))
theorem fill_kw {Q : PUnit → Shared → Prop} : ∀ (ex : List (Str × Value)) (s : Shared) (es : List DictEntry) (n : Nat), s.heap.get? d = some (dictOf es n) →
    (∀ e ∈ es, ∀ x ∈ ex, e.key.isStr x.1 = false) → (∀ e ∈ es, e.refKey = false) → (ex.map (·.1)).Nodup →
    (∀ h' : Heap, h'.get? d = some (dictOf (es ++ kwEs w.params s.toks ex) (n + ex.length)) → (∀ b o, b ≠ d → s.heap.get? b = some o → h'.get? b = some o) → h'.objs.size = s.heap.objs.size → Q ⟨⟩ { s with heap := h', toks := s.toks + ex.length }) →
    wpAny (model prog w) A (forIn ex PUnit.unit fun x _ => (nsSet d x.1 x.2 >>= fun _ => pure (ForInStep.yield PUnit.unit))) Q E s
  | [], s, es, n, D, _, _, _, h => by
    rw [List.forIn_nil]
    refine wpAny_pure (h s.heap ?_ (fun _ _ _ q => q) rfl)
    show s.heap.get? d = some (dictOf (es ++ []) n)
    rw [List.append_nil]
    exact D
  | x :: r, s, es, n, D, hs, hr, hn, h => by
    obtain ⟨hn1, hn2⟩ := List.nodup_cons.mp (show (x.1 :: r.map (·.1)).Nodup from hn)
    rw [List.forIn_cons]
    refine wpAny_bind (wpAny_bind (set_kw D (fun e he => hs e he x (.head _)) hr fun h' D' k1 z1 => wpAny_pure ?_))
    show wpAny (model prog w) A (forIn r PUnit.unit fun x _ => (nsSet d x.1 x.2 >>= fun _ => pure (ForInStep.yield PUnit.unit))) Q E { s with heap := h', toks := s.toks + 1 }
    refine fill_kw r { s with heap := h', toks := s.toks + 1 } _ _ D' (fun e he y hy => ?_) (fun e he => ?_) hn2 fun h'' D'' k2 z2 => ?_
    · rcases List.mem_append.mp he with he | he
      · exact hs e he y (.tail _ hy)
      · obtain rfl := List.mem_singleton.mp he
        show (x.1 == y.1) = false
        exact beq_eq_false_iff_ne.mpr fun q => hn1 (by rw [q]; exact List.mem_map_of_mem hy)
    · rcases List.mem_append.mp he with he | he
      · exact hr e he
      · obtain rfl := List.mem_singleton.mp he
        rfl
    · have t1 : s.toks + 1 + r.length = s.toks + (r.length + 1) := by omega
      have t2 : n + 1 + r.length = n + (r.length + 1) := by omega
      show Q ⟨⟩ { s with heap := h'', toks := s.toks + 1 + r.length }
      rw [t1]
      refine h h'' ?_ (fun b o hb q => k2 b o hb (k1 b o hb q)) (z2.trans z1)
      rw [t2, List.append_assoc] at D''
      exact D''
end
theorem kw_pairs (prog : Program) (w : World) : ∀ (ex : List (Str × Value)) (t : Tok), Pairs (mixKind prog w) (kwEs w.params t ex) (ex.map fun p => ((Sum.inr p.1 : Key), p.2))
  | [], _ => Pairs.nil
  | x :: r, t => Pairs.cons (mixKind_str prog w x.1 t) rfl (kw_pairs prog w r (t + 1))
theorem kw_dictOf (prog : Program) (w : World) {h : Heap} {d : Addr} {ex : List (Str × Value)} {t : Tok} {n : Nat} (D : h.get? d = some (dictOf (kwEs w.params t ex) n)) (hn : (ex.map (·.1)).Nodup) :
    h.DictOf (mixKind prog w) d (ex.map fun p => ((Sum.inr p.1 : Key), p.2)) :=
  ⟨_, (kwEs w.params t ex).toArray, n, D, ⟨rfl, rfl, rfl⟩, rfl, fun e he => by
    obtain ⟨k, u, hk, hh⟩ := kwEs_key ex t e (List.mem_toArray.mp he)
    exact ⟨Sum.inr k, by rw [hk]; exact mixKind_str prog w k u, hh.trans rfl⟩, by
    show Pairs (mixKind prog w) (kwEs w.params t ex).toArray.toList _
    rw [List.toList_toArray]
    exact kw_pairs prog w ex t, by
    rw [List.map_map]
    have : (ex.map ((fun p : Key × Value => p.1) ∘ fun p => ((Sum.inr p.1 : Key), p.2))) = (ex.map (·.1)).map (Sum.inr : Str → Key) := by
      rw [List.map_map]
      rfl
    rw [this]
    exact List.pairwise_map.mpr (List.Pairwise.imp (fun h e => h (Sum.inr.inj e)) hn)⟩
theorem kw_kv : ∀ {ks : List Str} {ns : List Int} {us : List Value}, Vals (ns.map V.int) us → KV ((ks.zip ns).map entK) ((ks.zip us).map fun p => ((Sum.inr p.1 : Key), p.2))
  | [], _, _, _ => .nil
  | _ :: _, [], _, r => by
    cases r
    exact .nil
  | k :: ks, n :: ns, _, r => by
    cases r with
    | cons h t => exact .cons ⟨rfl, h⟩ (kw_kv t)
def FnKw (P : Program) (w : World) (K : PySem.W.Frag) (mg : Str → Option Value) (base : Heap) (k : Nat) (f : Addr) (ks : List Str) (sp : V → List Int → Hp → VK → Prop) : Prop :=
  ∀ (A : Around) (outer : List Env) (s : Shared) (H : Hp) (x : V) (u : Value) (ns : List Int) (us : List Value) (Q : VK), RoomG k A → Env0 P w K mg base A outer s H → RelV x u → Vals (ns.map V.int) us → ns.length = ks.length → sp x ns H Q →
    codeAny (model P w) A (.call (.ref f) ⟨[u], ks.zip us⟩) (CR CX0 outer P w H s Q E0) s
section
variable {P : Program} {w : World} {K : PySem.W.Frag} {mg : Str → Option Value} {base : Heap} {k : Nat} {f : Addr} {fd : FuncData} {x qual p1 pd : Str} {st : Stmt} {N ks : List Str} {sp : Sp}
theorem env0_new {A : Around} {outer : List Env} {s : Shared} {H : Hp} {h' : Heap} {a : Addr} {u : HO} {tk : Tok} (e0 : Env0 P w K mg base A outer s H) (kp : ∀ b x, s.heap.get? b = some x → h'.get? b = some x) (hz : s.heap.objs.size ≤ h'.objs.size) (hp : s.heap.objs.size ≤ a)
    (new : ObjOk P w (upd H a u) h' a u) : Env0 P w K mg base A outer { s with heap := h', toks := tk } (upd H a u) := by
  refine ⟨e0.frames, e0.mod, fun b x e => ⟨kp b x (e0.bs b x e).1, ?_⟩, ?_, Heap.FunFrames.of_keeps (fun b x e _ => ⟨x, kp b x e, rfl⟩) e0.funs, fun b hb => ?_, e0.hok.laid kp hp new, e0.bare⟩
  · rw [upd_ne (Nat.ne_of_lt (Nat.lt_of_lt_of_le (Heap.lt_size (e0.bs b x e).1) hp))]
    exact (e0.bs b x e).2
  · exact Nat.le_trans e0.bsz hz
  · obtain ⟨_, x, hx, _⟩ := e0.funs.mem hb
    rw [upd_ne (Nat.ne_of_lt (Nat.lt_of_lt_of_le (Heap.lt_size hx) hp))]
    exact e0.frf b hb
theorem fn_kwn (F : Fun K x qual st f fd) (S : FnScope N [p1, pd] (defScope st)) (hn : ks.Nodup) (hks : ks.length ≤ 60)
    (hb : ∀ (u : Value) (us : List Value), us.length = ks.length → bindArgs fd ⟨[u], ks.zip us⟩ = ((alloc ({ cls := .type "dict", data := .dict #[] } : Obj) : Sem Addr) >>= fun d =>
      (forIn (ks.zip us) PUnit.unit (fun x _ => (nsSet d x.1 x.2 >>= fun _ => pure (ForInStep.yield PUnit.unit))) >>= fun _ => pure ([(p1, u), (pd, Value.ref d)] : List (Str × Value)))))
    (hbody : ∀ (cdv : Value) (A : Around) (outer : List Env) (s : Shared) (H : Hp) (vs : List V) (Q : VK), RoomG k (A.deeper (envOfC qual (defScope st) s.heap.objs.size f cdv)) → sp vs H Q E0 →
      ∃ t, PSs (cxOf CX0 P w K mg base N qual (defScope st) f cdv A outer s H E0).nox (defBody st) t ∧ t { nx := fun _ H' => Q .non H', rt := Q } (start N vs) H) :
    FnKw P w K mg base (k + 1) f ks (fun x ns H Q => ∀ d, H d = none → sp [x, V.ref d] (upd H d (.dK ((ks.zip ns).map entK))) Q E0) := by
  obtain ⟨oc, od, kV, doc, pm, an, cdv, ct, osl, rfl, lk, hcd⟩ := F.ex
  intro A outer s H x u ns us Q hr e0 rx r hl hq
  have hnn : H s.heap.objs.size = none := e0.hok.fresh (Nat.le_refl _)
  have hl1 : us.length = ks.length := by
    have := r.length
    rw [List.length_map] at this
    omega
  refine StX.run_bnd (CX := CX0) (E := E0) lk hcd S hr.rm e0 (G := fun xs H2 => ∃ d, H d = none ∧ xs = [x, V.ref d] ∧ H2 = upd H d (.dK ((ks.zip ns).map entK))) (fun A' Ex Q' h => ?_) fun s2 H2 xs ⟨d, hd, ex, eH⟩ hr' => ?_
  · rw [hb u us hl1]
    refine wpAny_bind (wpAny_alloc ?_)
    have k0 : ∀ b o, s.heap.get? b = some o → (s.heap.push ({ cls := .type "dict", data := .dict #[] } : Obj)).get? b = some o := fun b o e => Heap.get?_push_of_some _ e
    have hzk : (ks.zip us).map (·.1) = ks := List.map_fst_zip (by omega)
    refine wpAny_bind (fill_kw (ks.zip us) { s with heap := s.heap.push ({ cls := .type "dict", data := .dict #[] } : Obj) } [] 0 (show _ = some (dictOf [] 0) from Heap.get?_push_size _ rfl) (fun _ he => nomatch he) (fun _ he => nomatch he) (by rw [hzk]; exact hn) fun h' D kp z => wpAny_pure ?_)
    have kp1 : ∀ b o, s.heap.get? b = some o → h'.get? b = some o := fun b o e => kp b o (Nat.ne_of_lt (Heap.lt_size e)) (k0 b o e)
    have D2 : h'.get? s.heap.objs.size = some (dictOf (kwEs w.params s.toks (ks.zip us)) (0 + (ks.zip us).length)) := by
      have := D
      rw [List.nil_append] at this
      exact this
    have lz : (ks.zip ns).length ≤ 60 := by
      rw [List.length_zip]
      omega
    have new : ObjOk P w (upd H s.heap.objs.size (.dK ((ks.zip ns).map entK))) h' s.heap.objs.size (.dK ((ks.zip ns).map entK)) :=
      ⟨by rw [List.length_map]; exact Nat.le_trans lz (by decide), beq_eq_false_iff_ne.mpr (Ne.symm (Nat.ne_of_lt (StX.env0_big e0))), _, kw_kv r, kw_dictOf P w D2 (by rw [hzk]; exact hn)⟩
    have sz : s.heap.objs.size ≤ h'.objs.size := by
      rw [z]
      show _ ≤ (s.heap.push _).objs.size
      rw [Heap.size_push]
      exact Nat.le_succ _
    have e1 := env0_new (tk := s.toks + (ks.zip us).length) e0 kp1 sz (Nat.le_refl _) new
    have un1 : Un (frs outer) [] H (upd H s.heap.objs.size (.dK ((ks.zip ns).map entK))) s.heap h' := Un.laid kp1 (Nat.le_refl _) hnn
    exact h _ _ [x, V.ref s.heap.objs.size] [u, Value.ref s.heap.objs.size] e1 un1 rfl (fun e s' z => z.elim) (.cons rx (.cons rfl .nil)) rfl ⟨_, hnn, rfl, rfl⟩
  · subst ex eH
    obtain ⟨t, ht, q⟩ := hbody cdv A outer s2 _ _ Q ⟨hr', hr.gd⟩ (hq d hd)
    exact ⟨t, ht.nox, q⟩
end
/-- C(k = e, ..) -/
def tNewK (C : Addr) (ks : List Str) (sp : V → List Int → Hp → VK → Prop) (t : TA) : TE := fun σ H Q => t σ H fun vs H1 => ∃ ns : List Int, vs = ns.map V.int ∧ ns.length = ks.length ∧
  ∀ x dx, H1 x = none → H1 dx = none → dx ≠ x → sp (.ref x) ns (upd (upd H1 dx (.own x)) x (.ins C dx [])) (fun v H2 => v = .non ∧ Q (.ref x) H2)
structure MkK (P : Program) (w : World) (K : PySem.W.Frag) (mg : Str → Option Value) (base : Heap) (k : Nat) (x : Str) (C : Addr) (ks : List Str) (sp : V → List Int → Hp → VK → Prop) : Prop where
  ex : ∃ f : Addr, Mk K C f ∧ FnKw P w K mg base k f ks sp ∧ mg x = some (.ref C)
section
variable {X : Cx} {k j : Nat} {C : Addr} {sp : V → List Int → Hp → VK → Prop} {x : Str} {p pos : Pos} {ks : List Str} {kws : List Keyword} {tk : TA}
theorem pe_newk (M : MkK X.prog X.w X.K X.mg X.base k x C ks sp) (hr : RoomG j X.A) (hk : k + 1 ≤ j) (hg : Gl X x) (hkw : PK X kws tk)
    (hall : (backToKw pos (keywordEach kws X.env)).all (·.1.isSome) = true := by rfl) (hks : (backToKw pos (keywordEach kws X.env)).filterMap (·.1) = ks := by rfl) (hdb : (x == ("__debug__" : Str)) = false := by decide)
    (hpl : ((backTo pos (starEach [] X.env)).any (·.1) || (backToKw pos (keywordEach kws X.env)).any (·.1.isNone)) = false := by rfl) : PE X (.Call (.Name x p) [] kws pos) (tNewK C ks sp tk) := by
  obtain ⟨f, M, F, hm⟩ := M.ex
  refine ⟨fun pins s σ H Q I h => ?_⟩
  refine wpAny_Call_Name_kw (ld_glob I hg hm ?_ hdb)
  refine PySem.W.callWith_KW0 (first := []) (h₀ := X.base) I.ok.mod.kin M.kp hall (thn (hkw.run pos pins s σ H _ I h) fun us s1 ⟨vs, H1, I1, r, ns, ev, hl, q⟩ => ⟨I1.kIn, ?_⟩) hpl
  rw [hks]
  subst ev
  have hq := q (s1.heap.objs.size + 1) s1.heap.objs.size (I1.hok.fresh (Nat.le_succ _)) (I1.hok.fresh (Nat.le_refl _)) (Nat.ne_of_lt (Nat.lt_succ_self _))
  have I2 := Inv.made (C := C) I1
  refine wpAny_call (make_map (f := f) I1.kIn M.makes M.init (beq_iff_eq.mp M.fn) (codeAny_mono (F _ X.stack _ _ (V.ref (s1.heap.objs.size + 1)) (Value.ref (s1.heap.objs.size + 1)) ns us _ ((hr.mono hk).make C [] (ks.zip us)) (I2.env0.make C [] (ks.zip us)) rfl r hl hq) fun r s' hq' => ?_))
  cases r with
  | error e => exact False.elim hq'
  | ok fl =>
    cases fl with
    | ret u =>
      obtain ⟨v, H', I3, rv, ev, q3⟩ := I2.after hq'
      subst ev
      exact ⟨rv, ⟨V.ref (s1.heap.objs.size + 1), H', I3, rfl, q3⟩⟩
    | next => exact False.elim hq'
    | brk => exact False.elim hq'
    | cont => exact False.elim hq'
end
/-! ### C.m(k = e), m a static method of one parameter -/
structure StK (P : Program) (w : World) (K : PySem.W.Frag) (mg : Str → Option Value) (base : Heap) (k : Nat) (C : Addr) (m p1 : Str) (sp : Sp) : Prop where
  ga : PySem.W.specialIn K (.ref C) "__getattribute__" = some (some (.builtin "type.__getattribute__"))
  ex : ∃ (mc : Value) (p f : Addr) (fd : FuncData) (rest : List Value), PySem.W.readsIn K C mc = true ∧ PySem.W.findCls K (.ref C) mc m = some (.get (.builtin "staticmethod.__get__") (.ref p) .none (.ref C)) ∧
    PySem.W.recIn K p "staticmethod" = some (.ref f :: rest) ∧ PySem.W.keepIn K (.ref f) = true ∧ FnG P w K mg base k f fd [p1] sp ∧ (∀ u : Value, bindArgs fd ⟨[], [(p1, u)]⟩ = pure ([p1].zip [u]))
section
variable {X : Cx} {k j : Nat} {C : Addr} {p1 : Str} {sp : Sp} {m : Str} {o : Expr} {kws : List Keyword} {ta : TE} {tk : TA} {pos apos : Pos}
theorem pe_smk {pl : Sem Bool} (he : PE X o ta) (M : StK X.prog X.w X.K X.mg X.base k C m p1 sp) (hr : RoomG j X.A) (hk : k ≤ j) (hkw : PK X kws tk)
    (hall : (backToKw pos (keywordEach kws X.env)).all (·.1.isSome) = true := by rfl) (hks : (backToKw pos (keywordEach kws X.env)).filterMap (·.1) = [p1] := by rfl)
    (hpl : ((backTo pos (starEach [] X.env)).any (·.1) || (backToKw pos (keywordEach kws X.env)).any (·.1.isNone)) = false := by rfl)
    (ht : eval (.Call (.Attribute o m apos) [] kws pos) X.env = (do
      let ov ← eval o X.env
      standAt apos.atName
      let (f, first) ← holding [ov] (getMethod ov m pl)
      callWith pos f first (backTo pos (starEach [] X.env)) (backToKw pos (keywordEach kws X.env))) := by rfl) :
    PE X (.Call (.Attribute o m apos) [] kws pos) (tSm C sp ta tk) := by
  obtain ⟨mc, p, f, fd, rest, h1, h2, h3, h4, F, b⟩ := M.ex
  refine ⟨fun pins s σ H Q I h => ?_⟩
  refine PySem.W.methodCall_KW (pl := pl) (thn (he.run pins s σ H _ I h) fun u s1 ⟨x, H1, I1, rx, ex, q⟩ => ?_) ht
  subst ex
  obtain rfl : u = Value.ref C := rx
  refine PySem.W.method_cls I1.kIn M.ga (PySem.W.cls_bind I1.kIn h1 h2 (wpAny_call (PySem.W.sm_get (s := { s1 with toks := s1.toks + 1 }) I1.kIn h3 (PySem.W.handed_on rfl ?_))))
  have I2 : Inv X pins σ H1 { s1 with toks := s1.toks + 1 } := I1.tok _
  refine PySem.W.callWith_KW0 (first := []) (h₀ := X.base) I2.ok.mod.kin h4 hall (thn (hkw.run pos pins _ σ H1 _ I2 q) fun us s2 ⟨vs, H2, I3, r, q2⟩ => ⟨I3.kIn, ?_⟩) hpl
  rw [hks]
  obtain ⟨v, rfl⟩ : ∃ v, us = [v] := by
    have l2 := F.len _ _ _ _ q2
    have l3 := r.length
    simp at l2
    match us, (show us.length = 1 by omega) with
    | [v], _ => exact ⟨v, rfl⟩
  exact wpAny_call (codeAny_mono (run_at F (hr.mono hk) rfl (b _) I3 r q2) fun r s' z => by
    rcases r with e | (v | _ | _ | _) <;> exact z)
end
end Lw

/-! ## LwE -/
set_option maxHeartbeats 4000000
namespace PySem
namespace LwX
open Builtin Builtin.ObjectAttr HandSPX
/-- own classes, then the tail -/
def refsT (tl : List Value) : List Value → Bool
  | .ref _ :: r => refsT tl r
  | l => l == tl
theorem refsT_cases {tl : List Value} : ∀ l : List Value, refsT tl l = true → (∃ c r, l = .ref c :: r ∧ refsT tl r = true) ∨ l = tl
  | [], e => .inr (beq_iff_eq.mp e)
  | .ref c :: r, e => .inl ⟨c, r, rfl, e⟩
  | .none :: _, e => .inr (beq_iff_eq.mp e)
  | .ellipsis :: _, e => .inr (beq_iff_eq.mp e)
  | .notImplemented :: _, e => .inr (beq_iff_eq.mp e)
  | .bool _ :: _, e => .inr (beq_iff_eq.mp e)
  | .int _ _ :: _, e => .inr (beq_iff_eq.mp e)
  | .float _ _ :: _, e => .inr (beq_iff_eq.mp e)
  | .str _ _ :: _, e => .inr (beq_iff_eq.mp e)
  | .bytes _ _ :: _, e => .inr (beq_iff_eq.mp e)
  | .type _ :: _, e => .inr (beq_iff_eq.mp e)
  | .builtin _ :: _, e => .inr (beq_iff_eq.mp e)
structure TailOk (tl : List Value) : Prop where
  passes : ∀ self : Value, refuseLoop self "__setattr__" tl = pure ()
  ne : tl ≠ []
  obj : tl.contains (.type "object") = true
abbrev tailOf (B : String) : List Value := [.type B, .type "Exception", .type "BaseException", .type "object"]
theorem tail_ValueError : TailOk (tailOf "ValueError") := ⟨fun self => by kernel_rfl, by simp, by decide +kernel⟩
theorem tail_LookupError : TailOk (tailOf "LookupError") := ⟨fun self => by kernel_rfl, by simp, by decide +kernel⟩
theorem tail_RuntimeError : TailOk (tailOf "RuntimeError") := ⟨fun self => by kernel_rfl, by simp, by decide +kernel⟩
theorem tail_ArithmeticError : TailOk (tailOf "ArithmeticError") := ⟨fun self => by kernel_rfl, by simp, by decide +kernel⟩
section
variable {tl : List Value}
theorem refsT_pass (K : TailOk tl) (self : Value) : ∀ l : List Value, refsT tl l = true → refuseLoop self "__setattr__" l = pure () := by
  intro l
  induction l with
  | nil =>
    intro e
    rcases refsT_cases [] e with ⟨c, r', q, h⟩ | q
    · cases q
    · exact absurd q.symm K.ne
  | cons a r ih =>
    intro e
    rcases refsT_cases (a :: r) e with ⟨c, r', q, h⟩ | q
    · obtain ⟨rfl, rfl⟩ := List.cons.inj q
      rw [refuseLoop_ref]; exact ih h
    · rw [q]; exact K.passes self
theorem refsT_contains (K : TailOk tl) (X : String) : ∀ l : List Value, refsT tl l = true → l.contains (.type X) = tl.contains (.type X) := by
  intro l
  induction l with
  | nil =>
    intro e
    rcases refsT_cases [] e with ⟨c, r', q, h⟩ | q
    · cases q
    · exact absurd q.symm K.ne
  | cons a r ih =>
    intro e
    rcases refsT_cases (a :: r) e with ⟨c, r', q, h⟩ | q
    · obtain ⟨rfl, rfl⟩ := List.cons.inj q
      rw [List.contains_cons, ih h]; rfl
    · rw [q]
theorem refsT_ne (K : TailOk tl) {l : List Value} (e : refsT tl l = true) : l.isEmpty = false := by
  cases l with
  | nil =>
    rcases refsT_cases [] e with ⟨c, r', q, h⟩ | q
    · cases q
    · exact absurd q.symm K.ne
  | cons _ _ => rfl
end
section
variable {M : Model} {A : Around} {E : Value → Shared → Prop} {h : Heap} {g : Array GenState} {d : Drawn} {t : Nat} {os : OsState}
variable {nm q : Str} {C N : Addr} {bs bm bmB : List Value} {hdct : Bool} {sn : List Str} {sub : List Value} {ab : Bool} {col : Option Bool} {dd : Option Addr} {k0 k1 k2 k3 k5 : Option Value} {B newId initId : String}

theorem check_new_ownK (F : ExcBaseFacts B newId initId bmB) (hT : ∀ X : String, bm.contains (.type X) = bmB.contains (.type X)) {rest : List Value} {kw : List (Str × Value)} {Q : Unit → Shared → Prop}
    (hC : h.get? C = some (excClassObj nm q C N bs bm hdct sn sub ab col dd k0 k1 k2 k3 k5 newId)) (hq : Q () ⟨h, g, d, t, os⟩) : wpAny M A (checkBuiltinCall newId ⟨.ref C :: rest, kw⟩) Q E ⟨h, g, d, t, os⟩ := by
  have hcont : (Value.ref C :: bm).contains (.type B) = true := by rw [List.contains_cons, hT, F.hasB, Bool.or_true]
  have hstar := F.noStar
  simp only [checkBuiltinCall, F.newKind, F.newSplit, F.newRow]
  repeat (first | refine wpAny_loadPart_at hC ?_ | (refine wpAny_isSubtype_exc hC ?_; rw [hcont]) | refine wpAny_staticBase_exc hC ?_ | refine wpAny_madeBy_exc hC ?_ | simp only [bne_self_eq_false, Bool.false_eq_true, if_false] | wp_step)
  exact hq
end
section
variable {prog : Program} {w : World} {A : Around} {E : Value → Shared → Prop} {R : Result → Shared → Prop} {h : Heap} {g : Array GenState} {d : Drawn} {t : Nat} {os : OsState}
variable {nm q : Str} {C N : Addr} {bs bm bmB : List Value} {hdct : Bool} {sn : List Str} {sub : List Value} {ab : Bool} {col : Option Bool} {dd : Option Addr} {k0 k1 k2 k3 k5 : Option Value} {B newId initId : String}

theorem new_ownK (F : ExcBaseFacts B newId initId bmB) (hT : ∀ X : String, bm.contains (.type X) = bmB.contains (.type X)) {rest : List Value} {kw : List (Str × Value)}
    (hC : h.get? C = some (excClassObj nm q C N bs bm hdct sn sub ab col dd k0 k1 k2 k3 k5 newId))
    (hq : R (.ok (.ret (.ref (h.objs.size + 1)))) ⟨(h.push { cls := .type "tuple", data := .seq rest.toArray }).push
      { cls := .ref C, data := .fields #[.ref h.objs.size, .none, .none, .none, .bool false, .none] }, g, d, t, os⟩) (hrest : rest.length ≤ sizeLine) :
    codeAny (model prog w) A (.builtin newId ⟨.ref C :: rest, kw⟩) R ⟨h, g, d, t, os⟩ := by
  have hends := F.ends
  have hcB : (Value.ref C :: bm).contains (.type B) = true := by rw [List.contains_cons, hT, F.hasB, Bool.or_true]
  have hcA : (Value.ref C :: bm).contains (.type "AttributeError") = false := by rw [List.contains_cons, hT, F.noAttr]; rfl
  have hcN : (Value.ref C :: bm).contains (.type "NameError") = false := by rw [List.contains_cons, hT, F.noName]; rfl
  refine codeAny_builtinAt F.entry ?_
  unfold Builtin.«BaseException.__new__»
  refine wpAt_bind ?_
  show wpAt _ _ _ (stack >>= _) _ _ _
  refine wpAt_bind (wpAt_stack fun p below => wpAt_of_wpAny ?_)
  wp_walk
  refine wpAt_of_wpAny ?_
  rw [F.owner]
  repeat (first | with_reducible refine wpAny_madeHere_exc F.canon hC ?_ | with_reducible refine wpAny_loadPart_at hC ?_ | (with_reducible refine wpAny_isSubtype_exc hC ?_; first | rw [hcB] | rw [hcA] | rw [hcN]) | wp_step)
  show R _ _
  rw [Heap.size_push]
  exact hq

theorem type_call_ownK (F : ExcBaseFacts B newId initId bmB) (hT : ∀ X : String, bm.contains (.type X) = bmB.contains (.type X)) {rest : List Value} {kw : List (Str × Value)} {fI : Addr} {Q : Fin → Shared → Prop}
    (hC : h.get? C = some (excClassObj nm q C N bs bm hdct sn sub ab col dd k0 k1 k2 k3 k5 newId))
    (hi : W.Looks (model prog w) h (typeLookup (.ref C) "__init__") (some (.ref fI))) (hb : ∀ self, W.Looks (model prog w) h (bindSpecial (.ref fI) self) (.ref fI, [self])) (hrest : rest.length ≤ sizeLine)
    (hq : codeAny (model prog w) A (.call (.ref fI) ⟨.ref (h.objs.size + 1) :: rest, kw⟩)
      (fun r s' => match r with | .ok (.ret v) => v = .none ∧ Q (.done (.ret (.ref (h.objs.size + 1)))) s' | .ok _ => False | .error e => E e s')
      ⟨(h.push (W.kdv_tup rest)).push (excO C h.objs.size), g, d, t, os⟩) :
    wpAny (model prog w) A (Builtin.«type.__call__» ⟨.ref C :: rest, kw⟩) Q E ⟨h, g, d, t, os⟩ := by
  repeat (first | with_reducible refine wpAny_loadPart_at hC ?_ | with_reducible refine wpAny_madeBy_exc hC ?_ | wp_step)
  refine codeAny_call_builtin_code (Code.quiet_builtin _ F.quiet) (check_new_ownK F hT hC ?_)
  refine new_ownK F hT hC ?_ hrest
  show wpAny _ _ _ _ _ _
  have k : ∀ b o, h.get? b = some o → ((h.push (W.kdv_tup rest)).push (excO C h.objs.size)).get? b = some o := fun b o e => Heap.get?_push_of_some _ (Heap.get?_push_of_some _ e)
  have hC₁ := k _ _ hC
  have hget : ((h.push (W.kdv_tup rest)).push (excO C h.objs.size)).get? (h.objs.size + 1) = some (excO C h.objs.size) := by heap_get
  have hcC : (Value.ref C :: bm).contains (.ref C) = true := by simp
  have i1 := hi.keeps k
  have b1 := (hb (.ref (h.objs.size + 1))).keeps k
  unfold isInstance
  repeat (first | with_reducible refine wpAny_loadPart_at hget ?_ | (with_reducible refine wpAny_isSubtype_exc hC₁ ?_; rw [hcC]) | wp_step)
  show wpAny _ _ (typeLookup (.ref C) _) _ _ _
  refine i1.at ?_
  refine wpAny_holding (wpAny_bind (b1.at ?_))
  refine wpAny_bind (wpAny_call (codeAny_mono hq fun r s' z => ?_))
  rcases r with e | (v | _ | _ | _) <;> first | exact z | exact z.elim | skip
  obtain ⟨rfl, z⟩ := z
  first
    | exact wpAny_pure (wpAny_pure z)
    | (wp_walk; exact z)

theorem call_ownK (F : ExcBaseFacts B newId initId bmB) (hT : ∀ X : String, bm.contains (.type X) = bmB.contains (.type X)) {rest : List Value} {kw : List (Str × Value)} {fI : Addr}
    (hC : h.get? C = some (excClassObj nm q C N bs bm hdct sn sub ab col dd k0 k1 k2 k3 k5 newId))
    (hi : W.Looks (model prog w) h (typeLookup (.ref C) "__init__") (some (.ref fI))) (hb : ∀ self, W.Looks (model prog w) h (bindSpecial (.ref fI) self) (.ref fI, [self])) (hrest : rest.length ≤ sizeLine)
    (hq : codeAny (model prog w) (A.under (.builtin "type.__call__" ⟨.ref C :: rest, kw⟩)) (.call (.ref fI) ⟨.ref (h.objs.size + 1) :: rest, kw⟩) (W.InitBack (h.objs.size + 1) R)
      ⟨(h.push (W.kdv_tup rest)).push (excO C h.objs.size), g, d, t, os⟩) :
    codeAny (model prog w) A (.call (.ref C) ⟨rest, kw⟩) R ⟨h, g, d, t, os⟩ := by
  have f1 := tc_lookup
  have f2 := tc_bind (.ref C)
  have hTy : (⟨h, g, d, t, os⟩ : Shared).TypeIs (.ref C) "type" := ⟨_, hC, rfl⟩
  refine codeAny_of_tree ?_
  show wpAny _ _ (callAny (.ref C) _) _ _ _
  repeat (any_goals (first | assumption | with_reducible refine wpAny_loadPart_at hC ?_ | wp_step))
  refine ⟨rfl, ?_⟩
  refine codeAny_call_builtin_at (Code.quiet_builtin _ (by decide +kernel)) entry_typeCall (wpAny_check_type_call_sub hC (type_call_ownK F hT hC hi hb hrest ?_))
  refine codeAny_mono hq fun r s' z => ?_
  rcases r with e | (v | _ | _ | _) <;> exact z
end
end LwX
end PySem

/-! ## LwF -/
set_option maxHeartbeats 4000000
namespace PySem
namespace LwX
open PySem.W PySem.Calls PyProof.Rows PySem.HandSPX
section
open Builtin Builtin.ObjectAttr
variable {prog : Program} {w : World} {A : Around} {E : Value → Shared → Prop} {R : Result → Shared → Prop} {hp : Heap} {g : Array GenState} {d : Drawn} {t : Nat} {os : OsState} {tl : List Value}
theorem osa_newT {K : W.Frag} (KT : TailOk tl) {name : Str} {tk : Tok} {v : Value} {x C : Addr} {fv : Array Value} {cd : ClassData}
    (X : K.In hp) (hx : hp.get? x = some { cls := .ref C, data := .fields fv }) (hcd : W.clsIn K C = some cd) (hm : refsT tl cd.mro = true) (hh : cd.hasDict = true) (ha : W.findIn K (.ref C) name = some none)
    (hq : ∀ h' tk' dx, (∀ b o, b ≠ x → hp.get? b = some o → h'.get? b = some o) → hp.objs.size ≤ dx → dx ≠ x → h'.get? x = some { cls := .ref C, dict := some dx, data := .fields fv } →
      h'.Ns1 dx (fun y => if y = name then some v else none) → R (.ok (.ret .none)) ⟨h', g, d, tk', os⟩) :
    codeAny (model prog w) A (.call (.builtin "object.__setattr__") ⟨[.ref x, .str name tk, v], []⟩) R ⟨hp, g, d, t, os⟩ := by
  have I : W.InstAt hp x { cls := .ref C, data := .fields fv } C none := ⟨hx, rfl, rfl, trivial⟩
  have SF := F.store_object
  have ne := refsT_ne KT hm
  have hob : cd.mro.contains (.type "object") = true := (refsT_contains KT "object" _ hm).trans KT.obj
  have hxs : x ≠ hp.objs.size := Nat.ne_of_lt (Heap.lt_size hx)
  have sub : W.Looks (model prog w) hp (isInstance (.ref x) (.type "object")) true := I.type.andThen (W.looks_mroIn X (by unfold W.mroIn; rw [hcd, Option.bind_some, if_neg (by rw [ne]; decide), hob]))
  refine codeAny_call_builtin SF.slot.plain SF.entry (@W.check_slot (model prog w) _ _ ⟨hp, g, d, t, os⟩ "object.__setattr__" "object" "__setattr__" (.ref x) [.str name tk, v] [] _ SF.kind SF.split sub (SF.args (.ref x) (.str name tk) v) ?_)
  have hmr : W.Looks (model prog w) hp (mroOf (.ref C)) cd.mro := (W.looks_clsIn X hcd).andThen .now
  have L3 : W.Looks (model prog w) hp (storeTaker? none) none := .now
  have hcls : W.Looks (model prog w) hp (classData C) cd := W.looks_clsIn X hcd
  rw [W.osa_eq, refuse_eq]
  refine wpAny_bind (wpAny_bind (I.type.at (wpAny_bind (hmr.at ?_))))
  rw [refsT_pass KT _ _ hm]
  refine wpAny_pure (wpAny_bind (I.type.at (wpAny_bind ((W.looks_findIn X ha).at (wpAny_bind (L3.at ?_))))))
  show wpAny _ _ (storeInOwnDict (.ref x) (.ref C) (.str name tk) name v false) _ _ _
  obtain ⟨nm, bs, mro, ns, qn, hd, sn, sb, ab, col, del⟩ := cd
  dsimp only at hh
  subst hh
  unfold storeInOwnDict ownDictForStores
  repeat (first | with_reducible refine store_in_new ?_ ?_ | with_reducible refine wpAny_loadPart_at hx ?_ | with_reducible refine hcls.at ?_ | wp_step)
  · exact ⟨_, #[], _, (Heap.get?_update_ne _ _ _ _ hxs.symm).trans (Heap.get?_push_at rfl rfl), rfl, fun e he => absurd he (by simp), fun _ => rfl⟩
  · intro h' tk' hn' hs
    have hx₁ : (hp.push { cls := .type "dict", data := .dict #[] }).get? x = some { cls := .ref C, data := .fields fv } := Heap.get?_push_of_some _ hx
    refine hq h' tk' hp.objs.size (fun b o hb ho => ?_) (Nat.le_refl _) hxs.symm ?_ hn'
    · exact (hs.2 b (Nat.ne_of_lt (Heap.lt_size ho))).trans ((Heap.get?_update_ne _ _ _ _ hb).trans (Heap.get?_push_of_some _ ho))
    · exact (hs.2 x hxs).trans (Heap.get?_update_self _ hx₁ rfl)
theorem osa_oldT {K : W.Frag} (KT : TailOk tl) {name : Str} {tk : Tok} {v : Value} {x C dx : Addr} {fv : Array Value} {cd : ClassData} {m0 : Str → Option Value} {nl : List Str}
    (X : K.In hp) (hx : hp.get? x = some { cls := .ref C, dict := some dx, data := .fields fv }) (hns : hp.Ns1 dx m0) (hw : Within m0 nl) (hz : nl.length ≤ 1000) (hcd : W.clsIn K C = some cd) (hm : refsT tl cd.mro = true) (hh : cd.hasDict = true)
    (ha : W.findIn K (.ref C) name = some none)
    (hq : ∀ h' tk', (∀ b o, b ≠ dx → hp.get? b = some o → h'.get? b = some o) → h'.Ns1 dx (fun y => if y = name then some v else m0 y) → R (.ok (.ret .none)) ⟨h', g, d, tk', os⟩) :
    codeAny (model prog w) A (.call (.builtin "object.__setattr__") ⟨[.ref x, .str name tk, v], []⟩) R ⟨hp, g, d, t, os⟩ := by
  obtain ⟨oD, esD, epD, hoD, hdD, _⟩ := hns.count hw
  have I : W.InstAt hp x { cls := .ref C, dict := some dx, data := .fields fv } C (some oD) := ⟨hx, rfl, rfl, hoD⟩
  have SF := F.store_object
  have ne := refsT_ne KT hm
  have hob : cd.mro.contains (.type "object") = true := (refsT_contains KT "object" _ hm).trans KT.obj
  have sub : W.Looks (model prog w) hp (isInstance (.ref x) (.type "object")) true := I.type.andThen (W.looks_mroIn X (by unfold W.mroIn; rw [hcd, Option.bind_some, if_neg (by rw [ne]; decide), hob]))
  refine codeAny_call_builtin SF.slot.plain SF.entry (@W.check_slot (model prog w) _ _ ⟨hp, g, d, t, os⟩ "object.__setattr__" "object" "__setattr__" (.ref x) [.str name tk, v] [] _ SF.kind SF.split sub (SF.args (.ref x) (.str name tk) v) ?_)
  have hmr : W.Looks (model prog w) hp (mroOf (.ref C)) cd.mro := (W.looks_clsIn X hcd).andThen .now
  have L3 : W.Looks (model prog w) hp (storeTaker? none) none := .now
  have hcls : W.Looks (model prog w) hp (classData C) cd := W.looks_clsIn X hcd
  rw [W.osa_eq, refuse_eq]
  refine wpAny_bind (wpAny_bind (I.type.at (wpAny_bind (hmr.at ?_))))
  rw [refsT_pass KT _ _ hm]
  refine wpAny_pure (wpAny_bind (I.type.at (wpAny_bind ((W.looks_findIn X ha).at (wpAny_bind (L3.at ?_))))))
  show wpAny _ _ (storeInOwnDict (.ref x) (.ref C) (.str name tk) name v false) _ _ _
  obtain ⟨nm, bs, mro, ns, qn, hd, sn, sb, ab, col, del⟩ := cd
  dsimp only at hh
  subst hh
  unfold storeInOwnDict ownDictForStores
  repeat (first | with_reducible refine PySem.OEX.store_in_old hns hw hz ?_ | with_reducible refine wpAny_loadPart_at hx ?_ | with_reducible refine hcls.at ?_ | wp_step)
  intro h' tk' hn' hs
  exact hq h' tk' (fun b o hb ho => (hs.2 b hb).trans ho) hn'
end
end LwX
end PySem

namespace Lw
open PySem PySem.Spec PyProof.Rows L2
open PySem.LwX (refsT TailOk tailOf refsT_contains refsT_ne)
/-- an exception class of the program, over the built-in class B -/
structure EC (K : PySem.W.Frag) (B : String) (C : Addr) : Prop where
  tail : TailOk (tailOf B)
  cls : ∃ newId initId nm q N bs bm sn sub ab col dd k0 k1 k2 k3 k5, ExcBaseFacts B newId initId (tailOf B) ∧ K.lookup C = some (excClassObj nm q C N bs bm true sn sub ab col dd k0 k1 k2 k3 k5 newId) ∧ refsT (tailOf B) bm = true
  sa : PySem.W.findIn K (.ref C) "__setattr__" = some (some (.builtin "object.__setattr__"))
  ga : PySem.W.findIn K (.ref C) "__getattribute__" = some (some (.builtin "BaseException.__getattribute__"))
  gg : PySem.W.findIn K (.ref C) "__getattr__" = some none
  ca : PySem.W.findIn K (.ref C) "__class__" = some (some (.builtin "object.__class__"))
  kC : PySem.W.keepIn K (.ref C) = true
theorem EC.clsIn {K : PySem.W.Frag} {B : String} {C : Addr} (T : EC K B C) : ∃ cd bm, PySem.W.clsIn K C = some cd ∧ cd.mro = .ref C :: bm ∧ refsT (tailOf B) bm = true ∧ cd.hasDict = true := by
  obtain ⟨_, _, nm, q, N, bs, bm, sn, sub, ab, col, dd, k0, k1, k2, k3, k5, _, hC, hbm⟩ := T.cls
  exact ⟨{ name := nm, bases := bs, mro := .ref C :: bm, ns := N, qualname := q, hasDict := true, slotNames := sn, subclasses := sub, abstract := ab, collection := col, hasDel := false }, bm, by unfold PySem.W.clsIn; rw [hC] <;> rfl, rfl, hbm, rfl⟩
theorem EC.hasBase {K : PySem.W.Frag} {B : String} {C : Addr} (T : EC K B C) : (tailOf B).contains (.type "BaseException") = true := by
  obtain ⟨_, _, nm, q, N, bs, bm, sn, sub, ab, col, dd, k0, k1, k2, k3, k5, F, hC, hbm⟩ := T.cls
  exact F.hasBase
theorem EC.subT {K : PySem.W.Frag} {B : String} {C : Addr} (T : EC K B C) (n : String) : PySem.W.subIn K (.ref C) (.type n) = some ((tailOf B).contains (.type n)) := by
  obtain ⟨cd, bm, h1, h2, h3, h4⟩ := T.clsIn
  show (PySem.W.clsIn K C).bind _ = _
  rw [h1, Option.bind_some, h2, if_neg (by simp), List.contains_cons, refsT_contains T.tail n bm h3]
  rfl
theorem EC.hd {K : PySem.W.Frag} {B : String} {C : Addr} (T : EC K B C) : PySem.W.hasDictIn K C = true := by
  obtain ⟨cd, bm, h1, h2, h3, h4⟩ := T.clsIn
  unfold PySem.W.hasDictIn
  rw [h1]
  exact h4
theorem EC.isCls {K : PySem.W.Frag} {B : String} {C : Addr} (T : EC K B C) : (PySem.W.clsIn K C).isSome = true := by
  obtain ⟨cd, bm, h1, _⟩ := T.clsIn
  rw [h1] <;> rfl
theorem EC.self {K : PySem.W.Frag} {B : String} {C : Addr} (T : EC K B C) : PySem.W.subIn K (.ref C) (.ref C) = some true := by
  obtain ⟨cd, bm, h1, h2, h3, h4⟩ := T.clsIn
  show (PySem.W.clsIn K C).bind _ = _
  rw [h1, Option.bind_some, h2, if_neg (by simp), List.contains_cons]
  simp
/-- isinstance's answer: a class of the program -/
theorem EC.kit {K : PySem.W.Frag} {B B' : String} {C D : Addr} {b : Bool} (T : EC K B C) (T' : EC K B' D) (tD : PySem.W.typeIn K (.ref D) = some (.type "type")) (h : PySem.W.subIn K (.ref C) (.ref D) = some b) : PySem.W.kitOne K (.ref C) (.ref D) = some b := by
  unfold PySem.W.kitOne
  split
  · rename_i e
    have e' : C = D := Value.ref.inj (beq_iff_eq.mp e)
    subst e'
    rw [T.self] at h
    exact h
  · show (if ((PySem.W.clsIn K D).isSome && PySem.W.typeIn K (.ref D) == some (.type "type")) = true then PySem.W.subIn K (.ref C) (.ref D) else none) = some b
    rw [if_pos (by rw [T'.isCls, tD] <;> rfl)]
    exact h
/-- .. a built-in class -/
theorem EC.kitT {K : PySem.W.Frag} {B : String} {C : Addr} (T : EC K B C) (n : String) (hm : PySem.W.kitMeta n = true) : PySem.W.kitOne K (.ref C) (.type n) = some ((tailOf B).contains (.type n)) := by
  unfold PySem.W.kitOne
  rw [if_neg (by simp)]
  show (if PySem.W.kitMeta n = true then PySem.W.subIn K (.ref C) (.type n) else none) = _
  rw [if_pos hm]
  exact T.subT n
section
variable {X : Cx} {pins : List (Addr × Obj)} {σ : L2.St} {H : Hp} {s : Shared} {a C dx : Addr} {f : Str} {y : V} {u : Value} {fs : List (Str × V)} {Q : Unit → Shared → Prop} {E : Value → Shared → Prop} {A : Around} {B : String}
/-- self.f = y, the first one -/
theorem ost_newT (T : EC X.K B C) (I : Inv X pins σ H s) (e : H a = some (exo a C none)) (hno : PySem.W.findIn X.K (.ref C) f = some none) (ry : RelV y u)
    (h : ∀ dx s', H dx = none → dx ≠ a → Inv X pins σ (upd (upd H dx (exd dx [(f, y)])) a (exo a C (some dx))) s' → Q () s') : wpAny (model X.prog X.w) A (setAttr (.ref a) f u) Q E s := by
  obtain ⟨cd, bm, hcl, hmro, hbm, hdct⟩ := T.clsIn
  obtain ⟨t1, ho⟩ := exo_at I.hok e
  obtain ⟨hp, g, d, t, os⟩ := s
  refine PySem.W.set_plain I.kIn (ox := { cls := .ref C, dict := none, data := .fields #[.ref t1, .none, .none, .none, .bool false, .none] }) (od := none) ⟨ho, rfl, rfl, trivial⟩ T.sa ?_
  refine PySem.LwX.osa_newT T.tail I.kIn ho hcl (by rw [hmro]; exact hbm) hdct hno (fun h' tk' dx k dn dne hx hn => ?_)
  have hnd : H dx = none := I.hok.fresh dn
  have nd : ∀ {b : Addr} {o : Obj}, hp.get? b = some o → b ≠ dx := fun {b o} q => Nat.ne_of_lt (Nat.lt_of_lt_of_le (Heap.lt_size q) dn)
  have na : ∀ {b : Addr}, H b = none → b ≠ a := fun {b} n z => by
    rw [z, e] at n
    cases n
  have Un1 : Un X.fs [] H (upd (upd H dx (exd dx [(f, y)])) a (exo a C (some dx))) hp h' := {
    keep := fun b o q n _ _ => k b o (na n) q
    slot := fun b o q n _ _ => ⟨o.slots, k b o (na n) q⟩
    free := fun b o q n _ => by rw [upd_ne (na n), upd_ne (nd q)]; exact n
    there := fun b o q _ => by
      by_cases hb : b = a
      · exact ⟨_, by rw [hb]; exact hx⟩
      · exact ⟨o, k b o hb q⟩
    tups := fun b xs q => by rw [upd_ne (at_ne e q exo_tup), upd_ne (ne_of_none q hnd)]; exact q
    frzs := fun b o v q => by rw [upd_ne (at_ne e q exo_frz), upd_ne (ne_of_none q hnd)]; exact q
    tbls := fun b ps q => ⟨#[], by rw [upd_ne (at_ne e q exo_tbl), upd_ne (ne_of_none q hnd), q]; simp⟩ }
  refine h dx _ hnd dne (I.un (t' := tk') Un1 fun b o q => ?_)
  by_cases hb : b = a
  · subst hb
    rw [upd_same] at q
    cases q
    exact exo_ok hx
  · rw [upd_ne hb] at q
    by_cases hd : b = dx
    · subst hd
      rw [upd_same] at q
      cases q
      exact exd_ok hn (relO_put (fs := []) ry fun g => True.intro)
    · rw [upd_ne hd] at q
      exact (I.hok b o q).stay (fun c v hc z => k c v (by
          rcases hc with hc | hc
          · rw [hc]
            exact hb
          · exact at_ne e hc exo_own) z)
        (fun c hc => by rw [upd_ne (at_ne e hc exo_own), upd_ne (ne_of_none hc hnd)]; exact hc) (fun c xs hc => by rw [upd_ne (at_ne e hc exo_tup), upd_ne (ne_of_none hc hnd)]; exact hc)
/-- self.f = y, a further one -/
theorem ost_oldT (T : EC X.K B C) (I : Inv X pins σ H s) (e : H a = some (exo a C (some dx))) (ed : H dx = some (exd dx fs)) (hl : fs.length ≤ 900) (hno : PySem.W.findIn X.K (.ref C) f = some none) (ry : RelV y u)
    (h : ∀ s', Inv X pins σ (upd H dx (exd dx ((f, y) :: fs))) s' → Q () s') : wpAny (model X.prog X.w) A (setAttr (.ref a) f u) Q E s := by
  obtain ⟨cd, bm, hcl, hmro, hbm, hdct⟩ := T.clsIn
  obtain ⟨t1, ho⟩ := exo_at I.hok e
  obtain ⟨mA, hns, rel⟩ := exd_at I.hok ed
  have hw := within_of rel
  obtain ⟨hp, g, d, t, os⟩ := s
  obtain ⟨oD, _, _, hoD, _, _⟩ := hns.count hw
  refine PySem.W.set_plain I.kIn (ox := { cls := .ref C, dict := some dx, data := .fields #[.ref t1, .none, .none, .none, .bool false, .none] }) (od := some oD) ⟨ho, rfl, rfl, hoD⟩ T.sa ?_
  refine PySem.LwX.osa_oldT T.tail I.kIn ho hns hw (by rw [List.length_map]; omega) hcl (by rw [hmro]; exact hbm) hdct hno (fun h' tk' k hn => ?_)
  have hd : ∃ o, h'.get? dx = some o := by
    obtain ⟨o, _, _, e', _⟩ := hn
    exact ⟨o, e'⟩
  exact h _ (I.write (t' := tk') (x := dx) (e := dx) (o := exd dx ((f, y) :: fs)) (by rw [ed]; exact True.intro) (.inl rfl) k hd (exd_ok hn (relO_put ry rel)))
end
/-- self.f = e -/
def tOstT (K : PySem.W.Frag) (f : Str) (to te : TE) : TS := fun D σ H => te σ H fun y H1 => to σ H1 fun x H2 => ∃ (a C : Addr) (B : String), x = .ref a ∧ EC K B C ∧ PySem.W.findIn K (.ref C) f = some none ∧
  ((H2 a = some (exo a C none) ∧ ∀ dx, H2 dx = none → dx ≠ a → D.nx σ (upd (upd H2 dx (exd dx [(f, y)])) a (exo a C (some dx)))) ∨
    ∃ (dx : Addr) (fs : List (Str × V)), H2 a = some (exo a C (some dx)) ∧ H2 dx = some (exd dx fs) ∧ fs.length ≤ 900 ∧ D.nx σ (upd H2 dx (exd dx ((f, y) :: fs))))
theorem ps_ostT {X : Cx} {o e : Expr} {to te : TE} {f : Str} {p' pos : Pos} (ho : PE X o to) (he : PE X e te) (hs : swapsWith e (some (.Attribute o f p')) pos.line X.env = pure false := by rfl) : PS X (.Assign [.Attribute o f p'] e pos) (tOstT X.K f to te) := by
  refine ⟨fun pins s σ H D I h => ?_⟩
  refine plainObj_wpAny_Assign_Attribute (thn (he.run pins s σ H _ I h) fun v s1 ⟨y, H1, I1, r1, q1⟩ => thn (ho.run pins s1 σ H1 _ I1 q1) fun u s2 ⟨x, H2, I2, r2, a, C, B, ex, T, hno, q⟩ => ?_) hs
  subst ex
  obtain rfl : u = Value.ref a := r2
  rcases q with ⟨ea, q⟩ | ⟨dx, fs, ea, ed, hl, q⟩
  · exact ost_newT T I2 ea hno r1 fun dx s' n ne J => ⟨σ, _, J, q dx n ne⟩
  · exact ost_oldT T I2 ea ed hl hno r1 fun s' J => ⟨σ, _, J, q⟩

/-! ### an exception as a value -/
/-- an exception of the class at C, not raised, its fields fs -/
def ErrAt (H : Hp) (x : V) (C : Addr) (fs : List (Str × V)) : Prop := ∃ a d, x = .ref a ∧ H a = some (exo a C (some d)) ∧ H d = some (exd d fs)
theorem ErrAt.same {H H' : Hp} {x : V} {C : Addr} {fs : List (Str × V)} (h : ErrAt H x C fs) (s : Same H H') : ErrAt H' x C fs := by
  obtain ⟨a, d, e, h1, h2⟩ := h
  exact ⟨a, d, e, s _ _ h1, s _ _ h2⟩
/-- one without fields -/
def Err0At (H : Hp) (x : V) (C : Addr) : Prop := ∃ a, x = .ref a ∧ H a = some (ExO (.ref C) a)
/-- some exception -/
def AnyErr (H : Hp) (x : V) (C : Addr) : Prop := (∃ fs, ErrAt H x C fs) ∨ Err0At H x C
/-- X(..), its own __init__ keeping sp; gV: the values and the keywords' values in the parameters' order -/
def tMkE (C : Addr) (sp : Sp) (n m : Nat) (gV : List V → List V → List V) (t tk : TA) : TE := fun σ H Q => t σ H fun vs H1 => tk σ H1 fun zs H2 => vs.length = n ∧ zs.length = m ∧ ∀ a, H2 a = none →
  sp (gV (.ref a :: vs) zs) (upd H2 a (exo a C none)) (fun v H3 => v = .non ∧ Q (.ref a) H3) E0
section
variable {X : Cx} {k n : Nat} {fI C : Addr} {fd : FuncData} {ps ks : List Str} {sp : Sp} {x : Str} {p pos : Pos} {e : Expr} {es : List Expr} {kws : List Keyword} {t tk : TA} {g : List Value → List Value → List Value} {gV : List V → List V → List V} {B : String}
theorem run_mkE {pins : List (Addr × Obj)} {σ : L2.St} {H : Hp} {s : Shared} {Q : VK} {us ws : List Value} {vs zs : List V} (T : EC X.K B C) (iC : PySem.W.findIn X.K (.ref C) "__init__" = some (some (.ref fI))) (tI : PySem.W.typeIn X.K (.ref fI) = some (.type "function"))
    (F : FnOk X.prog X.w X.K X.mg X.base CX0 k fI fd ps sp) (hr : Room (k + 1) X.A) (hb : KBn X.K fd ps (n + 1) ks g gV)
    (I : Inv X pins σ H s) (r : Vals vs us) (rz : Vals zs ws) (l1 : vs.length = n) (l2 : zs.length = ks.length) (hn : n ≤ 1000)
    (h : ∀ a, H a = none → sp (gV (.ref a :: vs) zs) (upd H a (exo a C none)) (fun v H3 => v = .non ∧ Q (.ref a) H3) E0) :
    wpAny (model X.prog X.w) X.A (call (.ref C) us (ks.zip ws)) (EP X pins σ Q) X.xe s := by
  obtain ⟨newId, initId, nm, q, N, bs, bm, sn, sub, ab, col, dd, k0, k1, k2, k3, k5, FB, hC, hbm⟩ := T.cls
  obtain ⟨hp, gs, dr, tkk, os⟩ := s
  have hsz : hp.objs.size ≤ hp.objs.size + 1 := Nat.le_succ _
  have hn1 : H (hp.objs.size + 1) = none := I.hok.fresh hsz
  have hq := h (hp.objs.size + 1) hn1
  have kk : ∀ b o, hp.get? b = some o → ((hp.push (PySem.W.kdv_tup us)).push (PySem.HandSPX.excO C hp.objs.size)).get? b = some o := fun b o e => Heap.get?_push_of_some _ (Heap.get?_push_of_some _ e)
  have hget : ((hp.push (PySem.W.kdv_tup us)).push (PySem.HandSPX.excO C hp.objs.size)).get? (hp.objs.size + 1) = some (PySem.HandSPX.excO C hp.objs.size) := by heap_get
  have I2 : Inv X pins σ (upd H (hp.objs.size + 1) (exo (hp.objs.size + 1) C none)) ⟨(hp.push (PySem.W.kdv_tup us)).push (PySem.HandSPX.excO C hp.objs.size), gs, dr, tkk, os⟩ :=
    I.laid (t' := tkk) (a := hp.objs.size + 1) (o := exo (hp.objs.size + 1) C none) (h' := (hp.push (PySem.W.kdv_tup us)).push (PySem.HandSPX.excO C hp.objs.size)) kk hsz (exo_ok hget)
  have r1 : Vals (V.ref (hp.objs.size + 1) :: vs) (Value.ref (hp.objs.size + 1) :: us) := .cons rfl r
  have r2 := hb.rel r1 rz
  have e1 : (Value.ref (hp.objs.size + 1) :: us).length = n + 1 := by rw [List.length_cons, ← Paired.length r, l1]
  have e2 : ws.length = ks.length := (Paired.length rz).symm.trans l2
  have hus : us.length ≤ sizeLine := by
    rw [← Paired.length r, sizeLine_eq]
    omega
  refine wpAny_call (PySem.LwX.call_ownK FB (fun Y => refsT_contains T.tail Y bm hbm) (I.kIn _ _ hC) (PySem.W.looks_findIn I.kIn iC) (fun self => PySem.W.bind_fn I.kIn self tI) hus
    (codeAny_mono (F.run _ X.stack _ _ ⟨Value.ref (hp.objs.size + 1) :: us, ks.zip ws⟩ (g (Value.ref (hp.objs.size + 1) :: us) ws) _ _ E0 (hr.make C us (ks.zip ws)) (I2.env0.make C us (ks.zip ws)) (hb.to _ (Value.ref (hp.objs.size + 1) :: us) ws I2.kIn e1 e2) r2 hq) fun r s' hq' => ?_))
  cases r with
  | error er => exact False.elim hq'
  | ok fl =>
    cases fl with
    | ret u =>
      obtain ⟨v, H', I3, rv, ev, q3⟩ := I2.after hq'
      subst ev
      exact ⟨rv, ⟨V.ref (hp.objs.size + 1), H', I3, rfl, q3⟩⟩
    | next => exact False.elim hq'
    | brk => exact False.elim hq'
    | cont => exact False.elim hq'
/-- X(e, ..) -/
theorem pe_mkE (T : EC X.K B C) (iC : PySem.W.findIn X.K (.ref C) "__init__" = some (some (.ref fI))) (tI : PySem.W.typeIn X.K (.ref fI) = some (.type "function"))
    (F : FnOk X.prog X.w X.K X.mg X.base CX0 k fI fd ps sp) (hr : Room (k + 1) X.A) (hb : KBn X.K fd ps (n + 1) [] g gV) (hn : n ≤ 1000) (hg : Gl X x) (hm : X.mg x = some (.ref C)) (ha : PA X (e :: es) t)
    (hdb : (x == ("__debug__" : Str)) = false := by decide) (he : starEach (e :: es) X.env = (false, eval e X.env) :: starEach es X.env := by rfl) (hpl : (backTo pos (starEach es X.env)).any (·.1) = false := by rfl) :
    PE X (.Call (.Name x p) (e :: es) [] pos) (tMkE C sp n 0 gV t tNil) := by
  refine ⟨fun pins s σ H Q I h => ?_⟩
  refine wpAny_Call_Name_kw (ld_glob I hg hm ?_ hdb)
  refine PySem.W.callWith_K (h₀ := X.base) I.ok.mod.kin T.kC (thn (ha.run pos pins s σ H _ I h) fun us s1 ⟨vs, H1, I1, r, l1, l2, q⟩ => ⟨I1.kIn, ?_⟩) he hpl
  exact run_mkE (ws := []) T iC tI F hr hb I1 r .nil l1 rfl hn q
/-- X(k = e, ..) -/
theorem pe_mkEK (T : EC X.K B C) (iC : PySem.W.findIn X.K (.ref C) "__init__" = some (some (.ref fI))) (tI : PySem.W.typeIn X.K (.ref fI) = some (.type "function"))
    (F : FnOk X.prog X.w X.K X.mg X.base CX0 k fI fd ps sp) (hr : Room (k + 1) X.A) (hb : KBn X.K fd ps 1 ks g gV) (hg : Gl X x) (hm : X.mg x = some (.ref C)) (hkw : PK X kws tk)
    (hall : (backToKw pos (keywordEach kws X.env)).all (·.1.isSome) = true := by rfl) (hks : (backToKw pos (keywordEach kws X.env)).filterMap (·.1) = ks := by rfl) (hdb : (x == ("__debug__" : Str)) = false := by decide)
    (hpl : ((backTo pos (starEach [] X.env)).any (·.1) || (backToKw pos (keywordEach kws X.env)).any (·.1.isNone)) = false := by rfl) :
    PE X (.Call (.Name x p) [] kws pos) (tMkE C sp 0 ks.length gV tNil tk) := by
  refine ⟨fun pins s σ H Q I h => ?_⟩
  refine wpAny_Call_Name_kw (ld_glob I hg hm ?_ hdb)
  refine PySem.W.callWith_KW0 (h₀ := X.base) I.ok.mod.kin T.kC hall ?_ hpl
  refine thn (hkw.run pos pins s σ H _ I h) fun ws s2 ⟨zs, H2, I2, rz, l1, l2, q2⟩ => ⟨I2.kIn, ?_⟩
  rw [hks]
  exact run_mkE (us := []) (vs := []) T iC tI F hr hb I2 .nil rz rfl l2 (by omega) q2
/-- X(), a class without an own __init__ -/
theorem pe_mkE0 {newId initId : String} (T : EC X.K B C) (FB : ExcBaseFacts B newId initId (tailOf B)) (q : PySem.W.excIn X.K C (tailOf B) newId = true) (hg : Gl X x) (hm : X.mg x = some (.ref C))
    (hdb : (x == ("__debug__" : Str)) = false := by decide) : PE X (.Call (.Name x p) [] [] pos) (fun σ H Q => ∀ y H', Same H H' → Err0At H' y C → Q y H') := by
  refine ⟨fun pins s σ H Q I h => ?_⟩
  refine wpAny_Call_Name_kw (ld_glob I hg hm ?_ hdb)
  refine PySem.W.callWith_K0 I.kIn T.kC ?_
  show wpAny _ _ (call (.ref C) []) _ _ _
  obtain ⟨bm, N, nm, qn, bs, hdct, sn, sub, ab, col, dd, k0, k1, k2, k3, k5, mN, hC, hN, hni, OT⟩ := exc_obj I.kIn q
  refine wpAny_call_exc_subT FB OT hC hN hni (fun h' a hm => ?_) (by show 0 ≤ sizeLine; omega)
  have hn : H a = none := I.hok.gone hm.new
  obtain ⟨t, ht, _, _⟩ := hm.there
  exact ⟨.ref a, upd H a (ExO (.ref C) a), I.laidN hm.keeps hm.new hn (exO_ok ht ⟨rfl, rfl⟩ rfl rfl rfl (show 4 < 6 by decide)), rfl, h _ _ (Same.new hn) ⟨a, rfl, upd_same⟩⟩
/-- x.f of an exception that isn't raised -/
def tEfld (K : PySem.W.Frag) (f : Str) (te : TE) : TE := fun σ H Q => te σ H fun x H1 => ∃ (C : Addr) (B : String) (fs : List (Str × V)) (v : V), ErrAt H1 x C fs ∧ EC K B C ∧ PySem.W.findIn K (.ref C) f = some none ∧ fs.lookup f = some v ∧ Q v H1
theorem pe_efld {f : Str} {te : TE} (he : PE X e te) (hb : attributeBase e f X.env (eval e X.env) = eval e X.env := by rfl) : PE X (.Attribute e f pos) (tEfld X.K f te) := by
  refine ⟨fun pins s σ H Q I h => ?_⟩
  refine attr_of hb (thn (he.run pins s σ H _ I h) fun u s1 ⟨x, H1, I1, rx, C, B, fs, v, ⟨a, d, ex, ha, hd⟩, T, hno, l, q⟩ => ?_)
  subst ex
  obtain rfl : u = Value.ref a := rx
  obtain ⟨t1, ho⟩ := exo_at I1.hok ha
  obtain ⟨mA, hns, hr⟩ := exd_at I1.hok hd
  obtain ⟨od, hod, hl⟩ := lookIn_ns hns
  obtain ⟨u, hu, ru⟩ := RelO.some_of (v := v) (o := mA f) (by rw [← l]; exact hr f)
  have J : PySem.W.InstAt s1.heap a { cls := .ref C, dict := some d, data := .fields #[.ref t1, .none, .none, .none, .bool false, .none] } C (some od) := ⟨ho, rfl, rfl, hod⟩
  have sb : PySem.W.subIn X.K (.ref C) (.type "BaseException") = some true := by
    rw [T.subT]
    have z := T.hasBase
    rw [z]
  exact HandSPX.exc_get I1.kIn J T.ga T.gg sb (PySem.W.findObj_own T.hd hno rfl (by rw [hl, hu])) (handed_of ru) ⟨v, H1, I1.tok _, ru, q⟩
/-- isinstance(x, c) of an exception that isn't raised -/
def rIsX (K : PySem.W.Frag) : List V → Hp → VK → Prop := fun xs H Q => ∃ (x c : V) (cv : Value) (b : Bool) (C : Addr) (B : String), xs = [x, c] ∧ ClsV c cv ∧ AnyErr H x C ∧ EC K B C ∧ PySem.W.kitOne K (.ref C) cv = some b ∧ Q (.bl b) H
theorem call_isX (hn : PySem.W.specialIn X.K (.builtin "object.__class__") "__get__" = some (some (.builtin "getset_descriptor.__get__"))) (ht : PySem.W.takesIn X.K (.builtin "object.__class__") = some true) : CallR X (.builtin "isinstance") (rIsX X.K) := by
  intro pins s σ H xs us Q I r h
  obtain ⟨x, c, cv, b, C, B, rfl, hcv, he, T, e, q⟩ := h
  obtain ⟨u1, u2, rfl, r1, r2⟩ := vals2 r
  have ec := hcv.eq r2
  subst ec
  have sb : PySem.W.subIn X.K (.ref C) (.type "BaseException") = some true := by
    rw [T.subT]
    have z := T.hasBase
    rw [z]
  have mo : PySem.W.mroIn X.K C (.type "object") = some true := by
    have z := T.subT "object"
    rw [T.tail.obj] at z
    exact z
  rcases he with ⟨fs, a, d, rfl, ha, hd⟩ | ⟨a, rfl, ha⟩
  · cases (show u1 = Value.ref a from r1)
    obtain ⟨t1, ho⟩ := exo_at I.hok ha
    obtain ⟨mA, hns, hr⟩ := exd_at I.hok hd
    obtain ⟨od, hod, hl⟩ := lookIn_ns hns
    have J : PySem.W.InstAt s.heap a { cls := .ref C, dict := some d, data := .fields #[.ref t1, .none, .none, .none, .bool false, .none] } C (some od) := ⟨ho, rfl, rfl, hod⟩
    exact PySem.W.kia_one (PySem.W.kitx_exc T.isCls T.ga T.gg sb T.ca hn ht mo) I.kIn J e (fun z => nomatch z) fun tk => ⟨.bl b, H, I.tok tk, rfl, q⟩
  · cases (show u1 = Value.ref a from r1)
    obtain ⟨⟨oe, vs, ho, hz, hd, _⟩, _, _⟩ := I.hok a _ ha
    have J : PySem.W.InstAt s.heap a oe C none := by
      obtain ⟨oc, odc, oda, osl⟩ := oe
      obtain ⟨h1, h2⟩ := hz
      dsimp only at h1 h2 hd
      subst h1 h2 hd
      exact ⟨ho, rfl, rfl, trivial⟩
    exact PySem.W.kia_one (PySem.W.kitx_exc T.isCls T.ga T.gg sb T.ca hn ht mo) I.kIn J e (fun z => nomatch z) fun tk => ⟨.bl b, H, I.tok tk, rfl, q⟩
end
end Lw

/-! ## LwK -/
set_option maxHeartbeats 4000000
namespace Lw
open PySem PySem.Spec PyProof.Rows L2
/-- an __init__ that stores its parameters -/
def spI (K : PySem.W.Frag) (ps : List Str) (C : Addr) : Sp := fun vs H Q _ => ∃ (a : Addr) (zs : List V) (B : String), vs = .ref a :: zs ∧ zs.length = ps.length ∧ H a = some (exo a C none) ∧ EC K B C ∧ (∀ f ∈ ps, PySem.W.findIn K (.ref C) f = some none) ∧
  ∀ H', (∀ b o, H b = some o → b ≠ a → H' b = some o) → ErrAt H' (.ref a) C ((ps.zip zs).reverse) → Q .non H'
section
variable {P : Program} {w : World} {K : PySem.W.Frag} {mg : Str → Option Value} {base : Heap} {f C : Addr} {fd : FuncData} {qual : Str} {st : Stmt}
theorem ok_init1 {n : Str} {p1 p2 p3 p4 : Pos} (F : Fun K "__init__" qual st f fd) (S : FnScope ["self", n] ["self", n] (defScope st)) (hb : defBody st = [.Assign [.Attribute (.Name "self" p1) n p2] (.Name n p3) p4])
    (v0 : (defScope st).names.lookup ("self" : Str) = some .local) (v1 : (defScope st).names.lookup n = some .local) (d1 : (n == ("__debug__" : Str)) = false) (d2 : (n == ("__classdict__" : Str)) = false) : FnOk P w K mg base CX0 1 f fd ["self", n] (spI K [n] C) := by
  refine F.ok S (fun vs H Q E h => ?_) (fun cdv A outer s H vs Q E hr h => ?_)
  · obtain ⟨a, zs, B, rfl, hl, _⟩ := h
    show zs.length + 1 = 2
    rw [hl] <;> rfl
  · obtain ⟨a, zs, B, rfl, hl, ha, T, no, k⟩ := h
    match zs, hl with
    | [z], _ =>
      rw [hb]
      refine ⟨_, pss_one (ps_ostT (pv 0 rfl (.inl v0)) (pv 1 rfl (.inl v1) d1 d2)), ?_⟩
      refine ⟨_, rfl, _, rfl, a, C, B, rfl, T, no n List.mem_cons_self, .inl ⟨ha, fun dx hd hne => ?_⟩⟩
      refine k _ (fun b o e hba => ?_) ⟨a, dx, rfl, upd_same, ?_⟩
      · rw [upd_ne hba, upd_ne (ne_of_none e hd)]
        exact e
      · rw [upd_ne hne, upd_same] <;> rfl
theorem ok_init2 {n m : Str} {p1 p2 p3 p4 q1 q2 q3 q4 : Pos} (F : Fun K "__init__" qual st f fd) (S : FnScope ["self", n, m] ["self", n, m] (defScope st))
    (hb : defBody st = [.Assign [.Attribute (.Name "self" p1) n p2] (.Name n p3) p4, .Assign [.Attribute (.Name "self" q1) m q2] (.Name m q3) q4])
    (v0 : (defScope st).names.lookup ("self" : Str) = some .local) (v1 : (defScope st).names.lookup n = some .local) (v2 : (defScope st).names.lookup m = some .local) (d1 : (n == ("__debug__" : Str)) = false) (d2 : (n == ("__classdict__" : Str)) = false)
    (d3 : (m == ("__debug__" : Str)) = false) (d4 : (m == ("__classdict__" : Str)) = false) : FnOk P w K mg base CX0 1 f fd ["self", n, m] (spI K [n, m] C) := by
  refine F.ok S (fun vs H Q E h => ?_) (fun cdv A outer s H vs Q E hr h => ?_)
  · obtain ⟨a, zs, B, rfl, hl, _⟩ := h
    show zs.length + 1 = 3
    rw [hl] <;> rfl
  · obtain ⟨a, zs, B, rfl, hl, ha, T, no, k⟩ := h
    match zs, hl with
    | [z, y], _ =>
      rw [hb]
      refine ⟨_, pss_cons (ps_ostT (pv 0 rfl (.inl v0)) (pv 1 rfl (.inl v1) d1 d2)) (pss_one (ps_ostT (pv 0 rfl (.inl v0)) (pv 2 rfl (.inl v2) d3 d4))), ?_⟩
      refine ⟨_, rfl, _, rfl, a, C, B, rfl, T, no n List.mem_cons_self, .inl ⟨ha, fun dx hd hne => ?_⟩⟩
      refine ⟨_, rfl, _, rfl, a, C, B, rfl, T, no m (List.mem_cons_of_mem _ List.mem_cons_self), .inr ⟨dx, [(n, z)], upd_same, ?_, by show 1 ≤ 900; decide, ?_⟩⟩
      · rw [upd_ne hne, upd_same]
      · have hda : a ≠ dx := fun z => hne z.symm
        have had : dx ≠ a := hne
        refine k _ (fun b o e hba => ?_) ⟨a, dx, rfl, ?_, upd_same⟩
        · have hbd := ne_of_none e hd
          rw [upd_ne hbd, upd_ne hba, upd_ne hbd]
          exact e
        · rw [upd_ne hda, upd_same]
end
/-- an exception class of the program whose __init__ stores its parameters -/
structure Ex (P : Program) (w : World) (K : PySem.W.Frag) (mg : Str → Option Value) (base : Heap) (x : Str) (B : String) (C : Addr) (ps : List Str) : Prop where
  ec : EC K B C
  mgC : mg x = some (.ref C)
  no : ∀ f ∈ ps, PySem.W.findIn K (.ref C) f = some none
  ini : ∃ (fI : Addr) (fd : FuncData), PySem.W.findIn K (.ref C) "__init__" = some (some (.ref fI)) ∧ PySem.W.typeIn K (.ref fI) = some (.type "function") ∧ FnOk P w K mg base CX0 1 fI fd (("self" : Str) :: ps) (spI K ps C) ∧
    (∀ us : List Value, us.length = ps.length + 1 → bindArgs fd ⟨us, []⟩ = pure ((("self" : Str) :: ps).zip us)) ∧ (∀ (u : Value) (ws : List Value), ws.length = ps.length → bindArgs fd ⟨[u], ps.zip ws⟩ = pure ((("self" : Str) :: ps).zip (u :: ws))) ∧
    (∀ (u : Value) (ws : List Value), ws.length = ps.length → bindArgs fd ⟨[u], ps.reverse.zip ws⟩ = pure ((("self" : Str) :: ps).zip (u :: ws.reverse)))
/-- a new exception -/
def tErr (C : Addr) (ps : List Str) (g : List V → List V) (t : TA) : TE := fun σ H Q => t σ H fun vs H1 => vs.length = ps.length ∧ ∀ y H2, Same H1 H2 → ErrAt H2 y C ((ps.zip (g vs)).reverse) → Q y H2
theorem err_sp {K : PySem.W.Frag} {ps : List Str} {C : Addr} {B : String} {H : Hp} {Q : VK} {a : Addr} {zs : List V} (T : EC K B C) (no : ∀ f ∈ ps, PySem.W.findIn K (.ref C) f = some none) (hl : zs.length = ps.length) (ha : H a = none)
    (q : ∀ y H2, Same H H2 → ErrAt H2 y C ((ps.zip zs).reverse) → Q y H2) : spI K ps C (.ref a :: zs) (upd H a (exo a C none)) (fun v H3 => v = .non ∧ Q (.ref a) H3) E0 :=
  ⟨a, zs, B, rfl, hl, upd_same, T, no, fun H' k e => ⟨rfl, q _ _ (fun b o h => k b o (by rw [upd_ne (ne_of_none h ha)]; exact h) (ne_of_none h ha)) e⟩⟩
theorem vals_reverse {vs : List V} {us : List Value} (r : Vals vs us) : Vals vs.reverse us.reverse := by
  induction r with
  | nil => exact .nil
  | cons h t ih =>
    rw [List.reverse_cons, List.reverse_cons]
    exact ih.append (.cons h .nil)
section
variable {X : Cx} {k : Nat} {x : Str} {B : String} {C : Addr} {ps : List Str} {p pos : Pos} {e : Expr} {es : List Expr} {kws : List Keyword} {t tk : TA}
theorem pe_x (M : Ex X.prog X.w X.K X.mg X.base x B C ps) (hr : RoomG k X.A) (hk : 2 ≤ k) (hg : Gl X x) (hn : ps.length ≤ 1000) (ha : PA X (e :: es) t)
    (hdb : (x == ("__debug__" : Str)) = false := by decide) (he : starEach (e :: es) X.env = (false, eval e X.env) :: starEach es X.env := by rfl) (hpl : (backTo pos (starEach es X.env)).any (·.1) = false := by rfl) :
    PE X (.Call (.Name x p) (e :: es) [] pos) (tErr C ps id t) := by
  obtain ⟨fI, fd, iC, tI, F, b, _⟩ := M.ini
  refine ⟨fun pins s σ H Q I h => ?_⟩
  refine wpAny_Call_Name_kw (ld_glob I hg M.mgC ?_ hdb)
  refine PySem.W.callWith_K (h₀ := X.base) I.ok.mod.kin M.ec.kC (thn (ha.run pos pins s σ H _ I h) fun us s1 ⟨vs, H1, I1, r, l1, q⟩ => ⟨I1.kIn, ?_⟩) he hpl
  have kb : KBn X.K fd (("self" : Str) :: ps) (ps.length + 1) [] (fun us _ => us) (fun vs _ => vs) := ⟨fun s us ws _ h1 _ => .of_eq (b us h1), fun r _ => r⟩
  exact run_mkE (n := ps.length) (ws := []) (zs := []) M.ec iC tI F (hr.rm.mono hk) kb I1 r .nil l1 rfl hn fun a hn => err_sp M.ec M.no l1 hn q
theorem pe_xk (M : Ex X.prog X.w X.K X.mg X.base x B C ps) (hr : RoomG k X.A) (hk : 2 ≤ k) (hg : Gl X x) (hkw : PK X kws tk)
    (hall : (backToKw pos (keywordEach kws X.env)).all (·.1.isSome) = true := by rfl) (hks : (backToKw pos (keywordEach kws X.env)).filterMap (·.1) = ps := by rfl) (hdb : (x == ("__debug__" : Str)) = false := by decide)
    (hpl : ((backTo pos (starEach [] X.env)).any (·.1) || (backToKw pos (keywordEach kws X.env)).any (·.1.isNone)) = false := by rfl) : PE X (.Call (.Name x p) [] kws pos) (tErr C ps id tk) := by
  obtain ⟨fI, fd, iC, tI, F, _, b, _⟩ := M.ini
  refine ⟨fun pins s σ H Q I h => ?_⟩
  refine wpAny_Call_Name_kw (ld_glob I hg M.mgC ?_ hdb)
  refine PySem.W.callWith_KW0 (h₀ := X.base) I.ok.mod.kin M.ec.kC hall ?_ hpl
  refine thn (hkw.run pos pins s σ H _ I h) fun ws s2 ⟨zs, H2, I2, rz, l2, q2⟩ => ⟨I2.kIn, ?_⟩
  rw [hks]
  have kb : KBn X.K fd (("self" : Str) :: ps) (0 + 1) ps (fun us ws => us ++ ws) (fun vs zs => vs ++ zs) := ⟨fun s us ws _ h1 h2 => by
    match us, h1 with
    | [u], _ => exact .of_eq (b u ws h2), fun r1 r2 => r1.append r2⟩
  exact run_mkE (n := 0) (us := []) (vs := []) M.ec iC tI F (hr.rm.mono hk) kb I2 .nil rz rfl l2 (by omega) fun a hn => err_sp M.ec M.no l2 hn q2
theorem pe_xr (M : Ex X.prog X.w X.K X.mg X.base x B C ps) (hr : RoomG k X.A) (hk : 2 ≤ k) (hg : Gl X x) (hkw : PK X kws tk)
    (hall : (backToKw pos (keywordEach kws X.env)).all (·.1.isSome) = true := by rfl) (hks : (backToKw pos (keywordEach kws X.env)).filterMap (·.1) = ps.reverse := by rfl) (hdb : (x == ("__debug__" : Str)) = false := by decide)
    (hpl : ((backTo pos (starEach [] X.env)).any (·.1) || (backToKw pos (keywordEach kws X.env)).any (·.1.isNone)) = false := by rfl) : PE X (.Call (.Name x p) [] kws pos) (tErr C ps List.reverse tk) := by
  obtain ⟨fI, fd, iC, tI, F, _, _, b⟩ := M.ini
  refine ⟨fun pins s σ H Q I h => ?_⟩
  refine wpAny_Call_Name_kw (ld_glob I hg M.mgC ?_ hdb)
  refine PySem.W.callWith_KW0 (h₀ := X.base) I.ok.mod.kin M.ec.kC hall ?_ hpl
  refine thn (hkw.run pos pins s σ H _ I h) fun ws s2 ⟨zs, H2, I2, rz, l2, q2⟩ => ⟨I2.kIn, ?_⟩
  rw [hks]
  have kb : KBn X.K fd (("self" : Str) :: ps) (0 + 1) ps.reverse (fun us ws => us ++ ws.reverse) (fun vs zs => vs ++ zs.reverse) := ⟨fun s us ws _ h1 h2 => by
    match us, h1 with
    | [u], _ => exact .of_eq (b u ws (by rw [h2, List.length_reverse])), fun r1 r2 => r1.append (vals_reverse r2)⟩
  have l3 : zs.reverse.length = ps.length := by rw [List.length_reverse]; exact l2
  exact run_mkE (n := 0) (us := []) (vs := []) M.ec iC tI F (hr.rm.mono hk) kb I2 .nil rz rfl (by rw [List.length_reverse]; exact l2) (by omega) fun a hn => err_sp M.ec M.no l3 hn q2
end
/-- an exception class without an own __init__ -/
structure Ex0 (K : PySem.W.Frag) (mg : Str → Option Value) (x : Str) (B : String) (C : Addr) : Prop where
  ec : EC K B C
  mgC : mg x = some (.ref C)
  ex : ∃ newId initId, ExcBaseFacts B newId initId (PySem.LwX.tailOf B) ∧ PySem.W.excIn K C (PySem.LwX.tailOf B) newId = true
def tErr0 (C : Addr) : TE := fun σ H Q => ∀ y H', Same H H' → Err0At H' y C → Q y H'
theorem pe_x0 {X : Cx} {x : Str} {B : String} {C : Addr} {p pos : Pos} (M : Ex0 X.K X.mg x B C) (hg : Gl X x) (hdb : (x == ("__debug__" : Str)) = false := by decide) : PE X (.Call (.Name x p) [] [] pos) (tErr0 C) := by
  obtain ⟨newId, initId, F, q⟩ := M.ex
  exact pe_mkE0 M.ec F q hg M.mgC hdb
end Lw

/-! ## Fx1 -/
set_option maxHeartbeats 4000000
/-! Promises of defs that may raise, called where no guard of the C level is set. -/
namespace Lw
open PySem PySem.Spec PyProof.Rows L2
/-- the def at f keeps the promise sp, exceptions and all -/
structure FnX (P : Program) (w : World) (K : PySem.W.Frag) (mg : Str → Option Value) (base : Heap) (k : Nat) (f : Addr) (fd : FuncData) (ps : List Str) (sp : Sp) : Prop where
  len : ∀ vs H Q E, sp vs H Q E → vs.length = ps.length
  run : ∀ (A : Around) (outer : List Env) (s : Shared) (H : Hp) (args : Args) (us : List Value) (vs : List V) (Q : VK) (E : XK), RoomG k A → Env0 P w K mg base A outer s H → BindsTo s fd args (ps.zip us) → Vals vs us → sp vs H Q E →
    codeAny (model P w) A (.call (.ref f) args) (CR (L2N.CX P w) outer P w H s Q E) s
section
variable {P : Program} {w : World} {K : PySem.W.Frag} {mg : Str → Option Value} {base : Heap} {k : Nat} {f : Addr} {fd : FuncData} {ps : List Str} {sp sp' : Sp}
theorem FnX.mono {j : Nat} (F : FnX P w K mg base j f fd ps sp) (h : j ≤ k) : FnX P w K mg base k f fd ps sp := ⟨F.len, fun A outer s H args us vs Q E hr => F.run A outer s H args us vs Q E (hr.mono h)⟩
theorem FnX.imp (F : FnX P w K mg base k f fd ps sp) (h : ∀ vs H Q E, sp' vs H Q E → sp vs H Q E) : FnX P w K mg base k f fd ps sp' :=
  ⟨fun vs H Q E q => F.len vs H Q E (h _ _ _ _ q), fun A outer s H args us vs Q E hr he hb hv hs => F.run A outer s H args us vs Q E hr he hb hv (h _ _ _ _ hs)⟩
/-- one that raises nothing -/
theorem FnG.x (F : FnG P w K mg base k f fd ps sp) : FnX P w K mg base k f fd ps (fun vs H Q _ => sp vs H Q E0) :=
  ⟨fun vs H Q E h => F.len vs H Q E0 h, fun A outer s H args us vs Q E hr he hb hv hs => codeAny_mono (F.run A outer s H args us vs Q hr he hb hv hs) fun r s' h => by
    cases r with
    | error e => exact False.elim h
    | ok fl =>
      cases fl with
      | ret u => exact h
      | next => exact False.elim h
      | brk => exact False.elim h
      | cont => exact False.elim h⟩
/-- a def of the text, by its body -/
theorem okX {x qual : Str} {st : Stmt} {N : List Str} (F : Fun K x qual st f fd) (S : FnScope N ps (defScope st)) (len : ∀ vs H Q E, sp vs H Q E → vs.length = ps.length)
    (hbody : ∀ (cdv : Value) (A : Around) (outer : List Env) (s : Shared) (H : Hp) (vs : List V) (Q : VK) (E : XK), RoomG k (A.deeper (envOfC qual (defScope st) s.heap.objs.size f cdv)) → sp vs H Q E →
      ∃ t, PSs (cxOf (L2N.CX P w) P w K mg base N qual (defScope st) f cdv A outer s H E) (defBody st) t ∧ t { nx := fun _ H' => Q .non H', rt := Q } (start N vs) H) : FnX P w K mg base (k + 1) f fd ps sp := by
  obtain ⟨oc, od, kV, doc, pm, an, cdv, ct, osl, rfl, lk, hcd⟩ := F.ex
  refine ⟨len, fun A outer s H args us vs Q E hr e0 hb r hsp => ?_⟩
  have below : ∀ b o, base.get? b = some o → s.heap.get? b = some o := fun b o e => (e0.bs b o e).1
  have KX := e0.mod.kin.keeps below
  have lim := e0.mod.nolimit.keeps below
  have bound : ∀ y ∈ ps.zip us, (defScope st).names.lookup y.1 = some .local ∨ ((defScope st).names.lookup y.1 = some .cell ∧ ((cellsFrom (s.heap.objs.size + 1) (defScope st).names []).lookup y.1).isSome = true) := fun ⟨n, v⟩ hy =>
    (S.par n (List.of_mem_zip hy).1).elim .inl fun q => .inr ⟨q, PySem.W.cellsFrom_some _ _ _ (.inl q)⟩
  refine codeAny_call_function hr.rm.depth (KX _ _ lk) rfl S.co S.gen rfl (PySem.W.codeRec_of KX hcd) (hb _ _ _ _ ?_)
  refine wpAny_newFunctionEnv_cells S.kind bound fun env he s1 x => ?_
  subst he
  refine ⟨lim.keeps x.toInCall.keep, codeAny_func ?_⟩
  obtain ⟨t, ht, hq⟩ := hbody cdv A outer s H vs Q E (hr.deeper _) hsp
  have I := inv_start (CX := L2N.CX P w) (E := E) S hr.rm.hd e0 (len _ _ _ _ hsp) r x
  refine wpAny_mono (ht.run [] s1 (start N vs) H _ I hq) (fun fl s' hs => ?_) fun e s' hs => hs
  cases fl with
  | ret u =>
    obtain ⟨v, σ', H', J, rv, q⟩ := hs
    exact ⟨v, H', J.os, J.bare, J.base, J.hok, rv, q⟩
  | next =>
    obtain ⟨σ', H', J, q⟩ := hs
    exact ⟨V.non, H', J.os, J.bare, J.base, J.hok, rfl, q⟩
  | brk => exact hs.elim fun _ h => h.elim fun _ h => h.2.elim
  | cont => exact hs.elim fun _ h => h.elim fun _ h => h.2.elim
/-- what leaves such a def's body -/
theorem takesX {N : List Str} {qual : Str} {scope : Scope} {cdv : Value} {A : Around} {outer : List Env} {s : Shared} {H : Hp} {E : XK} : L2N.Takes (cxOf (L2N.CX P w) P w K mg base N qual scope f cdv A outer s H E) (fun cls d _ H => E cls d H) := L2N.takes_of rfl rfl rfl rfl
end
/-- a def of the module, by its promise -/
structure CalX (P : Program) (w : World) (K : PySem.W.Frag) (mg : Str → Option Value) (base : Heap) (k : Nat) (x : Str) (ps : List Str) (sp : Sp) : Prop where
  ex : ∃ (f : Addr) (fd : FuncData), FnX P w K mg base k f fd ps sp ∧ mg x = some (.ref f) ∧ PySem.W.keepIn K (.ref f) = true ∧ (∀ us : List Value, us.length = ps.length → bindArgs fd ⟨us, []⟩ = pure (ps.zip us)) ∧
    (∀ u : Value, ps.length = 1 → bindArgs fd ⟨[], ps.zip [u]⟩ = pure (ps.zip [u]))
/-- a def of the class's body -/
structure MtX (P : Program) (w : World) (K : PySem.W.Frag) (mg : Str → Option Value) (base : Heap) (k : Nat) (C : Addr) (m : Str) (ps : List Str) (sp : Sp) : Prop where
  ex : ∃ (f : Addr) (fd : FuncData), FnX P w K mg base k f fd ps sp ∧ Meth K C m f ∧ (∀ us : List Value, us.length = ps.length → bindArgs fd ⟨us, []⟩ = pure (ps.zip us)) ∧
    (∀ (u v : Value) (a b : Str), ps = [a, b] → bindArgs fd ⟨[u], [(b, v)]⟩ = pure ([a, b].zip [u, v]))
/-- what a call raises is taken by W, where the names are σ -/
abbrev WX.at_ (W : WX) (σ : L2.St) : XK := fun cls d H => W cls d σ H
section
variable {X : Cx} {W : WX} {k j : Nat} {C : Addr} {x m : Str} {ps : List Str} {sp : Sp} {p pos apos : Pos} {o e : Expr} {es : List Expr} {kws : List Keyword} {ta : TE} {t tk : TA}
theorem run_x {A : Around} {f : Addr} {fd : FuncData} {args : Args} {us : List Value} {vs : List V} {pins : List (Addr × Obj)} {σ : L2.St} {H : Hp} {s : Shared} {Q : VK} (F : FnX X.prog X.w X.K X.mg X.base k f fd ps sp) (hr : RoomG k A) (hf : A.frames = X.A.frames) (T : L2N.Takes X W)
    (b : bindArgs fd args = pure (ps.zip us)) (I : Inv X pins σ H s) (r : Vals vs us) (h : sp vs H Q (WX.at_ W σ)) :
    codeAny (model X.prog X.w) A (.call (.ref f) args) (fun r s' => match r with | .ok (.ret u) => EP X pins σ Q u s' | .ok _ => False | .error e => X.xe e s') s := by
  have e0 : Env0 X.prog X.w X.K X.mg X.base A X.stack s H := by
    have e := I.env0
    exact ⟨by rw [hf]; exact e.frames, e.mod, e.bs, e.bsz, e.funs, e.frf, e.hok, e.bare⟩
  refine codeAny_mono (F.run A X.stack s H args us vs Q _ hr e0 (.of_eq b) r h) fun r s' hq => ?_
  cases r with
  | error e => exact T e s' (L2N.XE.of_call I (fun _ _ _ h => h) hq)
  | ok fl =>
    cases fl with
    | ret u => exact I.after hq
    | next => exact hq
    | brk => exact hq
    | cont => exact hq
/-- f(e, ..), which may raise -/
def tCallX (sp : Sp) (W : WX) (t : TA) : TE := fun σ H Q => t σ H fun vs H1 => sp vs H1 Q (WX.at_ W σ)
theorem pe_cx (c : CalX X.prog X.w X.K X.mg X.base k x ps sp) (hr : RoomG j X.A) (hk : k ≤ j) (T : L2N.Takes X W) (hg : Gl X x) (ha : PA X (e :: es) t)
    (hdb : (x == ("__debug__" : Str)) = false := by decide) (he : starEach (e :: es) X.env = (false, eval e X.env) :: starEach es X.env := by rfl) (hpl : (backTo pos (starEach es X.env)).any (·.1) = false := by rfl) :
    PE X (.Call (.Name x p) (e :: es) [] pos) (tCallX sp W t) := by
  obtain ⟨f, fd, F, hm, kp, b, _⟩ := c.ex
  refine ⟨fun pins s σ H Q I h => ?_⟩
  refine wpAny_Call_Name_kw (ld_glob I hg hm ?_ hdb)
  refine PySem.W.callWith_K (h₀ := X.base) I.ok.mod.kin kp (thn (ha.run pos pins s σ H _ I h) fun us s1 ⟨vs, H1, I1, r, q⟩ => ⟨I1.kIn, ?_⟩) he hpl
  show wpAny _ _ (call (.ref f) us) _ _ _
  exact wpAny_call (codeAny_mono (run_x F (hr.mono hk) rfl T (b us (by rw [← r.length]; exact F.len _ _ _ _ q)) I1 r q) fun r s' z => by
    rcases r with e | (v | _ | _ | _) <;> exact z)
/-- o.m(e, ..), which may raise -/
def tMeX (C : Addr) (m : Str) (sp : Sp) (W : WX) (ta : TE) (t : TA) : TE := fun σ H Q => ta σ H fun x H1 => ∃ a dx fs, x = .ref a ∧ H1 a = some (.ins C dx fs) ∧ fs.lookup m = none ∧ t σ H1 fun vs H2 => sp (x :: vs) H2 Q (WX.at_ W σ)
theorem pe_mx {pl : Sem Bool} (he : PE X o ta) (c : Cls X.K C) (M : MtX X.prog X.w X.K X.mg X.base k C m ps sp) (hr : RoomG j X.A) (hk : k ≤ j) (T : L2N.Takes X W) (ha : PA X (e :: es) t)
    (hst : starEach (e :: es) X.env = (false, eval e X.env) :: starEach es X.env := by rfl) (hpl : (backTo pos (starEach es X.env)).any (·.1) = false := by rfl)
    (ht : eval (.Call (.Attribute o m apos) (e :: es) [] pos) X.env = (do
      let ov ← eval o X.env
      standAt apos.atName
      let (f, first) ← holding [ov] (getMethod ov m pl)
      callWith pos f first (backTo pos (starEach (e :: es) X.env)) (backToKw pos (keywordEach [] X.env))) := by rfl) :
    PE X (.Call (.Attribute o m apos) (e :: es) [] pos) (tMeX C m sp W ta t) := by
  obtain ⟨f, fd, F, hm, b, _⟩ := M.ex
  refine ⟨fun pins s σ H Q I h => ?_⟩
  refine PySem.W.methodCall_KW (pl := pl) (thn (he.run pins s σ H _ I h) fun u s1 ⟨x, H1, I1, rx, a, dx, fs, ex, ea, l, q⟩ => ?_) ht
  subst ex
  obtain rfl : u = Value.ref a := rx
  refine getmeth_ok I1 ea c hm l ?_
  refine PySem.W.callWith_K (first := [.ref a]) (h₀ := X.base) I.ok.mod.kin hm.kp (thn (ha.run pos pins s1 σ H1 _ I1 q) fun us s2 ⟨vs, H2, I2, r, q2⟩ => ⟨I2.kIn, ?_⟩) hst hpl
  have r2 : Vals (V.ref a :: vs) (Value.ref a :: us) := .cons rfl r
  exact wpAny_call (codeAny_mono (run_x F (hr.mono hk) rfl T (b (Value.ref a :: us) (by rw [← r2.length]; exact F.len _ _ _ _ q2)) I2 r2 q2) fun r s' z => by
    rcases r with e | (v | _ | _ | _) <;> exact z)
/-- a op b by the own method of a's class, which may raise what E tells -/
def rOwnX (K : PySem.W.Frag) (C : Addr) (sp : Sp) (E : XK) (Y : V → Hp → Prop) : R2 := fun x y H Q => ∃ a, x = .ref a ∧ Is C H a ∧ Y y H ∧ sp [x, y] H Q E
theorem call_binX {pins : List (Addr × Obj)} {σ : L2.St} {H : Hp} {s : Shared} {Q : VK} {f : Addr} {fd : FuncData} {us : List Value} {vs : List V} (F : FnX X.prog X.w X.K X.mg X.base k f fd ps sp) (hr : RoomG k X.A) (T : L2N.Takes X W) (b : bindArgs fd ⟨us, []⟩ = pure (ps.zip us)) (I : Inv X pins σ H s) (r : Vals vs us) (h : sp vs H Q (WX.at_ W σ)) :
    wpAny (model X.prog X.w) X.A (call (.ref f) us) (PySem.W.CmpBack (EP X pins σ Q)) X.xe s := by
  refine wpAny_call (codeAny_mono (run_x F hr rfl T b I r h) fun r s' z => ?_)
  cases r with
  | error e => exact z
  | ok fl =>
    cases fl with
    | ret v =>
      obtain ⟨y, H', I', ry, q⟩ := z
      have n := rel_ni ry
      show PySem.W.CmpBack _ v s'
      cases v <;> first | exact absurd rfl n | exact ⟨y, H', I', ry, q⟩
    | next => exact z
    | brk => exact z
    | cont => exact z
end
/-! ### an except suite: isinstance(e, c), e an exception with fields -/
/-- isinstance(e, c), e the exception of the class at D with its dict at dd, that the suite holds -/
def rIsD (K : PySem.W.Frag) (D a dd : Addr) : List V → Hp → VK → Prop := fun xs H Q => ∃ (c : V) (cv : Value) (b : Bool) (fs : List (Str × V)), xs = [.ref a, c] ∧ H dd = some (.xd fs) ∧ ClsV c cv ∧ PySem.W.kitOne K (.ref D) cv = some b ∧ Q (.bl b) H
theorem call_isD {X : Cx} {a D dd : Addr} {B : String} {oe : Obj} {pn : List (Addr × Obj)} (T : EC X.K B D) (hn : PySem.W.specialIn X.K (.builtin "object.__class__") "__get__" = some (some (.builtin "getset_descriptor.__get__"))) (ht : PySem.W.takesIn X.K (.builtin "object.__class__") = some true)
    (hz : Zc (.ref D) (some dd) oe) (hf : ∃ vs, oe.data = .fields vs) : CallR (X.suite a ((a, oe) :: pn)) (.builtin "isinstance") (rIsD X.K D a dd) := by
  intro pins s σ H xs us Q I r h
  obtain ⟨c, cv, b, fs, rfl, hdd, hcv, e, q⟩ := h
  obtain ⟨u1, u2, rfl, r1, r2⟩ := vals2 r
  have ec := hcv.eq r2
  subst ec
  cases (show u1 = Value.ref a from r1)
  have sb : PySem.W.subIn X.K (.ref D) (.type "BaseException") = some true := by
    rw [T.subT]
    have z := T.hasBase
    rw [z]
  have mo : PySem.W.mroIn X.K D (.type "object") = some true := by
    have z := T.subT "object"
    rw [T.tail.obj] at z
    exact z
  obtain ⟨hget, _⟩ := I.pin (a, oe) (List.mem_append.mpr (.inl List.mem_cons_self))
  obtain ⟨vs, hv⟩ := hf
  have hx : ObjOk X.prog X.w H s.heap dd (.xd fs) := I.hok dd _ hdd
  obtain ⟨mA, hns, hr⟩ := hx
  obtain ⟨od, ho, hl⟩ := lookIn_ns hns
  have J : PySem.W.InstAt s.heap a oe D (some od) := ⟨hget, hz.1, by unfold PySem.W.notCls; rw [hv] <;> rfl, by rw [hz.2]; exact ho⟩
  exact PySem.W.kia_one (PySem.W.kitx_exc T.isCls T.ga T.gg sb T.ca hn ht mo) I.kIn J e (fun z => nomatch z) fun tk => ⟨.bl b, H, I.tok tk, rfl, q⟩
/-- e.f there -/
theorem EC.xf {K : PySem.W.Frag} {B : String} {C : Addr} (T : EC K B C) : XfC K C := by
  have sb : PySem.W.subIn K (.ref C) (.type "BaseException") = some true := by
    rw [T.subT]
    have z := T.hasBase
    rw [z]
  exact ⟨T.ga, T.gg, sb, T.hd⟩
end Lw

/-! ## Fx2 -/
set_option maxHeartbeats 4000000
/-! Promises of defs that raise nothing, called anywhere: an exception may be handled, guards may be set. -/
namespace Lw
open PySem PySem.Spec PyProof.Rows L2
end Lw
namespace Lw
open PySem PySem.Spec PyProof.Rows L2 L2H
theorem RoomG.h {k : Nat} {A : Around} (r : RoomG k A) : RoomH k A := roomH_of r.rm
theorem RoomHin1 {k : Nat} {A : Around} (r : RoomH (k + 1) A) : RoomH k A.in1 :=
  ⟨by have := r.dp; show A.depth + 3 * k + 5 < _; omega, by have := r.un; show A.units + 1 + 16 * k + 200 < _; omega⟩
theorem RoomHunits {k : Nat} {A : Around} (r : RoomH k A) : A.units < cLine := by have := r.un; omega
structure FnQ (P : Program) (w : World) (K : PySem.W.Frag) (mg : Str → Option Value) (base : Heap) (k : Nat) (f : Addr) (fd : FuncData) (ps : List Str) (sp : Sp) : Prop where
  len : ∀ vs H Q E, sp vs H Q E → vs.length = ps.length
  run : ∀ (A : Around) (outer : List Env) (s : Shared) (H : Hp) (args : Args) (us : List Value) (vs : List V) (Q : VK), RoomH k A → Env0 P w K mg base A outer s H → BindsTo s fd args (ps.zip us) → Vals vs us → sp vs H Q E0 →
    codeAny (model P w) A (.call (.ref f) args) (CR CX0 outer P w H s Q E0) s
section
variable {P : Program} {w : World} {K : PySem.W.Frag} {mg : Str → Option Value} {base : Heap} {k : Nat} {f : Addr} {fd : FuncData} {ps : List Str} {sp sp' : Sp}
theorem FnQ.g (F : FnQ P w K mg base k f fd ps sp) : FnG P w K mg base k f fd ps sp := ⟨F.len, fun A outer s H args us vs Q hr => F.run A outer s H args us vs Q hr.h⟩
theorem FnQ.imp (F : FnQ P w K mg base k f fd ps sp) (h : ∀ vs H Q E, sp' vs H Q E → sp vs H Q E) : FnQ P w K mg base k f fd ps sp' :=
  ⟨fun vs H Q E q => F.len vs H Q E (h _ _ _ _ q), fun A outer s H args us vs Q hr he hb hv hs => F.run A outer s H args us vs Q hr he hb hv (h _ _ _ _ hs)⟩
/-- the module's names may be pinned -/
theorem pin_glob {A : Around} {outer : List Env} {s : Shared} {H : Hp} (e0 : Env0 P w K mg base A outer s H) : ∃ p : Addr × Obj, PinOk outer H s p := by
  obtain ⟨o, es, ep, ho, hd, _⟩ := e0.mod.glob
  obtain ⟨h1, h2⟩ := e0.bs _ _ ho
  refine ⟨(mainGlobals, o), h1, h2, fun hm => ?_, fun v z => ?_⟩
  · obtain ⟨n, _⟩ := e0.funs.mem hm
    rw [n] at ho
    cases ho
  · have z' : o.data = .cell v := z
    rw [hd] at z'
    cases z'
/-- a def of the text, by its body -/
theorem okQ {x qual : Str} {st : Stmt} {N : List Str} (F : Fun K x qual st f fd) (S : FnScope N ps (defScope st)) (len : ∀ vs H Q E, sp vs H Q E → vs.length = ps.length)
    (hbody : ∀ (cdv : Value) (A : Around) (outer : List Env) (s : Shared) (H : Hp) (vs : List V) (Q : VK) (p : Addr × Obj), RoomH k (A.deeper (envOfC qual (defScope st) s.heap.objs.size f cdv)) → sp vs H Q E0 →
      ∃ t, PSs (cxH CX0 P w K mg base N qual (defScope st) f cdv A outer s H E0 p).nox (defBody st) t ∧ t { nx := fun _ H' => Q .non H', rt := Q } (start N vs) H) : FnQ P w K mg base (k + 1) f fd ps sp := by
  obtain ⟨oc, od, kV, doc, pm, an, cdv, ct, osl, rfl, lk, hcd⟩ := F.ex
  refine ⟨len, fun A outer s H args us vs Q hr e0 hb r hsp => ?_⟩
  have below : ∀ b o, base.get? b = some o → s.heap.get? b = some o := fun b o e => (e0.bs b o e).1
  have KX := e0.mod.kin.keeps below
  have lim := e0.mod.nolimit.keeps below
  have bound : ∀ y ∈ ps.zip us, (defScope st).names.lookup y.1 = some .local ∨ ((defScope st).names.lookup y.1 = some .cell ∧ ((cellsFrom (s.heap.objs.size + 1) (defScope st).names []).lookup y.1).isSome = true) := fun ⟨n, v⟩ hy =>
    (S.par n (List.of_mem_zip hy).1).elim .inl fun q => .inr ⟨q, PySem.W.cellsFrom_some _ _ _ (.inl q)⟩
  refine codeAny_call_function hr.depth (KX _ _ lk) rfl S.co S.gen rfl (PySem.W.codeRec_of KX hcd) (hb _ _ _ _ ?_)
  refine wpAny_newFunctionEnv_cells S.kind bound fun env he s1 x => ?_
  subst he
  refine ⟨lim.keeps x.toInCall.keep, codeAny_func ?_⟩
  obtain ⟨p, hp⟩ := pin_glob e0
  obtain ⟨t, ht, hq⟩ := hbody cdv A outer s H vs Q p (hr.deeper _) hsp
  have I := inv_startH (CX := CX0) (E := E0) S hp e0 (len _ _ _ _ hsp) r x
  refine wpAny_mono (ht.nox.run [] s1 (L2.start N vs) H _ I hq) (fun fl s' hs => ?_) fun e s' hs => hs
  cases fl with
  | ret u =>
    obtain ⟨v, σ', H', J, rv, q⟩ := hs
    exact ⟨v, H', J.os, J.bare, J.base, J.hok, rv, q⟩
  | next =>
    obtain ⟨σ', H', J, q⟩ := hs
    exact ⟨V.non, H', J.os, J.bare, J.base, J.hok, rfl, q⟩
  | brk => exact hs.elim fun _ h => h.elim fun _ h => h.2.elim
  | cont => exact hs.elim fun _ h => h.elim fun _ h => h.2.elim
end
structure CalQ (P : Program) (w : World) (K : PySem.W.Frag) (mg : Str → Option Value) (base : Heap) (k : Nat) (x : Str) (ps : List Str) (sp : Sp) : Prop where
  ex : ∃ (f : Addr) (fd : FuncData), FnQ P w K mg base k f fd ps sp ∧ mg x = some (.ref f) ∧ PySem.W.keepIn K (.ref f) = true ∧ (∀ us : List Value, us.length = ps.length → bindArgs fd ⟨us, []⟩ = pure (ps.zip us)) ∧
    (∀ u : Value, ps.length = 1 → bindArgs fd ⟨[], ps.zip [u]⟩ = pure (ps.zip [u]))
theorem CalQ.g {P : Program} {w : World} {K : PySem.W.Frag} {mg : Str → Option Value} {base : Heap} {k : Nat} {x : Str} {ps : List Str} {sp : Sp} (c : CalQ P w K mg base k x ps sp) : Cal P w K mg base k x ps sp := by
  obtain ⟨f, fd, F, r⟩ := c.ex
  exact ⟨f, fd, F.g, r⟩
structure MtQ (P : Program) (w : World) (K : PySem.W.Frag) (mg : Str → Option Value) (base : Heap) (k : Nat) (C : Addr) (m : Str) (ps : List Str) (sp : Sp) : Prop where
  ex : ∃ (f : Addr) (fd : FuncData), FnQ P w K mg base k f fd ps sp ∧ Meth K C m f ∧ (∀ us : List Value, us.length = ps.length → bindArgs fd ⟨us, []⟩ = pure (ps.zip us)) ∧
    (∀ (u v : Value) (a b : Str), ps = [a, b] → bindArgs fd ⟨[u], [(b, v)]⟩ = pure ([a, b].zip [u, v]))
theorem MtQ.g {P : Program} {w : World} {K : PySem.W.Frag} {mg : Str → Option Value} {base : Heap} {k : Nat} {C : Addr} {m : Str} {ps : List Str} {sp : Sp} (c : MtQ P w K mg base k C m ps sp) : Mt P w K mg base k C m ps sp := by
  obtain ⟨f, fd, F, r⟩ := c.ex
  exact ⟨f, fd, F.g, r⟩
section
variable {X : Cx} {k j : Nat} {C : Addr} {x m : Str} {ps : List Str} {sp : Sp} {p pos apos : Pos} {o e : Expr} {es : List Expr} {ta : TE} {t : TA}
theorem run_q {A : Around} {f : Addr} {fd : FuncData} {args : Args} {us : List Value} {vs : List V} {pins : List (Addr × Obj)} {σ : L2.St} {H : Hp} {s : Shared} {Q : VK} (F : FnQ X.prog X.w X.K X.mg X.base k f fd ps sp) (hr : RoomH k A) (hf : A.frames = X.A.frames)
    (b : bindArgs fd args = pure (ps.zip us)) (I : Inv X pins σ H s) (r : Vals vs us) (h : sp vs H Q E0) :
    codeAny (model X.prog X.w) A (.call (.ref f) args) (fun r s' => match r with | .ok (.ret u) => EP X pins σ Q u s' | .ok _ => False | .error e => X.xe e s') s := by
  have e0 : Env0 X.prog X.w X.K X.mg X.base A X.stack s H := by
    have e := I.env0
    exact ⟨by rw [hf]; exact e.frames, e.mod, e.bs, e.bsz, e.funs, e.frf, e.hok, e.bare⟩
  refine codeAny_mono (F.run A X.stack s H args us vs Q hr e0 (.of_eq b) r h) fun r s' hq => ?_
  cases r with
  | error e => exact False.elim hq
  | ok fl =>
    cases fl with
    | ret u => exact I.after hq
    | next => exact hq
    | brk => exact hq
    | cont => exact hq
theorem pe_cq (c : CalQ X.prog X.w X.K X.mg X.base k x ps sp) (hr : RoomH j X.A) (hk : k ≤ j) (hg : Gl X x) (ha : PA X (e :: es) t)
    (hdb : (x == ("__debug__" : Str)) = false := by decide) (he : starEach (e :: es) X.env = (false, eval e X.env) :: starEach es X.env := by rfl) (hpl : (backTo pos (starEach es X.env)).any (·.1) = false := by rfl) :
    PE X (.Call (.Name x p) (e :: es) [] pos) (tCall sp [] E0 t) := by
  obtain ⟨f, fd, F, hm, kp, b, _⟩ := c.ex
  refine ⟨fun pins s σ H Q I h => ?_⟩
  refine wpAny_Call_Name_kw (ld_glob I hg hm ?_ hdb)
  refine PySem.W.callWith_K (h₀ := X.base) I.ok.mod.kin kp (thn (ha.run pos pins s σ H _ I h) fun us s1 ⟨vs, H1, I1, r, q⟩ => ⟨I1.kIn, ?_⟩) he hpl
  have q : sp vs H1 Q E0 := by
    have q' : sp (vs ++ []) H1 Q E0 := q
    rwa [List.append_nil] at q'
  show wpAny _ _ (call (.ref f) us) _ _ _
  exact wpAny_call (codeAny_mono (run_q F (hr.mono hk) rfl (b us (by rw [← r.length]; exact F.len _ _ _ _ q)) I1 r q) fun r s' z => by
    rcases r with e | (v | _ | _ | _) <;> exact z)
/-- repr(a) by the own __repr__ -/
theorem call_reprQ (M : MtQ X.prog X.w X.K X.mg X.base k C "__repr__" ps sp) (hr : RoomH j X.A) (hk : k + 1 ≤ j) : CallR X (.builtin "repr") (rStrO C sp) := by
  obtain ⟨f, fd, F, hm, b, _⟩ := M.ex
  intro pins s σ H xs us Q I r hq
  obtain ⟨a, rfl, ha, h⟩ := hq
  obtain ⟨u, rfl, rx⟩ := vals1 r
  cases rx
  obtain ⟨ox, od, J⟩ := is_inst I ha
  obtain ⟨m, hF⟩ := I.fr
  have hr1 : RoomH k X.A.in1 := RoomHin1 (hr.mono hk)
  refine PySem.W.repr_K (RoomHunits hr1) hF I.ok.mod.kin J hm.at_ hm.fn (wpAny_call (codeAny_mono (run_q (vs := [V.ref a]) (us := [Value.ref a]) F hr1 rfl (b _ (F.len _ _ _ _ h)) I (.cons rfl .nil) h) fun r s' z => ?_))
  cases r with
  | error e => exact z
  | ok fl =>
    cases fl with
    | ret v =>
      obtain ⟨y, H', I', ry, ⟨zz, rfl⟩, q⟩ := z
      obtain ⟨t, rfl⟩ := ry
      exact ⟨V.str zz, H', I', ⟨t, rfl⟩, q⟩
    | next => exact z
    | brk => exact z
    | cont => exact z
open PySem.Builtin PySem.Builtin.Str in
/-- str(a) by the own __str__ -/
theorem call_strQ (M : MtQ X.prog X.w X.K X.mg X.base k C "__str__" ps sp) (hr : RoomH j X.A) (hk : k + 4 ≤ j) : CallR X (.type "str") (rStrO C sp) := by
  obtain ⟨f, fd, F, hm, b, _⟩ := M.ex
  intro pins s σ H xs us Q I r hq
  obtain ⟨a, rfl, ha, h⟩ := hq
  obtain ⟨u, rfl, rx⟩ := vals1 r
  cases rx
  obtain ⟨ox, od, J⟩ := is_inst I ha
  have hr4 : RoomH (k + 4) X.A := hr.mono hk
  have hr2 : RoomH (k + 2) X.A.in1.in1 := RoomHin1 (RoomHin1 hr4)
  have hr3 : RoomH k X.A.in1.in1 := hr2.mono (by omega)
  have XK := I.kIn
  refine PySem.callType_codes (T := "str") (Bi := Builtin.«object.__init__») (Q₁ := fun r s₁ => ∃ y u, r = .str y u ∧ EP X pins σ Q r s₁) PySem.F.called_str (PySem.F.typeCall_str_1 _) PySem.F.entry_object_init ?_ ?_
  · refine codeAny_of_tree ?_
    show wpAny _ X.A.in1.in1 (do checkBuiltinCall "str.__new__" ⟨[.type "str", .ref a], []⟩; again (.builtin "str.__new__" ⟨[.type "str", .ref a], []⟩)) _ _ s
    refine wpAny_bind (wpAny_of_eq (PySem.F.newCall_str_1 _) (wpAny_pure ⟨plainId_quiet (by decide +kernel) _, codeAny_builtin PySem.F.entry_str_new ?_⟩))
    rw [Around.under_plainId (by decide +kernel) _]
    rw [str_new_tree]
    refine wpAny_bind (wpAny_pure ?_)
    refine wpAny_bind (wpAny_of_eq isSubtype_str_str ?_)
    have key : wpAny (model X.prog X.w) X.A.in1.in1 (PySem.Builtin.Str.strOf (.ref a)) (fun r s₁ => ∃ y u, r = .str y u ∧ EP X pins σ Q r s₁) X.xe s := by
      unfold PySem.Builtin.Str.strOf
      rw [show isExactStr (.ref a) = false from rfl]
      refine wpAny_bind (m := cRoomFor _ _) (wpAny_cRoomFor (RoomHunits hr3) ?_)
      refine wpAny_bind (m := callSpecial? (.ref a) (Str.ofString "__str__")) (PySem.W.special_fn XK J hm.at_ (beq_iff_eq.mp hm.fn) ?_)
      refine wpAny_call (codeAny_mono (run_q (vs := [V.ref a]) (us := [Value.ref a]) F hr3 rfl (b _ (F.len _ _ _ _ h)) I (.cons rfl .nil) h) fun r s' z => ?_)
      cases r with
      | error e => exact z
      | ok fl =>
        cases fl with
        | ret v =>
          obtain ⟨y, H', I', ry, ⟨zz, rfl⟩, q⟩ := z
          obtain ⟨t, rfl⟩ := ry
          exact wpAny_pure ⟨zz, t, rfl, V.str zz, H', I', ⟨t, rfl⟩, q⟩
        | next => exact z
        | brk => exact z
        | cont => exact z
    exact wpAny_bind (wpAny_mono key (fun r s₁ hr => wpAny_pure hr) fun _ _ y => y)
  · rintro obj s₁ ⟨y, u, rfl, hq⟩
    exact ⟨typeIs_str _ _ _, PySem.F.args_object_init_2 _ _, object_init_meets PySem.F.called_str.init.lookup PySem.F.called_str.made (by decide) X.prog X.w X.A.in1 _ s₁ ⟨typeIs_str _ _ _, rfl, hq⟩⟩
end
end Lw

/-! ## Fx3 -/
set_option maxHeartbeats 4000000
/-! x(lambda: e), where no guard is set; what the lambda raises is known where it is called. -/
namespace Lw
open PySem PySem.Spec PyProof.Rows L2 LamX
/-- the context of a lambda's body; what it raises bears no context of its own -/
abbrev lamN (X : Cx) (A : Around) (outer : List Env) (s : Shared) (H : Hp) (E : XK) (scope : Scope) (f c' : Addr) : Cx := (lamCx X A outer s H E scope f c').wish fun e s' =>
  wpAny (model X.prog X.w) (A.deeper (lamEnv X scope s.heap.objs.size f c')) (leaving (lamEnv X scope s.heap.objs.size f c') e) (fun _ s'' => L2N.CX X.prog X.w outer H s E e s'') (fun e' s'' => L2N.CX X.prog X.w outer H s E e' s'') s'
section
variable {X : Cx} {pins : List (Addr × Obj)} {σ : L2.St} {H : Hp} {s : Shared}
/-- a(), in the def that got the lambda at its entry -/
theorem pe_lamG {CXg : CXT} {Eg : XK} {Ng : List Str} {qg : Str} {sg : Scope} {g f c' : Addr} {cdg pm ctv : Value} {params : Arguments} {body : Expr} {scope : Scope} {k i : Nat} {a : Str} {pn : List (Addr × Obj)} {xe : Value → Shared → Prop} {W : WX} {tb : XK → TE} {p1 p2 : Pos}
    (I : Inv X pins σ H s) (L : LamS X.env.scope scope) (hf : s.heap.get? f = some (PySem.W.kla_obj "<lambda>" (X.env.qual ++ "<lambda>") params body scope (cloFrom X.env.cells scope.names []) pm c' ctv)) (hfn : H f = none) (hfr : f ∉ frs X.stack)
    (hbind : bindArgs (PySem.W.kla_fn "<lambda>" (X.env.qual ++ "<lambda>") params body scope (cloFrom X.env.cells scope.names []) pm (.ref c') ctv) ⟨[], []⟩ = pure [])
    (tk : L2N.Takes ((cxOf CXg X.prog X.w X.K X.mg X.base Ng qg sg g cdg X.A X.stack s H Eg).tr pn xe) W) (hr : RoomG (k + 1) (X.A.deeper (envOfC qg sg s.heap.objs.size g cdg)))
    (hbody : ∀ (A : Around) (outer : List Env) (s : Shared) (H : Hp) (E : XK), RoomG k (A.deeper (lamEnv X scope s.heap.objs.size f c')) → PE (lamN X A outer s H E scope f c') body (tb E))
    (hN : Ng[i]? = some a) (hv : Vis sg a) (hd : (a == ("__debug__" : Str)) = false := by decide) (hcd : (a == ("__classdict__" : Str)) = false := by decide) :
    PE ((cxOf CXg X.prog X.w X.K X.mg X.base Ng qg sg g cdg X.A X.stack s H Eg).tr pn xe) (.Call (.Name a p1) [] [] p2)
      (fun σZ HZ Q => σZ[i]? = some (some (.ref f)) ∧ HZ c' = some (CodeO c' (X.env.qual ++ "<lambda>")) ∧ ∃ E : XK, (∀ cls d H', E cls d H' → W cls d σZ H') ∧ tb E σ HZ Q) := by
  refine ⟨fun pZ sZ σZ HZ Q IZ ⟨hs, hc, E, hW, ht⟩ => wpAny_Call_Name_kw (thn ((pe_var (pos := p1) (i := i) hN hv hd hcd).run pZ sZ σZ HZ (fun v H1 => v = .ref f ∧ H1 = HZ) IZ ⟨.ref f, hs, rfl, rfl⟩) ?_)⟩
  rintro u s1 ⟨v, H1, I1, r1, rfl, rfl⟩
  cases r1
  have there := I1.base.keep f _ hf hfn hfr (fun z => nomatch (show f ∈ ([] : List Addr) from z))
  obtain ⟨⟨oc, vs, t, code⟩, _, _⟩ := I1.hok c' _ hc
  refine PySem.W.callWith_F0 ⟨_, _, _, _, there⟩ (wpAny_call (codeAny_mono (R := CR (L2N.CX X.prog X.w) (envOfC qg sg s.heap.objs.size g cdg :: X.stack) X.prog X.w H1 s1 Q E) ?_ fun r s' hq => ?_))
  · refine PySem.W.kla_callFunE hr.rm.depth there rfl L.co L.gen rfl ⟨c', oc, vs, t, rfl, code⟩ ?_
    rw [show ([] ++ [] : List Value) = [] from rfl, hbind]
    refine wpAny_pure (wpAny_newFunctionEnv (fun y hy => (L.own y hy).2) (fun _ hy => nomatch hy) (fun h₁ hns hsb => ⟨I1.nolimit.fresh _ hsb, ?_⟩) L.kind)
    have J := (lam_start2 (E := E) (f := f) (c' := c') (tk := s1.toks + 0) I L I1.env0 hr.rm.hd I1.base hns fun b o e => hsb.extBut b o (Nat.ne_of_lt (Heap.lt_size e)) (Heap.get?_push_of_some _ e)).wish fun e s' =>
      wpAny (model X.prog X.w) ((X.A.deeper (envOfC qg sg s.heap.objs.size g cdg)).deeper (lamEnv X scope s1.heap.objs.size f c')) (leaving (lamEnv X scope s1.heap.objs.size f c') e) (fun _ s'' => L2N.CX X.prog X.w (envOfC qg sg s.heap.objs.size g cdg :: X.stack) H1 s1 E e s'') (fun e' s'' => L2N.CX X.prog X.w (envOfC qg sg s.heap.objs.size g cdg :: X.stack) H1 s1 E e' s'') s'
    refine PySem.W.kla_codeExpr (wpAny_mono ((hbody _ _ s1 H1 _ (hr.deeper _)).run [] _ _ H1 Q J ht) ?_ fun e s' hq => hq)
    rintro v s' ⟨w', H', J', rv, q⟩
    exact ⟨w', H', J'.os, J'.bare, J'.base, J'.hok, rv, q⟩
  · cases r with
    | error e => exact tk e s' (L2N.XE.of_call I1 hW hq)
    | ok fl => cases fl <;> first | exact I1.after hq | exact False.elim hq
end
/-- the def that calls what it got: TT is what it makes of the lambda's reading -/
def GivesG (X : Cx) (k : Nat) (Ng : List Str) (x : Str) (sg : Scope) (g : Addr) (cdg : Value) (bg : List Stmt) (a : Str) (q : Str) (TT : (XK → Hp → VK → Prop) → Hp → VK → Prop) : Prop :=
  ∀ (f c' : Addr) (s : Shared) (H : Hp) (Q : VK) (tl : XK → Hp → VK → Prop), RoomG (k + 1) (X.A.deeper (envOfC x sg s.heap.objs.size g cdg)) →
    (∀ (W : WX) (pn : List (Addr × Obj)) (xe : Value → Shared → Prop) (p1 p2 : Pos), L2N.Takes ((cxOf CX0 X.prog X.w X.K X.mg X.base Ng x sg g cdg X.A X.stack s H E0).tr pn xe) W →
      PE ((cxOf CX0 X.prog X.w X.K X.mg X.base Ng x sg g cdg X.A X.stack s H E0).tr pn xe) (.Call (.Name a p1) [] [] p2) (fun σZ HZ Q => σZ[0]? = some (some (.ref f)) ∧ HZ c' = some (CodeO c' q) ∧ ∃ E : XK, (∀ cls d H', E cls d H' → W cls d σZ H') ∧ tl E HZ Q)) →
    H c' = some (CodeO c' q) → TT tl H Q →
    ∃ t, PSs (cxOf CX0 X.prog X.w X.K X.mg X.base Ng x sg g cdg X.A X.stack s H E0).nox bg t ∧ t { nx := fun _ H' => Q .non H', rt := Q } (L2.start Ng [.ref f]) H
section
variable {X : Cx}
/-- x(lambda: body) -/
theorem pe_lamcallG {T : List (Addr × Str)} {TT : (XK → Hp → VK → Prop) → Hp → VK → Prop} {x a : Str} {g c P : Addr} {k : Nat} {pg : Arguments} {bg : List Stmt} {sg : Scope} {dV kV doc pm cdv ct oc : Value} {an od : Option Addr} {osl : Array (Option Value)} {Ng : List Str}
    {params : Arguments} {body : Expr} {scope : Scope} {t : XK → TE} {p lpos pos : Pos} (hg : Gl X x) (hm : X.mg x = some (.ref g)) (hk : PySem.W.keepIn X.K (.ref g) = true)
    (lk : X.K.lookup g = some ⟨oc, od, .func (PySem.W.fnOf x x pg bg sg dV kV doc pm an cdv ct), osl⟩) (hcg : PySem.W.codeIn X.K cdv x = true) (hb : L2.Binds X.K (PySem.W.fnOf x x pg bg sg dV kV doc pm an cdv ct) [a] []) (Sg : FnScope Ng [a] sg) (hNg : Ng[0]? = some a) (hva : Vis sg a)
    (hG : GivesG X k Ng x sg g cdv bg a (X.env.qual ++ "<lambda>") TT)
    (TB : TabB X.base X.mg c P) (hcode : X.env.code = .ref c) (hmT : (P, X.env.qual ++ "<lambda>") ∈ T) (hu : ∀ p ∈ T, p.1 = P → p.2 = X.env.qual ++ "<lambda>") (hr : RoomG (k + 2) X.A) (L : LamS X.env.scope scope) (hdef : defaultsOf params X.env = ([], []))
    (hbind : ∀ (q : Str) (cl : List (Str × Addr)) (pm cv ctv : Value), bindArgs (PySem.W.kla_fn "<lambda>" q params body scope cl pm cv ctv) ⟨[], []⟩ = pure [])
    (hbody : ∀ (A : Around) (outer : List Env) (s : Shared) (H : Hp) (E : XK) (f c' : Addr), RoomG k (A.deeper (lamEnv X scope s.heap.objs.size f c')) → PE (lamN X A outer s H E scope f c') body (t E))
    (hdb : (x == ("__debug__" : Str)) = false := by decide) (hd : (a == ("__debug__" : Str)) = false := by decide) (hcd : (a == ("__classdict__" : Str)) = false := by decide) :
    PE X (.Call (.Name x p) [.Lambda params body scope lpos] [] pos) (tLam T TT t) := by
  refine ⟨fun pins s σ H Q I ⟨hT, h⟩ => wpAny_Call_Name_kw (ld_glob I hg hm ?_ hdb)⟩
  refine PySem.W.callWith_K (h₀ := X.base) I.ok.mod.kin hk ?_ (by rfl) (by rfl)
  show wpAny _ _ (spliced ((false, eval (.Lambda params body scope lpos) X.env) :: backTo pos (starEach [] X.env))) _ _ s
  refine Calls.spliced_cons (lam_make2 I TB hcode hmT hu hT hdef (L.has I.ok) fun f c' pm' ctv H1 s' I1 eN T1 hf hfn hfr hco => Calls.spliced_nil ⟨I1.kIn, wpAny_call (codeAny_mono (R := CR CX0 X.stack X.prog X.w H1 s' Q E0) ?_ fun r s2 hq => ?_)⟩)
  · refine run_ofS (CX := CX0) (E := E0) (N := Ng) (ps := [a]) (us := [.ref f]) (vs := [.ref f]) lk hcg Sg hr.rm I1.env0 (hb s' [.ref f] I1.kIn rfl) (.cons rfl .nil) rfl fun hr' => ?_
    have hrG : RoomG (k + 1) (X.A.deeper (envOfC x sg s'.heap.objs.size g cdv)) := ⟨hr', hr.gd⟩
    obtain ⟨t', ht', hq'⟩ := hG f c' s' H1 Q (fun E H' Q' => t E σ H' Q') hrG (fun W pn xe p1 p2 tk => pe_lamG (i := 0) (tb := t) I1 L hf hfn hfr (hbind _ _ _ _ _) tk hrG (fun A outer s H E hr2 => hbody A outer s H E f c' hr2) hNg hva hd hcd) hco (h H1 eN T1)
    exact ⟨t', ht'.nox, hq'⟩
  · cases r with
    | error e => exact (show False from hq).elim
    | ok fl => cases fl <;> first | exact I1.after hq | exact False.elim hq
end
end Lw

/-! ## LwS -/
set_option maxHeartbeats 4000000
/-! rules that hand on a new object as «what stood stands, and this is new» -/
namespace Lw
open PySem PySem.Spec PyProof.Rows L2
/-- a new object o, all that was tracked stands -/
def NewO (o : HO) (H : Hp) (Q : VK) : Prop := ∀ (p : Addr) (H' : Hp), H p = none → Same H H' → H' p = some o → Q (.ref p) H'
theorem NewO.to {o : HO} {H : Hp} {Q : VK} (h : NewO o H Q) : ∀ p, H p = none → Q (.ref p) (upd H p o) := fun p hp => h p _ hp (Same.new hp) upd_same
section
variable {X : Cx} {es : List Expr} {pos : Pos} {t : TA}
theorem OpR.conv {f : Value → Value → Sem Value} {r r' : R2} (h : OpR X f r) (c : ∀ x y H Q, r' x y H Q → r x y H Q) : OpR X f r' := fun pins s σ H x y v u Q I rx ry q => h pins s σ H x y v u Q I rx ry (c _ _ _ _ q)
theorem OpR.or {f : Value → Value → Sem Value} {r r' : R2} (h : OpR X f r) (h' : OpR X f r') : OpR X f (fun x y H Q => r x y H Q ∨ r' x y H Q) := fun pins s σ H x y v u Q I rx ry q => q.elim (h pins s σ H x y v u Q I rx ry) (h' pins s σ H x y v u Q I rx ry)
theorem CallR.conv {f : Value} {r r' : List V → Hp → VK → Prop} (h : CallR X f r) (c : ∀ xs H Q, r' xs H Q → r xs H Q) : CallR X f r' := fun pins s σ H xs us Q I rx q => h pins s σ H xs us Q I rx (c _ _ _ q)
theorem CallR.or {f : Value} {r r' : List V → Hp → VK → Prop} (h : CallR X f r) (h' : CallR X f r') : CallR X f (fun xs H Q => r xs H Q ∨ r' xs H Q) := fun pins s σ H xs us Q I rx q => q.elim (h pins s σ H xs us Q I rx) (h' pins s σ H xs us Q I rx)
theorem SlR.conv {r r' : V → Option Int → Option Int → Hp → VK → Prop} (h : SlR X r) (c : ∀ x l u H Q, r' x l u H Q → r x l u H Q) : SlR X r' := fun pins s σ H x v vl vu lo hi sl Q I rx hs p1 p2 q => h pins s σ H x v vl vu lo hi sl Q I rx hs p1 p2 (c _ _ _ _ _ q)
def tLstS (t : TA) : TE := fun σ H Q => t σ H fun xs H1 => xs.length ≤ sizeLine ∧ NewO (.lst xs) H1 Q
def tTupS (t : TA) : TE := fun σ H Q => t σ H fun xs H1 => xs.length ≤ sizeLine ∧ NewO (.tup xs) H1 Q
theorem PE.conv {e : Expr} {te te' : TE} (h : PE X e te) (c : ∀ σ H Q, te' σ H Q → ∃ R : VK, te σ H R ∧ ∀ v H', R v H' → Q v H') : PE X e te' := ⟨fun pins s σ H Q I q => by
  obtain ⟨R, h1, h2⟩ := c σ H Q q
  exact thn (h.run pins s σ H R I h1) fun u s1 ⟨v, H1, I1, r, k⟩ => ⟨v, H1, I1, r, h2 _ _ k⟩⟩
theorem pe_lstS (h : PA X es t) : PE X (.List es pos) (tLstS t) := ⟨fun pins s σ H Q I hq => wpAny_List_spliced (thn (h.run pos pins s σ H _ I hq) fun us s1 ⟨xs, H1, I1, r, z, q⟩ => by
  have hf : H1 s1.heap.objs.size = none := I1.hok.fresh (Nat.le_refl _)
  refine ⟨by rw [← r.length]; exact z, .ref s1.heap.objs.size, upd H1 s1.heap.objs.size (.lst xs), I1.laid (t' := s1.toks) (fun b u e => Heap.get?_push_of_some _ e) (Nat.le_refl _) ?_, rfl, q.to _ hf⟩
  exact ⟨z, us, 0, r, Heap.get?_push_size _ rfl⟩)⟩
theorem pe_tupS {x1} (h : PA X es t) : PE X (.Tuple es x1 pos) (tTupS t) := ⟨fun pins s σ H Q I hq => wpAny_Tuple_spliced (thn (h.run pos pins s σ H _ I hq) fun us s1 ⟨xs, H1, I1, r, z, q⟩ => by
  have hf : H1 s1.heap.objs.size = none := I1.hok.fresh (Nat.le_refl _)
  refine ⟨by rw [← r.length]; exact z, .ref s1.heap.objs.size, upd H1 s1.heap.objs.size (.tup xs), I1.laid (t' := s1.toks) (fun b u e => Heap.get?_push_of_some _ e) (Nat.le_refl _) ?_, rfl, q.to _ hf⟩
  exact ⟨z, us, r, ⟨_, Heap.get?_push_size _ rfl, rfl, _, rfl⟩⟩)⟩
/-- xs + ys -/
def rCatS : R2 := fun x y H Q => ∃ (a b : Addr) (xs ys : List V), x = .ref a ∧ y = .ref b ∧ H a = some (.lst xs) ∧ H b = some (.lst ys) ∧ xs.length + ys.length ≤ sizeLine ∧ NewO (.lst (xs ++ ys)) H Q
theorem op_catS : OpR X (binaryOp .Add) rCatS := OpR.conv op_cat fun x y H Q h => by
  obtain ⟨a, b, xs, ys, h1, h2, h3, h4, h5, h6⟩ := h
  exact ⟨a, b, xs, ys, h1, h2, h3, h4, h5, h6.to⟩
/-- xs * k -/
def rRepS : R2 := fun x y H Q => ∃ (a : Addr) (xs : List V) (k : Nat), x = .ref a ∧ y = .int (k : Int) ∧ H a = some (.lst xs) ∧ k ≤ 1000 ∧ xs.length * k ≤ sizeLine ∧ NewO (.lst (List.replicate k xs).flatten) H Q
theorem op_repS : OpR X (binaryOp .Mult) rRepS := OpR.conv op_rep fun x y H Q h => by
  obtain ⟨a, xs, k, h1, h2, h3, h4, h5, h6⟩ := h
  exact ⟨a, (k : Int), xs, h1, h2, h3, by omega, by omega, by simpa using h5, by simpa using h6.to⟩
/-- xs[a:b] -/
def rSlLS (K : PySem.W.Frag) : V → Option Int → Option Int → Hp → VK → Prop := fun x lo hi H Q => ∃ a xs, x = .ref a ∧ SqL K H a xs ∧ NewO (.lst (cutV xs lo hi)) H Q
theorem sl_listS : SlR X (rSlLS X.K) := SlR.conv sl_list fun x l u H Q ⟨a, xs, h1, h2, h3⟩ => ⟨a, xs, h1, h2, h3.to⟩
end
/-! ### lists of truths -/
theorem dp_bools {K : PySem.W.Frag} {H : Hp} : ∀ bs : List Bool, DpAll K H (bs.map V.bl) (bs.map PyData.bool)
  | [] => .nil
  | b :: bs => .cons (.bl b) (dp_bools bs)
theorem dp_ints {K : PySem.W.Frag} {H : Hp} : ∀ bs : List Int, DpAll K H (bs.map V.int) (bs.map PyData.int)
  | [] => .nil
  | b :: bs => .cons (.int b) (dp_ints bs)
theorem dpAll_rep {K : PySem.W.Frag} {H : Hp} {v : V} {d : PyData} (h : Dp K H v d) : ∀ n, DpAll K H (List.replicate n v) (List.replicate n d)
  | 0 => .nil
  | n + 1 => .cons h (dpAll_rep h n)
/-- == of what is the same -/
def rEqU (K : PySem.W.Frag) : R2 := fun x y H Q => rEq x y H Q ∨ rEqD K x y H Q ∨ rEqV K x y H Q
theorem op_eqU {X : Cx} {k : Nat} (hr : RoomG k X.A) : OpR X (compareOp .Eq) (rEqU X.K) := OpR.or op_eq (OpR.or (op_eqD hr.units) (op_eqV hr.units))
theorem eq_scal {v : V} {H : Hp} {Q : VK} (h : scal v v = true) (q : Q (.bl true) H) : rEq v v H Q := ⟨h, by rw [decide_eq_true rfl]; exact q⟩
end Lw

/-! ## Fx4 -/
set_option maxHeartbeats 4000000
/-! list.count of flat items; an own operator beside a list, a tuple, a dict -/
namespace Lw
open PySem PySem.Spec PyProof.Rows L2
section
variable {X : Cx}
theorem count_eqU {y : V} : ∀ {ys : List V} {us : List Value}, Vals ys us → ys.all flatV = true → us.countP (eqU y) = ys.countP fun z => eqV z y
  | _, _, .nil, _ => rfl
  | z :: ys, u :: us, .cons r t, f => by
    rw [List.all_cons, Bool.and_eq_true] at f
    rw [List.countP_cons, List.countP_cons, count_eqU t f.2, eqU_of r f.1]
/-- xs.count(y), all flat -/
def rCntV (K : PySem.W.Frag) : V → List V → Hp → VK → Prop := fun x xs H Q => ∃ (a : Addr) (ys : List V) (y : V), x = .ref a ∧ xs = [y] ∧ SqL K H a ys ∧ flatV y = true ∧ ys.all flatV = true ∧ Q (.int ((ys.countP fun z => eqV z y : Nat) : Int)) H
theorem mt_countV : MtR X "list.count" (rCntV X.K) := by
  intro pins s σ H x xs v us Q I rx rxs h
  obtain ⟨a, ys, y, rfl, rfl, hs, fy, fys, q⟩ := h
  cases rx
  obtain ⟨uy, rfl, ry⟩ := rxs.one
  obtain ⟨its, rv, ⟨⟨cls, dd, data, sl⟩, n, ho, hc, hdn, hd⟩, hlen⟩ := I.list hs
  simp only at hc hd
  subst hc hd
  refine call_meets PySem.F.slot_list_count ⟨_, ho, rfl⟩ PySem.F.entry_list_count (PySem.F.args_list_count_2 _ _)
    (SeqAt.list_countAt a its.toArray n dd sl uy (eqU y)) ⟨ho, fun u hu => mem_eqAt ry fy rv fys u (by simpa using hu), ?_⟩
  have ec : its.toArray.toList.countP (eqU y) = ys.countP fun z => eqV z y := count_eqU rv fys
  refine ⟨.int ((ys.countP fun z => eqV z y : Nat) : Int), H, I.tok _, ⟨s.toks, ?_⟩, q⟩
  rw [← ec]
end
end Lw

/-! ## Fx5 -/
set_option maxHeartbeats 4000000
/-! raise X(e), X an own error of one field, over any built-in base -/
namespace Lw
open PySem PySem.Spec PyProof.Rows L2
/-- an __init__ that stores its one parameter -/
def spR (K : PySem.W.Frag) (n : Str) (C : Addr) : Sp := fun vs H Q _ => ∃ (a : Addr) (z : V) (B : String), vs = [.ref a, z] ∧ H a = some (exo a C none) ∧ EC K B C ∧ PySem.W.findIn K (.ref C) n = some none ∧
  ∀ dx, H dx = none → dx ≠ a → Q .non (upd (upd H dx (exd dx [(n, z)])) a (exo a C (some dx)))
section
variable {P : Program} {w : World} {K : PySem.W.Frag} {mg : Str → Option Value} {base : Heap} {f C : Addr} {fd : FuncData} {qual : Str} {st : Stmt}
theorem ok_initR {n : Str} {p1 p2 p3 p4 : Pos} (F : Fun K "__init__" qual st f fd) (S : FnScope ["self", n] ["self", n] (defScope st)) (hb : defBody st = [.Assign [.Attribute (.Name "self" p1) n p2] (.Name n p3) p4])
    (v0 : (defScope st).names.lookup ("self" : Str) = some .local) (v1 : (defScope st).names.lookup n = some .local) (d1 : (n == ("__debug__" : Str)) = false) (d2 : (n == ("__classdict__" : Str)) = false) : FnOk P w K mg base CX0 1 f fd ["self", n] (spR K n C) := by
  refine F.ok S (fun vs H Q E h => ?_) (fun cdv A outer s H vs Q E hr h => ?_)
  · obtain ⟨a, z, B, rfl, _⟩ := h
    rfl
  · obtain ⟨a, z, B, rfl, ha, T, no, k⟩ := h
    rw [hb]
    refine ⟨_, pss_one (ps_ostT (pv 0 rfl (.inl v0)) (pv 1 rfl (.inl v1) d1 d2)), ?_⟩
    exact ⟨_, rfl, _, rfl, a, C, B, rfl, T, no, .inl ⟨ha, fun dx hd hne => k dx hd hne⟩⟩
end
/-- an error class of the program whose __init__ stores its parameter n -/
structure Ex1 (P : Program) (w : World) (K : PySem.W.Frag) (mg : Str → Option Value) (base : Heap) (x : Str) (B : String) (C : Addr) (n : Str) : Prop where
  ec : EC K B C
  ty : PySem.W.typeIn K (.ref C) = some (.type "type")
  mgC : mg x = some (.ref C)
  no : PySem.W.findIn K (.ref C) n = some none
  ini : ∃ (fI : Addr) (fd : FuncData), PySem.W.findIn K (.ref C) "__init__" = some (some (.ref fI)) ∧ PySem.W.typeIn K (.ref fI) = some (.type "function") ∧ FnOk P w K mg base CX0 1 fI fd ["self", n] (spR K n C) ∧
    (∀ us : List Value, us.length = 2 → bindArgs fd ⟨us, []⟩ = pure ((["self", n] : List Str).zip us))
theorem upd_del {H : Hp} {a d : Addr} {fs : List (Str × V)} {o1 o2 o3 : HO} (ha : H a = none) (hd : d ≠ a) : upd (del (upd (upd (upd H a o1) d o2) a o3) a) d (.xd fs) = upd H d (.xd fs) := by
  funext b
  by_cases e : b = d
  · rw [e, upd_same, upd_same]
  · rw [upd_ne e, upd_ne e]
    by_cases e2 : b = a
    · rw [e2, del_same, ha]
    · rw [del_ne e2, upd_ne e2, upd_ne e, upd_ne e2]
/-- what is asked of an error that is raised, its field the one argument -/
def tErrX (C : Addr) (n : Str) (t : TA) : L2.St → Hp → XK → Prop := fun σ H Q => t σ H fun vs H1 => ∃ z, vs = [z] ∧ ∀ d, H1 d = none → Q (.ref C) (some d) (upd H1 d (.xd [(n, z)]))
section
variable {X : Cx} {k : Nat} {x n : Str} {B : String} {C : Addr} {p pos pos' : Pos} {e : Expr} {es : List Expr} {t : TA} {W : WX}
theorem pmk_err (M : Ex1 X.prog X.w X.K X.mg X.base x B C n) (hr : RoomG k X.A) (hk : 2 ≤ k) (hg : Gl X x) (ha : PA X (e :: es) t)
    (hdb : (x == ("__debug__" : Str)) = false := by decide) (hs : starEach (e :: es) X.env = (false, eval e X.env) :: starEach es X.env := by rfl) (hpl : (backTo pos (starEach es X.env)).any (·.1) = false := by rfl) :
    L2N.PMk X (.Call (.Name x p) (e :: es) [] pos) (tErrX C n t) := by
  obtain ⟨fI, fd, iC, tI, F, b⟩ := M.ini
  intro pins s σ H Q I h
  refine wpAny_Call_Name_kw (ld_glob I hg M.mgC ?_ hdb)
  refine PySem.W.callWith_K (h₀ := X.base) I.ok.mod.kin M.ec.kC (thn (ha.run pos pins s σ H _ I h) fun us s1 ⟨vs, H1, I1, r, z, ev, q⟩ => ⟨I1.kIn, ?_⟩) hs hpl
  subst ev
  show wpAny _ _ (call (.ref C) us) _ _ _
  obtain ⟨newId, initId, nm, qn, N, bs, bm, sn, sub, ab, col, dd, k0, k1, k2, k3, k5, FB, hC, hbm⟩ := M.ec.cls
  obtain ⟨hp, gs, dr, tkk, os⟩ := s1
  have hsz : hp.objs.size ≤ hp.objs.size + 1 := Nat.le_succ _
  have hn1 : H1 (hp.objs.size + 1) = none := I1.hok.fresh hsz
  have kk : ∀ b o, hp.get? b = some o → ((hp.push (PySem.W.kdv_tup us)).push (PySem.HandSPX.excO C hp.objs.size)).get? b = some o := fun b o e => Heap.get?_push_of_some _ (Heap.get?_push_of_some _ e)
  have hget : ((hp.push (PySem.W.kdv_tup us)).push (PySem.HandSPX.excO C hp.objs.size)).get? (hp.objs.size + 1) = some (PySem.HandSPX.excO C hp.objs.size) := by heap_get
  have I2 : Inv X pins σ (upd H1 (hp.objs.size + 1) (exo (hp.objs.size + 1) C none)) ⟨(hp.push (PySem.W.kdv_tup us)).push (PySem.HandSPX.excO C hp.objs.size), gs, dr, tkk, os⟩ :=
    I1.laid (t' := tkk) (a := hp.objs.size + 1) (o := exo (hp.objs.size + 1) C none) (h' := (hp.push (PySem.W.kdv_tup us)).push (PySem.HandSPX.excO C hp.objs.size)) kk hsz (exo_ok hget)
  have r2 : Vals [V.ref (hp.objs.size + 1), z] (Value.ref (hp.objs.size + 1) :: us) := .cons rfl r
  have l1 : us.length = 1 := by
    have := r.length
    simpa using this.symm
  have hus : us.length ≤ sizeLine := by
    rw [l1]
    decide
  have hq : spR X.K n C [V.ref (hp.objs.size + 1), z] (upd H1 (hp.objs.size + 1) (exo (hp.objs.size + 1) C none))
      (fun v H3 => v = .non ∧ ∃ d, H3 (hp.objs.size + 1) = some (exo (hp.objs.size + 1) C (some d)) ∧ H3 d = some (exd d [(n, z)]) ∧ H1 d = none ∧ Q (.ref C) (some d) (upd (del H3 (hp.objs.size + 1)) d (.xd [(n, z)]))) E0 := by
    refine ⟨_, z, B, rfl, upd_same, M.ec, M.no, fun d hd hne => ⟨rfl, d, upd_same, ?_, ?_, ?_⟩⟩
    · rw [upd_ne hne, upd_same]
    · rw [upd_ne hne] at hd
      exact hd
    · rw [upd_del hn1 hne]
      refine q d ?_
      rw [upd_ne hne] at hd
      exact hd
  refine wpAny_call (PySem.LwX.call_ownK FB (fun Y => PySem.LwX.refsT_contains M.ec.tail Y bm hbm) (I1.kIn _ _ hC) (PySem.W.looks_findIn I1.kIn iC) (fun self => PySem.W.bind_fn I1.kIn self tI) hus
    (codeAny_mono (F.run _ X.stack _ _ ⟨Value.ref (hp.objs.size + 1) :: us, []⟩ (Value.ref (hp.objs.size + 1) :: us) _ _ E0 ((hr.rm.mono hk).make C us []) (I2.env0.make C us []) (.of_eq (b _ (by rw [List.length_cons, l1]))) r2 hq) fun r s' hq' => ?_))
  cases r with
  | error er => exact False.elim hq'
  | ok fl =>
    cases fl with
    | ret u =>
      obtain ⟨v, H2, os2, bare2, un2, hok2, rv, ev, d, ea, ed, hd1, q2⟩ := hq'
      subst ev
      obtain ⟨h2, g2, d2, t2, os'⟩ := s'
      have sb : PySem.W.subIn X.K (.ref C) (.type "BaseException") = some true := M.ec.xf.exC
      obtain ⟨t0, G, J, kG, ge, hoe, na⟩ := mk_end0 (d2 := d2) (t2 := t2) I1 hsz kk un2 hok2 os2 bare2 ea ed hd1
      exact ⟨rv, _, _, _, ⟨G, g2, d2, t2, os'⟩, _, .ref C, some d, rfl, J, kG, ge, hoe, ⟨rfl, rfl, fun vs z => by cases z; rfl⟩, rfl, rfl, na, rfl, bare2, raises_own sb M.ty, q2⟩
    | next => exact False.elim hq'
    | brk => exact False.elim hq'
    | cont => exact False.elim hq'
/-- raise X(e) -/
theorem ps_err (M : Ex1 X.prog X.w X.K X.mg X.base x B C n) (hr : RoomG k X.A) (hk : 2 ≤ k) (hc : X.calm = true) (T : L2N.Takes X W) (hg : Gl X x) (ha : PA X (e :: es) t)
    (hdb : (x == ("__debug__" : Str)) = false := by decide) (hs : starEach (e :: es) X.env = (false, eval e X.env) :: starEach es X.env := by rfl) (hpl : (backTo pos (starEach es X.env)).any (·.1) = false := by rfl) :
    PS X (.Raise (some (.Call (.Name x p) (e :: es) [] pos)) none pos') (fun _ σ H => tErrX C n t σ H fun cls d H' => W cls d σ H') := L2N.ps_raise hc T (pmk_err M hr hk hg ha hdb hs hpl)
end
end Lw

/-! ## Fx6 -/
set_option maxHeartbeats 4000000
/-! a op b by a's own method, which may raise; b of any type that a's method shall refuse -/
namespace Lw
open PySem PySem.W PySem.Spec PySem.Calls PyProof.Rows
section
variable {prog : Program} {w : World} {A : Around} {E : Value → Shared → Prop} {s : Shared} {K : Frag} {x C f L : Addr} {ox : Obj} {od : Option Obj} {h₀ : Heap} {m : Str → Option Value} {T : String}
theorem bin_any {op : Operator} {b : Value} {fo ro rc : Option Value} {Q : Value → Shared → Prop} (F : Fr h₀ L s.heap m) (X₀ : K.In h₀) (I : InstAt s.heap x ox C od) (hb : Looks (model prog w) s.heap (typeOf b) (.type T)) (hc : selfFirst K C = true)
    (hs : findIn K (.ref C) (PySem.dunder op.info.2) = some (some (.ref f))) (hf : isFn K (.ref f) = true) (hr : findIn K (.ref C) (dunderR op.info.2) = some rc) (hp : rc = none ∨ ∃ g : Addr, rc = some (.ref g))
    (h1 : findIn K (.type T) (PySem.dunder op.info.2) = some fo) (h2 : findIn K (.type T) (dunderR op.info.2) = some ro) (hsub : subIn K (.type T) (.ref C) = some false)
    (h : wpAny (model prog w) A (call (.ref f) [.ref x, b]) (PySem.W.CmpBack Q) E s) : wpAny (model prog w) A (binaryOp op (.ref x) b) Q E s := by
  have X := X₀.keeps F.keep
  obtain ⟨cd, rest, hcd, hm⟩ := ksp_first hc
  obtain ⟨sym, nm, hi⟩ : ∃ sym nm, op.info = (sym, nm) := ⟨_, _, rfl⟩
  rw [hi] at hs hr h1 h2
  have told := ksp_try X I hs hf h
  have a1 : Looks (model prog w) s.heap (typeOf (.ref x)) (.ref C) := I.type
  have a3 : Looks (model prog w) s.heap (fillsNumberSlot (.ref C) nm) true := fills_K X hcd hm hs
  have a4 := ksp_fillsT (M := model prog w) X h1 h2
  have a5 : Looks (model prog w) s.heap (isSubtype (.type T) (.ref C)) false := looks_subIn X hsub
  have a6 : Looks (model prog w) s.heap (numberSlotInPython (.ref C) nm) true := ksp_inPy X hs hr hp
  have a7 : Looks (model prog w) s.heap (numberSlotInPython (.type T) nm) false := Looks.of_pure rfl
  have a8 : Looks (model prog w) s.heap (typeLookup (.type T) (dunderR nm)) ro := looks_findIn X h2
  obtain ⟨hh, g, d, tt, os⟩ := s
  generalize ((fo.isSome && !isSeqSlot fo) || (ro.isSome && !isSeqSlot ro)) = right at a4
  have ne : (Value.ref C == Value.type T) = false := Bool.eq_false_iff.mpr fun q => by cases beq_iff_eq.mp q
  simp only [binaryOp, hi]
  refine wpAny_holding (wpAny_bind ?_)
  unfold binaryOp1
  refine wpAny_bind (a1.at (wpAny_bind (hb.at (wpAny_bind (a3.at ?_)))))
  simp only [ne, Bool.false_eq_true, if_false]
  cases right <;>
  · ksp_lk
    refine wpAny_mono told (fun r s' z => ?_) fun _ _ e => e
    obtain ⟨v, rfl, q⟩ := z
    ksp_lk
    exact q
end
end Lw
namespace Lw
open PySem PySem.Spec PyProof.Rows L2
/-- what the built-in type tn says to the operator: nothing of C's -/
structure FeT (K : PySem.W.Frag) (C : Addr) (op : Operator) (tn : String) : Prop where
  l : ∃ fo, PySem.W.findIn K (.type tn) (PySem.dunder op.info.2) = some fo
  r : ∃ ro, PySem.W.findIn K (.type tn) (dunderR op.info.2) = some ro
  sub : PySem.W.subIn K (.type tn) (.ref C) = some false
/-- a op y by a's own method, which may raise what E tells -/
def rOpX (K : PySem.W.Frag) (C : Addr) (op : Operator) (sp : Sp) (E : XK) : R2 := fun x y H Q => ∃ a t, x = .ref a ∧ Is C H a ∧ TyX K H y t ∧ (t = .ref C ∨ ∃ tn, t = .type tn ∧ FeT K C op tn) ∧ sp [x, y] H Q E
section
variable {X : Cx} {W : WX} {E : XK} {k j : Nat} {C : Addr} {ps : List Str} {sp : Sp}
theorem run_xE {A : Around} {f : Addr} {fd : FuncData} {args : Args} {us : List Value} {vs : List V} {pins : List (Addr × Obj)} {σ : L2.St} {H : Hp} {s : Shared} {Q : VK} (F : FnX X.prog X.w X.K X.mg X.base k f fd ps sp) (hr : RoomG k A) (hf : A.frames = X.A.frames) (T : L2N.Takes X W) (hE : ∀ cls d σ H, E cls d H → W cls d σ H)
    (b : bindArgs fd args = pure (ps.zip us)) (I : Inv X pins σ H s) (r : Vals vs us) (h : sp vs H Q E) :
    codeAny (model X.prog X.w) A (.call (.ref f) args) (fun r s' => match r with | .ok (.ret u) => EP X pins σ Q u s' | .ok _ => False | .error e => X.xe e s') s := by
  have e0 : Env0 X.prog X.w X.K X.mg X.base A X.stack s H := by
    have e := I.env0
    exact ⟨by rw [hf]; exact e.frames, e.mod, e.bs, e.bsz, e.funs, e.frf, e.hok, e.bare⟩
  refine codeAny_mono (F.run A X.stack s H args us vs Q _ hr e0 (.of_eq b) r h) fun r s' hq => ?_
  cases r with
  | error e => exact T e s' (L2N.XE.of_call I (fun _ _ _ h => hE _ _ _ _ h) hq)
  | ok fl =>
    cases fl with
    | ret u => exact I.after hq
    | next => exact hq
    | brk => exact hq
    | cont => exact hq
theorem op_ownX {op : Operator} {rc : Option Value} (M : MtX X.prog X.w X.K X.mg X.base k C (PySem.dunder op.info.2) ps sp) (hr : RoomG j X.A) (hk : k ≤ j) (T : L2N.Takes X W) (hE : ∀ cls d σ H, E cls d H → W cls d σ H) (hc : PySem.W.selfFirst X.K C = true)
    (h0 : PySem.W.findIn X.K (.ref C) (dunderR op.info.2) = some rc) (hp : rc = none ∨ ∃ g : Addr, rc = some (.ref g)) : OpR X (binaryOp op) (rOpX X.K C op sp E) := by
  obtain ⟨f, fd, F, hm, b, _⟩ := M.ex
  intro pins s σ H x y v u Q I rx ry hq
  obtain ⟨a, t, rfl, ha, ty, ht, h⟩ := hq
  cases rx
  obtain ⟨ox, od, J⟩ := is_inst I ha
  obtain ⟨m, hF⟩ := I.fr
  obtain ⟨Pk, Z, p, hx⟩ := kit_of I ry ty
  have lk : PySem.W.Looks (model X.prog X.w) s.heap (typeOf u) t := Z.ty _ _ I.kIn p
  have call : wpAny (model X.prog X.w) X.A (call (.ref f) [.ref a, u]) (PySem.W.CmpBack (EP X pins σ Q)) X.xe s := by
    refine wpAny_call (codeAny_mono (run_xE (vs := [V.ref a, y]) (us := [Value.ref a, u]) F (hr.mono hk) rfl T hE (b _ (F.len _ _ _ _ h)) I (.cons rfl (.cons ry .nil)) h) fun r s' z => ?_)
    cases r with
    | error e => exact z
    | ok fl =>
      cases fl with
      | ret v =>
        obtain ⟨y, H', I', ry, q⟩ := z
        have n := rel_ni ry
        show PySem.W.CmpBack _ v s'
        cases v <;> first | exact absurd rfl n | exact ⟨y, H', I', ry, q⟩
      | next => exact z
      | brk => exact z
      | cont => exact z
  rcases ht with rfl | ⟨tn, rfl, ⟨fo, h1⟩, ⟨ro, h2⟩, h3⟩
  · exact PySem.W.binop_K hF I.ok.mod.kin J lk hc hm.at_ hm.fn call
  · exact bin_any hF I.ok.mod.kin J lk hc hm.at_ hm.fn h0 hp h1 h2 h3 call
end
end Lw

/-! ## Fx7 -/
set_option maxHeartbeats 4000000
/-! C(k = e, ..), an __init__ of **parameters that may raise -/
namespace Lw
open PySem PySem.Spec PyProof.Rows L2
theorem cx_un {P : Program} {w : World} {outer : List Env} {H H2 : Hp} {s s2 s' : Shared} {E : XK} {e : Value} (kp : ∀ b o, s.heap.get? b = some o → s2.heap.get? b = some o) (un : Un (frs outer) [] H H2 s.heap s2.heap) (os : s2.os = s.os)
    (c : L2N.CX P w outer H2 s2 E e s') : L2N.CX P w outer H s E e s' := by
  obtain ⟨a, B, H', cls, d, rfl, fl, hok, ub, na, os', ag, hE⟩ := c
  have no : ∀ b : Addr, b ∉ ([] : List Addr) := fun b z => nomatch z
  refine ⟨a, B, H', cls, d, rfl, fl, hok, ⟨fun b o e n hb => ub.keep b o (kp b o e) (un.free b o e n (no b)) hb, fun b o e hb => ub.slot b o (kp b o e) hb, fun b o e n => ub.free b o (kp b o e) (un.free b o e n (no b)), fun b o e hb => ub.there b o (kp b o e) hb,
    fun b xs e => ub.tups b xs (un.tups b xs e), fun b o xs e => ub.frzs b o xs (un.frzs b o xs e), fun b ps e => ?_⟩, na, os'.trans os, ag, hE⟩
  obtain ⟨m1, q1⟩ := un.tbls b ps e
  obtain ⟨m2, q2⟩ := ub.tbls b _ q1
  exact ⟨m1 ++ m2, by rw [q2, Array.append_assoc]⟩
/-- a keyword's value under its key -/
def ent2 (p : Str × V) : Key × V := (Sum.inr p.1, p.2)
theorem kw_kvV : ∀ {ks : List Str} {vs : List V} {us : List Value}, Vals vs us → KV ((ks.zip vs).map ent2) ((ks.zip us).map fun p => ((Sum.inr p.1 : Key), p.2))
  | [], _, _, _ => .nil
  | _ :: _, [], _, r => by
    cases r
    exact .nil
  | k :: ks, v :: vs, _, r => by
    cases r with
    | cons h t => exact .cons ⟨rfl, h⟩ (kw_kvV t)
def FnKX (P : Program) (w : World) (K : PySem.W.Frag) (mg : Str → Option Value) (base : Heap) (k : Nat) (f : Addr) (ks : List Str) (sp : V → List V → Hp → XK → Prop) : Prop :=
  ∀ (A : Around) (outer : List Env) (s : Shared) (H : Hp) (x : V) (u : Value) (vs : List V) (us : List Value) (Q : VK) (E : XK), RoomG k A → Env0 P w K mg base A outer s H → RelV x u → Vals vs us → vs.length = ks.length → sp x vs H E →
    codeAny (model P w) A (.call (.ref f) ⟨[u], ks.zip us⟩) (CR (L2N.CX P w) outer P w H s Q E) s
section
variable {P : Program} {w : World} {K : PySem.W.Frag} {mg : Str → Option Value} {base : Heap} {k : Nat} {f : Addr} {fd : FuncData} {x qual p1 pd : Str} {st : Stmt} {N ks : List Str} {sp : List V → Hp → XK → Prop}
theorem fn_kwX (F : Fun K x qual st f fd) (S : FnScope N [p1, pd] (defScope st)) (hn : ks.Nodup) (hks : ks.length ≤ 60)
    (hb : ∀ (u : Value) (us : List Value), us.length = ks.length → bindArgs fd ⟨[u], ks.zip us⟩ = ((alloc ({ cls := .type "dict", data := .dict #[] } : Obj) : Sem Addr) >>= fun d =>
      (forIn (ks.zip us) PUnit.unit (fun x _ => (nsSet d x.1 x.2 >>= fun _ => pure (ForInStep.yield PUnit.unit))) >>= fun _ => pure ([(p1, u), (pd, Value.ref d)] : List (Str × Value)))))
    (hbody : ∀ (cdv : Value) (A : Around) (outer : List Env) (s : Shared) (H : Hp) (vs : List V) (Q : VK) (E : XK), RoomG k (A.deeper (envOfC qual (defScope st) s.heap.objs.size f cdv)) → sp vs H E →
      ∃ t, PSs (cxOf (L2N.CX P w) P w K mg base N qual (defScope st) f cdv A outer s H E) (defBody st) t ∧ t { nx := fun _ H' => Q .non H', rt := Q } (start N vs) H) :
    FnKX P w K mg base (k + 1) f ks (fun x vs H E => ∀ d, H d = none → sp [x, V.ref d] (upd H d (.dK ((ks.zip vs).map ent2))) E) := by
  obtain ⟨oc, od, kV, doc, pm, an, cdv, ct, osl, rfl, lk, hcd⟩ := F.ex
  intro A outer s H x u vs us Q E hr e0 rx r hl hq
  have hnn : H s.heap.objs.size = none := e0.hok.fresh (Nat.le_refl _)
  have hl1 : us.length = ks.length := by
    have := r.length
    omega
  refine StX.run_bnd (CX := L2N.CX P w) (E := E) lk hcd S hr.rm e0 (G := fun xs H2 => ∃ d, H d = none ∧ xs = [x, V.ref d] ∧ H2 = upd H d (.dK ((ks.zip vs).map ent2))) (fun A' Ex Q' h => ?_) fun s2 H2 xs ⟨d, hd, ex, eH⟩ hr' => ?_
  · rw [hb u us hl1]
    refine wpAny_bind (wpAny_alloc ?_)
    have k0 : ∀ b o, s.heap.get? b = some o → (s.heap.push ({ cls := .type "dict", data := .dict #[] } : Obj)).get? b = some o := fun b o e => Heap.get?_push_of_some _ e
    have hzk : (ks.zip us).map (·.1) = ks := List.map_fst_zip (by omega)
    refine wpAny_bind (fill_kw (ks.zip us) { s with heap := s.heap.push ({ cls := .type "dict", data := .dict #[] } : Obj) } [] 0 (show _ = some (PySem.W.dictOf [] 0) from Heap.get?_push_size _ rfl) (fun _ he => nomatch he) (fun _ he => nomatch he) (by rw [hzk]; exact hn) fun h' D kp z => wpAny_pure ?_)
    have kp1 : ∀ b o, s.heap.get? b = some o → h'.get? b = some o := fun b o e => kp b o (Nat.ne_of_lt (Heap.lt_size e)) (k0 b o e)
    have D2 : h'.get? s.heap.objs.size = some (PySem.W.dictOf (PySem.W.kwEs w.params s.toks (ks.zip us)) (0 + (ks.zip us).length)) := by
      have := D
      rw [List.nil_append] at this
      exact this
    have lz : (ks.zip vs).length ≤ 60 := by
      rw [List.length_zip]
      omega
    have new : ObjOk P w (upd H s.heap.objs.size (.dK ((ks.zip vs).map ent2))) h' s.heap.objs.size (.dK ((ks.zip vs).map ent2)) :=
      ⟨by rw [List.length_map]; exact Nat.le_trans lz (by decide), beq_eq_false_iff_ne.mpr (Ne.symm (Nat.ne_of_lt (StX.env0_big e0))), _, kw_kvV r, kw_dictOf P w D2 (by rw [hzk]; exact hn)⟩
    have sz : s.heap.objs.size ≤ h'.objs.size := by
      rw [z]
      show _ ≤ (s.heap.push _).objs.size
      rw [Heap.size_push]
      exact Nat.le_succ _
    have e1 := env0_new (tk := s.toks + (ks.zip us).length) e0 kp1 sz (Nat.le_refl _) new
    have un1 : Un (frs outer) [] H (upd H s.heap.objs.size (.dK ((ks.zip vs).map ent2))) s.heap h' := Un.laid kp1 (Nat.le_refl _) hnn
    exact h _ _ [x, V.ref s.heap.objs.size] [u, Value.ref s.heap.objs.size] e1 un1 rfl (fun e s' z => cx_un (s2 := { s with heap := h', toks := s.toks + (ks.zip us).length }) kp1 un1 rfl z) (.cons rx (.cons rfl .nil)) rfl ⟨_, hnn, rfl, rfl⟩
  · subst ex eH
    exact hbody cdv A outer s2 _ _ Q E ⟨hr', hr.gd⟩ (hq d hd)
end
/-- C(k = e, ..), which raises -/
def tNewX (ks : List Str) (sp : V → List V → Hp → XK → Prop) (C : Addr) (W : WX) (t : TA) : TE := fun σ H _ => t σ H fun vs H1 => vs.length = ks.length ∧ ∀ x dx, H1 x = none → H1 dx = none → dx ≠ x → sp (.ref x) vs (upd (upd H1 dx (.own x)) x (.ins C dx [])) (WX.at_ W σ)
structure MkX (P : Program) (w : World) (K : PySem.W.Frag) (mg : Str → Option Value) (base : Heap) (k : Nat) (x : Str) (C : Addr) (ks : List Str) (sp : V → List V → Hp → XK → Prop) : Prop where
  ex : ∃ f : Addr, Mk K C f ∧ FnKX P w K mg base k f ks sp ∧ mg x = some (.ref C)
section
variable {X : Cx} {W : WX} {k j : Nat} {C : Addr} {sp : V → List V → Hp → XK → Prop} {x : Str} {p pos : Pos} {ks : List Str} {kws : List Keyword} {tk : TA}
theorem pe_newX (M : MkX X.prog X.w X.K X.mg X.base k x C ks sp) (hr : RoomG j X.A) (hk : k + 1 ≤ j) (T : L2N.Takes X W) (hg : Gl X x) (hkw : PK X kws tk)
    (hall : (backToKw pos (keywordEach kws X.env)).all (·.1.isSome) = true := by rfl) (hks : (backToKw pos (keywordEach kws X.env)).filterMap (·.1) = ks := by rfl) (hdb : (x == ("__debug__" : Str)) = false := by decide)
    (hpl : ((backTo pos (starEach [] X.env)).any (·.1) || (backToKw pos (keywordEach kws X.env)).any (·.1.isNone)) = false := by rfl) : PE X (.Call (.Name x p) [] kws pos) (tNewX ks sp C W tk) := by
  obtain ⟨f, M, F, hm⟩ := M.ex
  refine ⟨fun pins s σ H Q I h => ?_⟩
  refine wpAny_Call_Name_kw (ld_glob I hg hm ?_ hdb)
  refine PySem.W.callWith_KW0 (first := []) (h₀ := X.base) I.ok.mod.kin M.kp hall (thn (hkw.run pos pins s σ H _ I h) fun us s1 ⟨vs, H1, I1, r, hl, q⟩ => ⟨I1.kIn, ?_⟩) hpl
  rw [hks]
  have hq := q (s1.heap.objs.size + 1) s1.heap.objs.size (I1.hok.fresh (Nat.le_succ _)) (I1.hok.fresh (Nat.le_refl _)) (Nat.ne_of_lt (Nat.lt_succ_self _))
  have I2 := Inv.made (C := C) I1
  refine wpAny_call (make_map (f := f) I1.kIn M.makes M.init (beq_iff_eq.mp M.fn) (codeAny_mono (F _ X.stack _ _ (V.ref (s1.heap.objs.size + 1)) (Value.ref (s1.heap.objs.size + 1)) vs us (fun _ _ => False) _ ((hr.mono hk).make C [] (ks.zip us)) (I2.env0.make C [] (ks.zip us)) rfl r hl hq) fun r s' hq' => ?_))
  cases r with
  | error e => exact T e s' (L2N.XE.of_call I2 (fun _ _ _ h => h) hq')
  | ok fl =>
    cases fl with
    | ret u =>
      obtain ⟨v, H', _, _, _, _, _, z⟩ := hq'
      exact z.elim
    | next => exact False.elim hq'
    | brk => exact False.elim hq'
    | cont => exact False.elim hq'
end
end Lw

/-! ## Fx8 -/
set_option maxHeartbeats 4000000
/-! repr of any data without dicts, an exception handled or not -/
namespace Lw
open PySem PySem.Spec PyProof.Rows L2
def rReprV (K : PySem.W.Frag) : List V → Hp → VK → Prop := fun xs H Q => ∃ (v : V) (d : PyData), xs = [v] ∧ Dp K H v d ∧ d.showable = true ∧ d.hasDict = false ∧ d.depth ≤ 50 ∧ d.shown.length ≤ sizeLine ∧ (∀ i, d = .int i → i.natAbs.log2 < 1920) ∧ Q (.str d.shown) H
theorem call_reprV {X : Cx} (hg : X.A.guards = some []) (hu : X.A.units + 64 < cLine) : CallR X (.builtin "repr") (rReprV X.K) := by
  intro pins s σ H xs us Q I r h
  obtain ⟨v, d, rfl, hd, hs, hx, hdep, hl, hi, q⟩ := h
  obtain ⟨u, rfl, rx⟩ := vals1 r
  obtain ⟨as, rd⟩ := Dp.reads I d _ u hd rx
  have fin : ∀ {t : Tok} {tk : Nat}, EP X pins σ Q (.str d.shown t) { s with toks := tk } := fun {t tk} => ⟨.str d.shown, H, I.tok _, ⟨t, rfl⟩, q⟩
  cases rd with
  | none => exact PySem.P.repr_of_none fin
  | bool b => exact PySem.P.repr_of_bool (by cases b <;> exact fin)
  | int i t => exact PySem.P.repr_of_int (hi i rfl) fin
  | str z t => exact PySem.P.repr_of_str fin hl
  | list h1 h2 h3 h4 => exact repr_of_reads' (.list h1 h2 h3 h4) hs (fun z => by rw [hx] at z; cases z) hg (by omega) (fun _ _ e => e) (fun h' u tk kk => ⟨.str _, H, I.kept (h' := h') (t' := tk) kk, ⟨u, rfl⟩, q⟩) hl
  | tuple h1 h2 h3 h4 => exact repr_of_reads' (.tuple h1 h2 h3 h4) hs (fun z => by rw [hx] at z; cases z) hg (by omega) (fun _ _ e => e) (fun h' u tk kk => ⟨.str _, H, I.kept (h' := h') (t' := tk) kk, ⟨u, rfl⟩, q⟩) hl
  | dict h1 h2 h3 h4 h5 => simp [PyData.hasDict] at hx
end Lw
namespace Lw
open PySem PySem.Spec PyProof.Rows L2
/-- a dict of texts and whole numbers, as data -/
def entD (us : List (Str × Int)) : List (PyData × PyData) := us.map fun q => (.str q.1, .int q.2)
theorem dct_reads {P : Program} {w : World} {h : Heap} : ∀ {el : List DictEntry} {vs : List (Key × Value)} {us : List (Str × Int)}, Pairs (mixKind P w) el vs → KV (us.map fun q => ((Sum.inr q.1 : Key), V.int q.2)) vs →
    ReadsAll h (el.map (·.key)) ((entD us).map (·.1)) [] ∧ ReadsAll h (el.map (·.val)) ((entD us).map (·.2)) []
  | el, vs, [], hp, hv => by
    cases hv
    cases hp
    exact ⟨.nil, .nil⟩
  | el, vs, q :: us, hp, hv => by
    cases hv with
    | cons hq hr =>
      cases hp with
      | cons hk he hrest =>
        obtain ⟨h1, h2⟩ := dct_reads (h := h) hrest hr
        obtain ⟨e1, e2⟩ := hq
        rcases keyIs_shape hk with ⟨i, t, ek, e⟩ | ⟨z, t, ek, e⟩
        · rw [← e1] at ek
          cases ek
        · rw [← e1] at ek
          cases ek
          obtain ⟨t2, ev⟩ := e2
          refine ⟨?_, ?_⟩
          · have := ReadsAll.cons (h := h) (Reads.str q.1 t) h1
            rw [← e] at this
            exact this
          · have := ReadsAll.cons (h := h) (Reads.int q.2 t2) h2
            rw [← ev, ← he] at this
            exact this
/-- repr of such a dict -/
def rReprD : List V → Hp → VK → Prop := fun xs H Q => ∃ (a : Addr) (us : List (Str × Int)), xs = [.ref a] ∧ H a = some (.dK (us.map fun q => ((Sum.inr q.1 : Key), V.int q.2))) ∧ (PyData.dict (entD us)).showable = true ∧ (PyData.dict (entD us)).depth ≤ 50 ∧ (PyData.dict (entD us)).shown.length ≤ sizeLine ∧ Q (.str (PyData.dict (entD us)).shown) H
theorem call_reprD {X : Cx} (hg : X.A.guards = some []) (hu : X.A.units + 64 < cLine) : CallR X (.builtin "repr") rReprD := by
  intro pins s σ H xs us Q I r h
  obtain ⟨a, ts, rfl, hd, hs, hdep, hl, q⟩ := h
  obtain ⟨u, rfl, rx⟩ := vals1 r
  cases rx
  obtain ⟨_, hsys, vs, kv, o, es, ep, ho, hx, hda, _, hp, _⟩ := (show ObjOk X.prog X.w H s.heap a _ from I.hok a _ hd)
  obtain ⟨h1, h2⟩ := dct_reads (h := s.heap) hp kv
  refine repr_of_reads' (d := .dict (entD ts)) (.dict ho hx.1 hda h1 h2) hs (fun _ m => ?_) hg (by omega) (fun _ _ e => e) (fun h' u tk kk => ⟨.str _, H, I.kept (h' := h') (t' := tk) kk, ⟨u, rfl⟩, q⟩) hl
  have e : sysModules = a := by simpa using m
  rw [← e] at hsys
  simp at hsys
end Lw

/-! ## Fx9 -/
set_option maxHeartbeats 4000000
/-! repr of a list or a tuple with one instance in it, whose class has its own __repr__ -/
namespace Lw
open PySem PySem.W PySem.Spec PySem.Calls PyProof.Rows Builtin
/-- what an own __repr__ gives -/
def TxtBack (Q : Str → Shared → Prop) (v : Value) (s' : Shared) : Prop := ∃ z t, v = .str z t ∧ Q z s'
section
variable {prog : Program} {w : World} {M : Model} {A : Around} {E : Value → Shared → Prop} {s : Shared} {K : Frag} {x C f : Addr} {ox : Obj} {od : Option Obj}
theorem own_under {base : Nat} {Q : Str → Shared → Prop} (hb : base ≤ sizeLine) (hu : A.units < cLine) (X : K.In s.heap) (I : InstAt s.heap x ox C od) (hs : findIn K (.ref C) "__repr__" = some (some (.ref f))) (hf : isFn K (.ref f) = true)
    (h : wpAny M A (call (.ref f) [.ref x]) (TxtBack Q) E s) : wpAny M A (pyReprUnder base (.ref x)) Q E s := by
  have hn : ¬ base > sizeLine := Nat.not_lt.mpr hb
  unfold pyReprUnder
  rw [if_neg hn]
  refine wpAny_bind ?_
  unfold pyReprObjUnder pyReprObjBy
  refine wpAny_bind (wpAny_cRoomFor hu ?_)
  refine wpAny_bind (wpAny_bind (I.type.here ((looks_findIn X hs).here ?_)))
  show wpAny _ _ (if (some (Value.ref f)).isNone = true then _ else _) _ _ _
  rw [if_neg (by simp)]
  have fin : wpAny M A (call (.ref f) [.ref x] >>= fun v => pure (some v)) (fun r s' => ∃ z t, r = some (.str z t) ∧ Q z s') E s := wpAny_bind (wpAny_mono h (fun v s' ⟨z, t, e, q⟩ => wpAny_pure ⟨z, t, by rw [e], q⟩) fun _ _ h' => h')
  refine wpAny_bind (m := callSpecialIfBoundBy? _ (.ref x) (Str.ofString "__repr__")) ?_
  refine wpAny_mono (Q := fun r s' => ∃ z t, r = some (.str z t) ∧ Q z s') ?_ (fun r s' hr => ?_) fun _ _ y => y
  · unfold callSpecialIfBoundBy? bindSpecialIfBound?
    refine wpAny_holding (wpAny_bind (wpAny_bind (wpAny_bind (I.type.here ((looks_findIn X hs).here ?_)))))
    refine wpAny_bind (wpAny_askSetting (wpAny_ite ?_))
    split
    · exact wpAny_bind ((bind_fn X _ (beq_iff_eq.mp hf)).here (wpAny_pure (by exact fin)))
    · exact wpAny_tryCatch (wpAny_bind ((bind_fn X _ (beq_iff_eq.mp hf)).here (wpAny_pure (by exact fin))))
  · obtain ⟨z, t, rfl, q⟩ := hr
    refine wpAny_bind (wpAny_isInstance (typeIs_str _ _ _) isSubtype_str_str ?_)
    exact wpAny_pure (wpAny_pure q)
end
end Lw

/-! ## Fx10 -/
set_option maxHeartbeats 4000000
/-! repr([x]), x an instance with an own __repr__ -/
namespace Lw
open PySem PySem.Spec PyProof.Rows L2 L2H
abbrev lpC (a P : Addr) (i n : Int) : Code := .builtin "list.__repr__.loop" ⟨[.ref a, rawInt i, .ref P, rawInt n], []⟩
theorem lp_frames {A : Around} {a P : Addr} {i n : Int} : (A.under (lpC a P i n)).frames = A.frames := by
  first | rfl | simp [Around.under, Code.frames, Code.isFrame]
theorem lp_weight {a P : Addr} {i n : Int} : (lpC a P i n).weight = 1 := by
  have g := PySem.isGuard_list_loop ⟨[.ref a, rawInt i, .ref P, rawInt n], []⟩
  unfold Code.weight
  rw [g]
  first | rfl | simp [Code.frames, Code.isFrame, Code.isCreation, Code.isCaller]
theorem lp_depth {A : Around} {a P : Addr} {i n : Int} : (A.under (lpC a P i n)).depth = A.depth + 1 := by
  show A.depth + (lpC a P i n).weight = _
  rw [lp_weight]
theorem lp_room {A : Around} {k : Nat} {a P : Addr} {i n : Int} (r : RoomH (k + 1) A) : RoomH k (A.under (lpC a P i n)) := by
  have u := PySem.units_under_list_loop A ⟨[.ref a, rawInt i, .ref P, rawInt n], []⟩
  exact ⟨by rw [lp_depth]; have := r.dp; omega, by rw [u]; have := r.un; omega⟩
def rRepr1 (C : Addr) (sp : Sp) : List V → Hp → VK → Prop := fun xs H Q => ∃ a x, xs = [.ref a] ∧ H a = some (.lst [.ref x]) ∧ Is C H x ∧ sp [.ref x] H (fun v H' => ∃ z : Str, v = .str z ∧ z.length ≤ 1000000 ∧ H' a = some (.lst [.ref x]) ∧ Q (.str (listText [z])) H') E0
theorem call_repr1 {X : Cx} {k j : Nat} {C : Addr} {ps : List Str} {sp : Sp} (M : MtQ X.prog X.w X.K X.mg X.base k C "__repr__" ps sp) (hg : X.A.guards = some []) (hr : RoomH j X.A) (hk : k + 4 ≤ j) : CallR X (.builtin "repr") (rRepr1 C sp) := by
  obtain ⟨f, fd, F, hm, b, _⟩ := M.ex
  intro pins s σ H xs us Q I r hq
  obtain ⟨a, x, rfl, hl, hx, h⟩ := hq
  obtain ⟨u, rfl, rx⟩ := vals1 r
  cases rx
  obtain ⟨ox, od, J⟩ := is_inst I hx
  obtain ⟨its, rv, ⟨⟨cls, dd, data, sl⟩, n, ho, hc, hdn, hd⟩, hlen⟩ := I.list (.inl (.inl hl))
  simp only at hc hd
  subst hc hd
  obtain ⟨u, rfl⟩ : ∃ u, its = [u] := by
    have := rv.length
    match its, this with
    | [u], _ => exact ⟨u, rfl⟩
  cases rv with
  | cons ru _ =>
    cases ru
    have hr1 : RoomH (k + 3) X.A.in1 := RoomHin1 (hr.mono (show k + 3 + 1 ≤ j by omega))
    refine call_repr_slot (RoomHunits hr1) ⟨_, ho, rfl⟩ PySem.F.slot_list_repr.toG ?_
    refine wpAny_call (codeAny_call_builtin PySem.F.slot_list_repr.plain PySem.F.entry_list_repr (PySem.F.slot_list_repr.check _ _ _ _ _ _ _ _ ⟨_, ho, rfl⟩ (PySem.F.args_list_repr_1 _) ?_))
    refine wpAny_list_repr_head (A := X.A.in1.in1) hg (fun v rest kw hm => nomatch hm) ho rfl ?_
    refine wpAny_bind (m := newList []) (wpAny_newObj_type ?_)
    refine wpAny_pure ⟨PySem.F.quiet_list_repr_loop _, ?_⟩
    have kp : ∀ b o, s.heap.get? b = some o → (s.heap.push ({ cls := .type "list", data := .seq [].toArray } : Obj)).get? b = some o := fun b o e => Heap.get?_push_of_some _ e
    have I1 : Inv X pins σ H { s with heap := s.heap.push ({ cls := .type "list", data := .seq [].toArray } : Obj) } := I.kept (t' := s.toks) kp
    have gP : (s.heap.push ({ cls := .type "list", data := .seq [].toArray } : Obj)).get? s.heap.objs.size = some ({ cls := .type "list", data := .seq [].toArray } : Obj) := Heap.get?_push_size _ rfl
    have nP : H s.heap.objs.size = none := I.hok.fresh (Nat.le_refl _)
    have fP : s.heap.objs.size ∉ frs X.stack := fun z => by
      rcases List.mem_cons.mp (I.stkSub _ z) with e | e
      · have h1 := I.lt
        rw [← e] at h1
        exact Nat.lt_irrefl _ h1
      · exact I.nofs (Nat.le_refl _) e
    have neP : a ≠ s.heap.objs.size := Nat.ne_of_lt (Heap.lt_size ho)
    obtain ⟨ox1, od1, J1⟩ := is_inst I1 hx
    have ho1 := kp _ _ ho
    generalize hs1 : ({ s with heap := s.heap.push ({ cls := .type "list", data := .seq [].toArray } : Obj) } : Shared) = s1 at I1 J1 ⊢
    have gP1 : s1.heap.get? s.heap.objs.size = some ({ cls := .type "list", data := .seq [].toArray } : Obj) := by rw [← hs1]; exact gP
    have ho2 : s1.heap.get? a = some ({ cls := .type "list", dict := dd, data := .seq [Value.ref x].toArray n, slots := sl } : Obj) := by rw [← hs1]; exact ho1
    have kp1 : ∀ b o, s.heap.get? b = some o → s1.heap.get? b = some o := fun b o e => by rw [← hs1]; exact kp b o e
    have os1 : s1.os = s.os := by rw [← hs1]
    refine codeAny_builtin PySem.F.entry_list_repr_loop ?_
    show wpAny _ (X.A.in1.under (lpC a s.heap.objs.size 0 0)) (Builtin.«list.__repr__.loop» ⟨[.ref a, .int 0 0, .ref s.heap.objs.size, .int 0 0], []⟩) _ _ _
    rw [PySem.repr_loop_tree]
    refine wpAny_bind (wpAny_listItems ho2 rfl ?_)
    have hr2 : RoomH (k + 2) (X.A.in1.under (lpC a s.heap.objs.size 0 0)) := lp_room hr1
    refine wpAny_bind (wpAny_holding (own_under (base := 1) (by decide) (RoomHunits hr2) I1.kIn J1 hm.at_ hm.fn (wpAny_call (codeAny_mono (F.run _ X.stack s1 H ⟨[.ref x], []⟩ [.ref x] [.ref x] _ (hr2.mono (by omega)) ?_ (.of_eq (b _ (F.len _ _ _ _ h))) (.cons rfl .nil) h) fun r s2 hq => ?_))))
    · have e := I1.env0
      exact ⟨(lp_frames (A := X.A.in1)).trans e.frames, e.mod, e.bs, e.bsz, e.funs, e.frf, e.hok, e.bare⟩
    · cases r with
      | error e => exact False.elim hq
      | ok fl =>
        cases fl with
        | ret u =>
          obtain ⟨v, H', os2, bare2, un2, hok2, rv, z, rfl, hz, hl', q⟩ := hq
          obtain ⟨t, rfl⟩ := rv
          refine ⟨z, t, rfl, ?_⟩
          have no : ∀ b : Addr, b ∉ ([] : List Addr) := fun b z => nomatch z
          have gP2 := un2.keep _ _ gP1 nP fP (no _)
          have hz2 : z.length ≤ sizeLine := Nat.le_trans hz (by decide)
          obtain ⟨_, its2, n2, rv2, ho3⟩ := (show ObjOk X.prog X.w H' s2.heap a (.lst [.ref x]) from hok2 a _ hl')
          obtain ⟨u2, rfl⟩ : ∃ u, its2 = [u] := by
            have := rv2.length
            match its2, this with
            | [u], _ => exact ⟨u, rfl⟩
          refine wpAny_bind (wpAny_mkStr ?_ hz2)
          refine wpAny_bind ?_
          show wpAny _ _ (updateSeq s.heap.objs.size _) _ _ _
          refine wpAny_updateSeq (o := { cls := .type "list", data := .seq [].toArray }) gP2 rfl (wpAny_pure ⟨PySem.F.quiet_list_repr_loop _, ?_⟩) (by decide)
          have lt2 : ∀ b o, s.heap.get? b = some o → b ≠ s.heap.objs.size := fun b o e => Nat.ne_of_lt (Heap.lt_size e)
          have off : ∀ {fn : Obj → Obj} (b : Addr), b ≠ s.heap.objs.size → (s2.heap.update s.heap.objs.size fn).get? b = s2.heap.get? b := fun b hb => Heap.get?_update_other _ _ (Ne.symm hb)
          have gP3 := Heap.get?_update_self (Obj.mapSeq (·.push (Value.str z s2.toks))) gP2 rfl
          refine codeAny_builtin PySem.F.entry_list_repr_loop ?_
          show wpAny _ _ (Builtin.«list.__repr__.loop» ⟨[.ref a, .int 1 0, .ref s.heap.objs.size, .int _ 0], []⟩) _ _ _
          rw [PySem.repr_loop_tree]
          refine wpAny_bind (wpAny_listItems ((off a neP).trans ho3) rfl ?_)
          show wpAny _ _ (PySem.reprEnd (.ref s.heap.objs.size)) _ _ _
          unfold PySem.reprEnd
          refine wpAny_bind (wpAny_listItems gP3 rfl ?_)
          rw [show (([].toArray : Array Value).push (Value.str z s2.toks)).toList = strValues [(z, s2.toks)] from rfl, PySem.repr_fold]
          refine wpAny_bind (wpAny_pure ?_)
          refine wpAny_bind (wpAny_mkStr (wpAny_pure ?_) ?_)
          · refine ⟨_, _, rfl, I.after ⟨.str (listText [z]), H', os2.trans os1, bare2, ⟨fun b o e n hf hx => ?_, fun b o e n hf hx => ?_, fun b o e n hx => un2.free b o (kp1 b o e) n hx, fun b o e hx => ?_, un2.tups, un2.frzs, un2.tbls⟩, fun b o e => ?_, ⟨_, rfl⟩, q⟩⟩
            · exact (off b (lt2 b o e)).trans (un2.keep b o (kp1 b o e) n hf hx)
            · obtain ⟨sl2, e2⟩ := un2.slot b o (kp1 b o e) n hf hx
              exact ⟨sl2, (off b (lt2 b o e)).trans e2⟩
            · obtain ⟨o2, e2⟩ := un2.there b o (kp1 b o e) hx
              exact ⟨o2, (off b (lt2 b o e)).trans e2⟩
            · have nP2 : H' s.heap.objs.size = none := un2.free _ _ gP1 nP (no _)
              refine (hok2 b o e).stay (fun c v hc y => (off c ?_).trans y) (fun _ y => y) fun _ _ y => y
              intro ec
              subst ec
              rcases hc with hc | hc
              · rw [← hc, nP2] at e
                cases e
              · rw [nP2] at hc
                cases hc
          · have el : (listText [z]).length = z.length + 2 := by
              show (((("[" : Str) ++ ((if 0 > 0 then ", " else "" : String) : Str)) ++ z) ++ ("]" : Str)).length = _
              rw [strLen_append, strLen_append, strLen_append]
              show 1 + 0 + z.length + 1 = _
              omega
            show (listText [z]).length ≤ sizeLine
            rw [el]
            exact Nat.le_trans (show z.length + 2 ≤ 1000002 by omega) (by decide)
        | next => exact False.elim hq
        | brk => exact False.elim hq
        | cont => exact False.elim hq
end Lw

/-! ## Fx11 -/
set_option maxHeartbeats 4000000
/-! repr((x,)), x an instance with an own __repr__ -/
namespace Lw
open PySem PySem.Spec PyProof.Rows L2 L2H
abbrev tpC (a : Addr) : Code := .builtin "tuple.__repr__" ⟨[.ref a], []⟩
theorem tp_frames {A : Around} {a : Addr} : (A.under (tpC a)).frames = A.frames := by
  first | rfl | simp [Around.under, Code.frames, Code.isFrame]
theorem tp_weight {a : Addr} : (tpC a).weight = 1 := by
  have g := PySem.isGuard_tuple_repr ⟨[.ref a], []⟩
  unfold Code.weight
  rw [g]
  first | rfl | simp [Code.frames, Code.isFrame, Code.isCreation, Code.isCaller]
theorem tp_depth {A : Around} {a : Addr} : (A.under (tpC a)).depth = A.depth + 1 := by
  show A.depth + (tpC a).weight = _
  rw [tp_weight]
theorem tp_room {A : Around} {k : Nat} {a : Addr} (r : RoomH (k + 1) A) : RoomH k (A.under (tpC a)) := by
  have u := PySem.units_under_tuple_repr A ⟨[.ref a], []⟩
  exact ⟨by rw [tp_depth]; have := r.dp; omega, by rw [u]; have := r.un; omega⟩
def rRepr1T (C : Addr) (sp : Sp) : List V → Hp → VK → Prop := fun xs H Q => ∃ a x, xs = [.ref a] ∧ H a = some (.tup [.ref x]) ∧ Is C H x ∧ sp [.ref x] H (fun v H' => ∃ z : Str, v = .str z ∧ z.length ≤ 1000000 ∧ Q (.str (tupleText [z])) H') E0
theorem call_repr1T {X : Cx} {k j : Nat} {C : Addr} {ps : List Str} {sp : Sp} (M : MtQ X.prog X.w X.K X.mg X.base k C "__repr__" ps sp) (hg : X.A.guards = some []) (hr : RoomH j X.A) (hk : k + 4 ≤ j) : CallR X (.builtin "repr") (rRepr1T C sp) := by
  obtain ⟨f, fd, F, hm, b, _⟩ := M.ex
  intro pins s σ H xs us Q I r hq
  obtain ⟨a, x, rfl, hl, hx, h⟩ := hq
  obtain ⟨u, rfl, rx⟩ := vals1 r
  cases rx
  obtain ⟨ox, od, J⟩ := is_inst I hx
  obtain ⟨_, its, rv, o, ho, hc, n, hd⟩ := (show ObjOk X.prog X.w H s.heap a (.tup [.ref x]) from I.hok a _ hl)
  obtain ⟨u, rfl⟩ : ∃ u, its = [u] := by
    have := rv.length
    match its, this with
    | [u], _ => exact ⟨u, rfl⟩
  cases rv with
  | cons ru _ =>
    cases ru
    have hr1 : RoomH (k + 3) X.A.in1 := RoomHin1 (hr.mono (show k + 3 + 1 ≤ j by omega))
    have hr2 : RoomH (k + 2) (X.A.in1.under (tpC a)) := tp_room hr1
    refine call_repr_slot (RoomHunits hr1) ⟨_, ho, hc⟩ PySem.F.slot_tuple_repr ?_
    refine wpAny_call (codeAny_call_builtin_own (Code.quiet_builtin _ (by decide +kernel)) PySem.F.entry_tuple_repr (PySem.F.slot_tuple_repr.check _ _ _ _ _ _ _ _ ⟨_, ho, hc⟩ (PySem.F.args_tuple_repr_1 _) ?_))
    show wpOwn (model X.prog X.w) X.A.in1 (tpC a) (Builtin.tupleReprAt 0 ⟨[.ref a], []⟩) _ _ s
    rw [PySem.tuple_repr_tree, PySem.tupleReprUnderWay_eq]
    refine wpOwn_bind (PySem.wpOwn_stackTailAny (g := []) hg (PySem.tupGuardF_off _) (PySem.tupGuardF_pos _) ?_)
    refine wpOwn_of_wpAny ?_
    show wpAny _ _ (PySem.tupleReprRest 0 (.ref a)) _ _ s
    unfold PySem.tupleReprRest Builtin.Tuple.tupleItemsOf
    refine wpAny_bind (wpAny_bind (wpAny_seqItems ho hd (wpAny_pure ?_)))
    rw [← Array.forIn_toList]
    show wpAny _ _ (forIn [Value.ref x] _ PySem.tupBody >>= _) _ _ s
    rw [List.forIn_cons]
    refine wpAny_bind (wpAny_bind (wpAny_bind (own_under (base := 1) (by decide) (RoomHunits hr2) I.kIn J hm.at_ hm.fn (wpAny_call (codeAny_mono (F.run _ X.stack s H ⟨[.ref x], []⟩ [.ref x] [.ref x] _ (hr2.mono (by omega)) ?_ (.of_eq (b _ (F.len _ _ _ _ h))) (.cons rfl .nil) h) fun r s2 hq => ?_)))))
    · have e := I.env0
      exact ⟨(tp_frames (A := X.A.in1)).trans e.frames, e.mod, e.bs, e.bsz, e.funs, e.frf, e.hok, e.bare⟩
    · cases r with
      | error e => exact False.elim hq
      | ok fl =>
        cases fl with
        | ret u =>
          obtain ⟨v, H', os2, bare2, un2, hok2, rv, z, rfl, hz, q⟩ := hq
          obtain ⟨t, rfl⟩ := rv
          refine ⟨z, t, rfl, wpAny_pure ?_⟩
          show wpAny _ _ (forIn [] _ PySem.tupBody) _ _ s2
          rw [List.forIn_nil]
          refine wpAny_pure ?_
          have ez : tupleText [z] = ("(" : Str) ++ Str.join ", " [z] ++ (",)" : Str) := rfl
          have el : (tupleText [z]).length = z.length + 3 := by
            rw [ez, strLen_append, strLen_append]
            show 1 + z.length + 2 = _
            omega
          have hz2 : (tupleText [z]).length ≤ sizeLine := by
            rw [el]
            exact Nat.le_trans (show z.length + 3 ≤ 1000003 by omega) (by decide)
          obtain ⟨v', H3, I3, r3, q3⟩ := I.after (Q := fun v H' => v = .str (tupleText [z]) ∧ Q v H') (u := Value.str (tupleText [z]) s2.toks) ⟨.str (tupleText [z]), H', os2, bare2, un2, hok2, ⟨_, rfl⟩, rfl, q⟩
          obtain ⟨rfl, q4⟩ := q3
          refine wpAny_bind (wpAny_mkStr (x := tupleText [z]) (wpAny_pure ?_) hz2)
          exact ⟨_, _, rfl, _, H3, I3.tok _, r3, q4⟩
        | next => exact False.elim hq
        | brk => exact False.elim hq
        | cont => exact False.elim hq
end Lw

/-! ## Fx12 -/
set_option maxHeartbeats 4000000
/-! a tuple walked to its end while an exception is handled -/
namespace Lw
open PySem PySem.Spec PyProof.Rows L2 L2H HotX
section
variable {prog : Program} {w : World} {A : Around} {E : Value → Shared → Prop} {s : Shared}
theorem tuple_end_hot {it t x1 : Addr} {i : Nat} {items : Array Value} {Q : Option Value → Shared → Prop} (hot : HotAt A x1 s.heap) (hne : x1 ≠ it)
    (hit : s.heap.IsTupleIter it t i) (ht : s.heap.IsTuple t items) (hx : items[i]? = none)
    (hQ : ∀ h', (∀ b o, b ≠ it → s.heap.get? b = some o → h'.get? b = some o) → Q none { s with heap := h' }) : wpAny (model prog w) A (pyNext (.ref it)) Q E s := by
  obtain ⟨o, ho, hc, hd⟩ := id hit
  obtain ⟨ol, hol, _, nl, hdl⟩ := ht
  obtain ⟨hh, o1, vs1, h1, d1, c1⟩ := hot
  unfold pyNext
  refine wpAny_bind (wpAny_attempt (wpAny_callSpecial?_slot (name := Str.ofString "__next__") hit.typeIs F.slot_tuple_iterator_next
    (wpAny_call_entry F.slot_tuple_iterator_next hit.typeIs F.entry_tuple_iterator_next ?_ (F.args_tuple_iterator_next_1 _))))
  show wpAny _ _ (field (.ref it) 0 >>= _) _ _ s
  refine wpAny_bind (wpAny_field ho hd (x := .ref t) rfl ?_)
  show wpAny _ _ (if (Value.ref t == Value.none) = true then _ else _) _ _ s
  rw [if_neg (show ¬ ((Value.ref t == Value.none) = true) from Bool.false_ne_true)]
  show wpAny _ _ (field (.ref it) 1 >>= _) _ _ s
  refine wpAny_bind (wpAny_field ho hd (x := .int i 0) rfl ?_)
  show wpAny _ _ (seqItems? (.ref t) >>= _) _ _ s
  refine wpAny_bind (wpAny_seqItems hol hdl ?_)
  simp only [Int.toNat_natCast, hx]
  refine wpAny_bind (wpAny_rule (wpAny_bind (wpAny_setField ho hd (by simp) ?_)))
  show wpAny _ _ (newExc (.type "StopIteration") [] >>= _) _ _ _
  refine wpAny_bind ?_
  simp only [newExc, newTuple]
  refine wpAny_bind (wpAny_newObj_type ?_ (by size_fits))
  refine wpAny_bind (m := firstArgMember _ _) (wpAny_of_eq (a := Value.none) (by first | rfl | (simp only [firstArgMember]; rfl)) ?_)
  refine wpAny_newObj_type ?_ (by size_fits)
  have up : ∀ {b : Addr} {u : Obj} {fn : Obj → Obj}, b ≠ it → s.heap.get? b = some u → (s.heap.update it fn).get? b = some u := fun hb e => (Heap.get?_update_other _ _ (Ne.symm hb)).trans e
  refine raiseNew_hot ⟨hh, o1, vs1, Heap.get?_push_of_some _ (Heap.get?_push_of_some _ (up hne h1)), d1, c1⟩ (Nat.ne_of_lt (Heap.lt_size (Heap.get?_push_of_some _ (up hne h1)))) (Heap.get?_push_size _ rfl) rfl (by first | (simp; done) | (simp; omega) | (simp only [Array.size_append]; simp; omega)) ?_
  refine wpAny_bind (wpAny_isInstance (T := "StopIteration") (b := true) ⟨_, Heap.get?_update_self _ (Heap.get?_push_size _ rfl) rfl, rfl⟩ isSubtype_stop ?_)
  refine wpAny_pure (hQ _ fun b o hb e => ?_)
  rw [Heap.get?_update_other _ _ (Nat.ne_of_gt (Heap.lt_size (Heap.get?_push_of_some _ (up hb e))))]
  exact Heap.get?_push_of_some _ (Heap.get?_push_of_some _ (up hb e))
end
/-- a tuple's items, one by one -/
theorem turn_tupleH {P : Program} {w : World} {K : PySem.W.Frag} {tg : Expr} (a it : Addr) : TurnH P w K tg (Itt K a) [it] it (fun i h => h.IsTupleIter it a i) where
  mem := by simp
  obj := fun i h st b hb => by
    obtain rfl : b = it := by simpa using hb
    obtain ⟨o, e, c, d⟩ := st
    exact ⟨o, e, fun v z => by rw [d] at z; cases z⟩
  keep := fun i h h' st k => st.at fun o e => k it (by simp) o e
  item := by
    rintro X rfl rfl rfl hc i pins s σ H E I hf st ⟨xs, x, hq, hx⟩
    obtain ⟨its, rv, p, hz⟩ := I.tuple hq
    obtain ⟨u, hu, ru⟩ := rv.get hx
    obtain ⟨f0, f1, f2, f3, f4, f5⟩ := hf it (by simp)
    refine wpAny_pyNext_tuple_item st (show s.heap.IsTuple a its.toArray from p) (x := u) (by simpa using hu) fun h' st' sb => ?_
    have I1 : Inv X pins σ H { s with heap := h' } := I.turned (t' := s.toks) (fun b o hb e => (sb.2 b hb).trans e) f0 f1 f3 f4 f5
    obtain ⟨o, e, c, d⟩ := id st'
    exact ⟨u, rfl, go_of (s := { s with heap := h' }) e c d (by decide) ⟨x, H, I1, ru, ⟨rfl, fun ys hy => by rw [I.tuple_inj hy hq]; exact hx⟩, st', fun b hb => (hf b hb).1⟩⟩
  done := by
    rintro X rfl rfl rfl hc i pins s σ H E I hf st ⟨xs, hq, hx⟩
    obtain ⟨its, rv, p, hz⟩ := I.tuple hq
    obtain ⟨f0, f1, f2, f3, f4, f5⟩ := hf it (by simp)
    obtain ⟨x1, hot⟩ := hc.at I
    have ne : x1 ≠ it := fun e => by
      obtain ⟨_, o1, vs1, h1, d1, c1⟩ := hot
      obtain ⟨o, e2, c, d⟩ := st
      rw [e, e2] at h1
      cases h1
      rw [d] at d1
      cases d1
      simp at c1
    have hl := rv.length
    exact tuple_end_hot hot ne st (show s.heap.IsTuple a its.toArray from p) (by simp; omega) fun h' eb => ⟨rfl, I.turned (t' := s.toks) eb f0 f1 f3 f4 f5⟩
  self := fun _ _ _ _ _ st h => wpAny_pyIter_tupleiter st h
/-- for .. in a tuple, an exception handled -/
theorem pi_tupH {X : Cx} {tg l : Expr} {tl : TE} (hl : PE X l tl) : PIH X tg l (iTup X.K tl) := by
  refine ⟨fun pins s σ H R I h => ?_⟩
  refine thn (hl.run pins s σ H _ I h) fun v s1 ⟨x, H1, I1, r1, q1⟩ => ?_
  obtain ⟨a, rfl, ⟨xs, hq⟩, q⟩ := q1
  cases r1
  obtain ⟨its, rv, p, hz⟩ := I1.tuple hq
  refine wpAny_pyIter_tuple (show s1.heap.IsTuple a its.toArray from p) ?_
  refine ⟨s1.heap.objs.size, [s1.heap.objs.size], _, _, H1, rfl, I1.kept (t' := s1.toks) fun b o e => Heap.get?_push_of_some _ e, turn_tupleH a _, ⟨_, Heap.get?_push_size _ rfl, rfl, rfl⟩, fun b hb => ?_, q⟩
  obtain rfl : b = s1.heap.objs.size := by simpa using hb
  exact I1.fpOk (Nat.le_refl _) (I1.hok.fresh (Nat.le_refl _))
end Lw

/-! ## Fx13 -/
set_option maxHeartbeats 4000000
/-! x, y = t and for x, y in .., while an exception is handled -/
namespace Lw
open PySem PySem.Spec PyProof.Rows L2 L2H HotX
section
variable {prog : Program} {w : World} {A : Around} {E : Value → Shared → Prop} {s : Shared}
theorem unpack_hot {t x1 : Addr} {items : Array Value} {targets : List (Bool × (Value → Sem Unit))} {Q : Unit → Shared → Prop} (hot : HotAt A x1 s.heap) (ht : IsTup s.heap t items) (hn : targets.length = items.size) (hstar : targets.findIdx? (·.1) = none)
    (h : ∀ h', (∀ b o, s.heap.get? b = some o → h'.get? b = some o) → wpAny (model prog w) A (assignInOrder (targets.map (·.2)) items.toList) Q E { s with heap := h' }) : wpAny (model prog w) A (unpack (.ref t) targets) Q E s := by
  have hlt : t ≠ s.heap.objs.size := by obtain ⟨o, ho, _⟩ := ht; exact Nat.ne_of_lt (Heap.lt_size ho)
  obtain ⟨hh, o1, vs1, h1, d1, c1⟩ := hot
  have hx1 : x1 ≠ s.heap.objs.size := Nat.ne_of_lt (Heap.lt_size h1)
  unfold unpack
  rw [hn, hstar]
  refine wpAny_bind (wpAny_holding ?_)
  unfold unpackItems notIterableAtAll
  refine wpAny_bind (wpAny_bind (wpAny_specialOf ht.typeIs slot_tuple_iter.lookup (wpAny_pure ?_)))
  simp only [Bool.false_eq_true, if_false]
  refine wpAny_bind (wpAny_holding (iter_tuple ht ?_))
  refine wpAny_bind (wpAny_holding (draw_tuple hlt items.size 0 _ _ ⟨_, Heap.get?_push_size _ rfl, rfl, rfl⟩ (ht.push _) (by omega) fun h₁ hit₁ hs₁ => ?_))
  have all : List.take items.size (List.drop 0 items.toList) = items.toList := by
    rw [List.drop_zero]
    exact List.take_of_length_le (by simp)
  rw [all, if_neg (by simp)]
  have ht₁ : IsTup h₁ t items := (ht.push _).extBut hs₁.extBut hlt
  refine wpAny_bind (wpAny_holding (tuple_end_hot (s := { s with heap := h₁ }) ⟨hh, o1, vs1, hs₁.extBut _ _ hx1 (Heap.get?_push_of_some _ h1), d1, c1⟩ hx1 hit₁ ht₁ (by simp) fun h₂ he₂ => ?_))
  simp only [Option.isSome_none, Bool.false_eq_true, if_false]
  refine wpAny_pure (h h₂ fun b o e => ?_)
  have hb : b ≠ s.heap.objs.size := Nat.ne_of_lt (Heap.lt_size e)
  exact he₂ b o hb (hs₁.extBut b o hb (Heap.get?_push_of_some _ e))
end
section
variable {X : Cx}
theorem pg_tupH {es : List Expr} {k : Nat} {t : TGs} {n : Nat} {pos : Pos} (hc : HotC X) (h : PGs X es t)
    (hn : (assignEach es X.env).length = n := by rfl) (hst : (assignEach es X.env).findIdx? (·.1) = none := by rfl) : PG X (.Tuple es k pos) (gTup X.K n t) := by
  refine ⟨fun pins s σ H v u Q I r hw => ?_⟩
  obtain ⟨a, xs, rfl, hq, hl, hw⟩ := hw
  cases r
  obtain ⟨its, rv, ht, hz⟩ := I.tuple hq
  obtain ⟨x1, hot⟩ := hc.at I
  rw [assign_Tuple]
  refine wpAny_bind (wpAny_standAt (unpack_hot hot ht (by simp [hn, ← hl, rv.length]) hst fun h' hx => ?_))
  exact h.run pins _ σ H xs _ Q (I.kept (t' := s.toks) hx) (by simpa using rv) hw
end
end Lw

/-! ## Fx14 -/
set_option maxHeartbeats 4000000
/-! defs called while an exception is handled: str() and repr() of an instance there -/
namespace Lw
open PySem PySem.Spec PyProof.Rows L2 L2H
section
variable {P : Program} {w : World} {K : PySem.W.Frag} {mg : Str → Option Value} {base : Heap} {k : Nat} {f : Addr} {fd : FuncData} {ps : List Str} {sp : Sp}
/-- a def of the text, by its body, an exception handled -/
theorem okHt {x qual : Str} {st : Stmt} {N : List Str} (F : Fun K x qual st f fd) (S : FnScope N ps (defScope st)) (len : ∀ vs H Q E, sp vs H Q E → vs.length = ps.length)
    (hbody : ∀ (cdv : Value) (A : Around) (outer : List Env) (s : Shared) (H : Hp) (vs : List V) (Q : VK) (E : XK) (p : Addr × Obj), HotC (cxH CX0 P w K mg base N qual (defScope st) f cdv A outer s H E p) → RoomH k (A.deeper (envOfC qual (defScope st) s.heap.objs.size f cdv)) → sp vs H Q E →
      ∃ t, PSs (cxH CX0 P w K mg base N qual (defScope st) f cdv A outer s H E p).nox (defBody st) t ∧ t { nx := fun _ H' => Q .non H', rt := Q } (L2.start N vs) H) : FnH P w K mg base CX0 (k + 1) f fd ps sp := by
  obtain ⟨oc, od, kV, doc, pm, an, cdv, ct, osl, rfl, lk, hcd⟩ := F.ex
  refine fn_ofH (CX := CX0) lk hcd S len fun A outer s H vs Q E p hot hr hsp => ?_
  obtain ⟨t, ht, hq⟩ := hbody cdv A outer s H vs Q E p ⟨p, hot, List.mem_cons_self⟩ hr hsp
  exact ⟨t, ht.nox, hq⟩
end
structure CalH (P : Program) (w : World) (K : PySem.W.Frag) (mg : Str → Option Value) (base : Heap) (k : Nat) (x : Str) (ps : List Str) (sp : Sp) : Prop where
  ex : ∃ (f : Addr) (fd : FuncData), FnH P w K mg base CX0 k f fd ps sp ∧ mg x = some (.ref f) ∧ PySem.W.keepIn K (.ref f) = true ∧ (∀ us : List Value, us.length = ps.length → bindArgs fd ⟨us, []⟩ = pure (ps.zip us))
structure MtH (P : Program) (w : World) (K : PySem.W.Frag) (mg : Str → Option Value) (base : Heap) (k : Nat) (C : Addr) (m : Str) (ps : List Str) (sp : Sp) : Prop where
  ex : ∃ (f : Addr) (fd : FuncData), FnH P w K mg base CX0 k f fd ps sp ∧ Meth K C m f ∧ (∀ us : List Value, us.length = ps.length → bindArgs fd ⟨us, []⟩ = pure (ps.zip us))
section
variable {X : Cx} {k j : Nat} {C : Addr} {x m : Str} {ps : List Str} {sp : Sp} {p pos : Pos} {e : Expr} {es : List Expr} {t : TA}
theorem pin_of {pins : List (Addr × Obj)} {σ : L2.St} {H : Hp} {s : Shared} (hc : HotC X) (I : Inv X pins σ H s) : ∃ p : Addr × Obj, Hot1 X.A p ∧ PinOk X.stack H s p := by
  obtain ⟨p, hot, hp⟩ := hc
  have P1 := I.pin p (List.mem_append_left _ hp)
  exact ⟨p, hot, P1.1, P1.2.1, fun hm => (List.mem_cons.mp (I.stkSub p.1 hm)).elim P1.2.2.1 P1.2.2.2.1, P1.2.2.2.2⟩
theorem run_h {A : Around} {f : Addr} {fd : FuncData} {args : Args} {us : List Value} {vs : List V} {pins : List (Addr × Obj)} {σ : L2.St} {H : Hp} {s : Shared} {Q : VK} (F : FnH X.prog X.w X.K X.mg X.base CX0 k f fd ps sp) (hr : RoomH k A) (hf : A.frames = X.A.frames) (hh : A.handled = X.A.handled) (hc : HotC X)
    (b : bindArgs fd args = pure (ps.zip us)) (I : Inv X pins σ H s) (r : Vals vs us) (h : sp vs H Q E0) :
    codeAny (model X.prog X.w) A (.call (.ref f) args) (fun r s' => match r with | .ok (.ret u) => EP X pins σ Q u s' | .ok _ => False | .error e => X.xe e s') s := by
  obtain ⟨p, ⟨h1, h2⟩, hp⟩ := pin_of hc I
  have e0 : Env0 X.prog X.w X.K X.mg X.base A X.stack s H := by
    have e := I.env0
    exact ⟨by rw [hf]; exact e.frames, e.mod, e.bs, e.bsz, e.funs, e.frf, e.hok, e.bare⟩
  refine codeAny_mono (F.run A X.stack s H args us vs Q E0 p hr ⟨hh.trans h1, h2⟩ hp e0 (.of_eq b) r h) fun r s' hq => ?_
  cases r with
  | error e => exact False.elim hq
  | ok fl =>
    cases fl with
    | ret u => exact I.after hq
    | next => exact hq
    | brk => exact hq
    | cont => exact hq
theorem pe_ch (c : CalH X.prog X.w X.K X.mg X.base k x ps sp) (hr : RoomH j X.A) (hc : HotC X) (hk : k ≤ j) (hg : Gl X x) (ha : PA X (e :: es) t)
    (hdb : (x == ("__debug__" : Str)) = false := by decide) (he : starEach (e :: es) X.env = (false, eval e X.env) :: starEach es X.env := by rfl) (hpl : (backTo pos (starEach es X.env)).any (·.1) = false := by rfl) :
    PE X (.Call (.Name x p) (e :: es) [] pos) (tCall sp [] E0 t) := by
  obtain ⟨f, fd, F, hm, kp, b⟩ := c.ex
  refine ⟨fun pins s σ H Q I h => ?_⟩
  refine wpAny_Call_Name_kw (ld_glob I hg hm ?_ hdb)
  refine PySem.W.callWith_K (h₀ := X.base) I.ok.mod.kin kp (thn (ha.run pos pins s σ H _ I h) fun us s1 ⟨vs, H1, I1, r, q⟩ => ⟨I1.kIn, ?_⟩) he hpl
  have q : sp vs H1 Q E0 := by
    have q' : sp (vs ++ []) H1 Q E0 := q
    rwa [List.append_nil] at q'
  show wpAny _ _ (call (.ref f) us) _ _ _
  exact wpAny_call (codeAny_mono (run_h F (hr.mono hk) rfl rfl hc (b us (by rw [← r.length]; exact F.len _ _ _ _ q)) I1 r q) fun r s' z => by
    rcases r with e | (v | _ | _ | _) <;> exact z)
end
end Lw

/-! ## Fx15 -/
set_option maxHeartbeats 4000000
/-! str and repr of instances, alone, in a list, in a tuple, while an exception is handled -/
namespace Lw
open PySem PySem.Spec PyProof.Rows L2 L2H
theorem lp_handled {A : Around} {a P : Addr} {i n : Int} : (A.under (lpC a P i n)).handled = A.handled := by
  first | rfl | simp [Around.under]
theorem tp_handled {A : Around} {a : Addr} : (A.under (tpC a)).handled = A.handled := by
  first | rfl | simp [Around.under]
section
variable {X : Cx} {k j : Nat} {C : Addr} {x m : Str} {ps : List Str} {sp : Sp} {p pos apos : Pos} {o e : Expr} {es : List Expr} {ta : TE} {t : TA}
/-- repr(a) by the own __repr__ -/
theorem call_reprH (M : MtH X.prog X.w X.K X.mg X.base k C "__repr__" ps sp) (hr : RoomH j X.A) (hc : HotC X) (hk : k + 1 ≤ j) : CallR X (.builtin "repr") (rStrO C sp) := by
  obtain ⟨f, fd, F, hm, b⟩ := M.ex
  intro pins s σ H xs us Q I r hq
  obtain ⟨a, rfl, ha, h⟩ := hq
  obtain ⟨u, rfl, rx⟩ := vals1 r
  cases rx
  obtain ⟨ox, od, J⟩ := is_inst I ha
  obtain ⟨m, hF⟩ := I.fr
  have hr1 : RoomH k X.A.in1 := RoomHin1 (hr.mono hk)
  refine PySem.W.repr_K (RoomHunits hr1) hF I.ok.mod.kin J hm.at_ hm.fn (wpAny_call (codeAny_mono (run_h (vs := [V.ref a]) (us := [Value.ref a]) F hr1 rfl rfl hc (b _ (F.len _ _ _ _ h)) I (.cons rfl .nil) h) fun r s' z => ?_))
  cases r with
  | error e => exact z
  | ok fl =>
    cases fl with
    | ret v =>
      obtain ⟨y, H', I', ry, ⟨zz, rfl⟩, q⟩ := z
      obtain ⟨t, rfl⟩ := ry
      exact ⟨V.str zz, H', I', ⟨t, rfl⟩, q⟩
    | next => exact z
    | brk => exact z
    | cont => exact z
open PySem.Builtin PySem.Builtin.Str in
/-- str(a) by the own __str__ -/
theorem call_strH (M : MtH X.prog X.w X.K X.mg X.base k C "__str__" ps sp) (hr : RoomH j X.A) (hc : HotC X) (hk : k + 4 ≤ j) : CallR X (.type "str") (rStrO C sp) := by
  obtain ⟨f, fd, F, hm, b⟩ := M.ex
  intro pins s σ H xs us Q I r hq
  obtain ⟨a, rfl, ha, h⟩ := hq
  obtain ⟨u, rfl, rx⟩ := vals1 r
  cases rx
  obtain ⟨ox, od, J⟩ := is_inst I ha
  have hr4 : RoomH (k + 4) X.A := hr.mono hk
  have hr2 : RoomH (k + 2) X.A.in1.in1 := RoomHin1 (RoomHin1 hr4)
  have hr3 : RoomH k X.A.in1.in1 := hr2.mono (by omega)
  have XK := I.kIn
  refine PySem.callType_codes (T := "str") (Bi := Builtin.«object.__init__») (Q₁ := fun r s₁ => ∃ y u, r = .str y u ∧ EP X pins σ Q r s₁) PySem.F.called_str (PySem.F.typeCall_str_1 _) PySem.F.entry_object_init ?_ ?_
  · refine codeAny_of_tree ?_
    show wpAny _ X.A.in1.in1 (do checkBuiltinCall "str.__new__" ⟨[.type "str", .ref a], []⟩; again (.builtin "str.__new__" ⟨[.type "str", .ref a], []⟩)) _ _ s
    refine wpAny_bind (wpAny_of_eq (PySem.F.newCall_str_1 _) (wpAny_pure ⟨plainId_quiet (by decide +kernel) _, codeAny_builtin PySem.F.entry_str_new ?_⟩))
    rw [Around.under_plainId (by decide +kernel) _]
    rw [str_new_tree]
    refine wpAny_bind (wpAny_pure ?_)
    refine wpAny_bind (wpAny_of_eq isSubtype_str_str ?_)
    have key : wpAny (model X.prog X.w) X.A.in1.in1 (PySem.Builtin.Str.strOf (.ref a)) (fun r s₁ => ∃ y u, r = .str y u ∧ EP X pins σ Q r s₁) X.xe s := by
      unfold PySem.Builtin.Str.strOf
      rw [show isExactStr (.ref a) = false from rfl]
      refine wpAny_bind (m := cRoomFor _ _) (wpAny_cRoomFor (RoomHunits hr3) ?_)
      refine wpAny_bind (m := callSpecial? (.ref a) (Str.ofString "__str__")) (PySem.W.special_fn XK J hm.at_ (beq_iff_eq.mp hm.fn) ?_)
      refine wpAny_call (codeAny_mono (run_h (vs := [V.ref a]) (us := [Value.ref a]) F hr3 rfl rfl hc (b _ (F.len _ _ _ _ h)) I (.cons rfl .nil) h) fun r s' z => ?_)
      cases r with
      | error e => exact z
      | ok fl =>
        cases fl with
        | ret v =>
          obtain ⟨y, H', I', ry, ⟨zz, rfl⟩, q⟩ := z
          obtain ⟨t, rfl⟩ := ry
          exact wpAny_pure ⟨zz, t, rfl, V.str zz, H', I', ⟨t, rfl⟩, q⟩
        | next => exact z
        | brk => exact z
        | cont => exact z
    exact wpAny_bind (wpAny_mono key (fun r s₁ hr => wpAny_pure hr) fun _ _ y => y)
  · rintro obj s₁ ⟨y, u, rfl, hq⟩
    exact ⟨typeIs_str _ _ _, PySem.F.args_object_init_2 _ _, object_init_meets PySem.F.called_str.init.lookup PySem.F.called_str.made (by decide) X.prog X.w X.A.in1 _ s₁ ⟨typeIs_str _ _ _, rfl, hq⟩⟩
end
theorem call_repr1H {X : Cx} {k j : Nat} {C : Addr} {ps : List Str} {sp : Sp} (M : MtH X.prog X.w X.K X.mg X.base k C "__repr__" ps sp) (hg : X.A.guards = some []) (hr : RoomH j X.A) (hot : HotC X) (hk : k + 4 ≤ j) : CallR X (.builtin "repr") (rRepr1 C sp) := by
  obtain ⟨f, fd, F, hm, b⟩ := M.ex
  intro pins s σ H xs us Q I r hq
  obtain ⟨a, x, rfl, hl, hx, h⟩ := hq
  obtain ⟨u, rfl, rx⟩ := vals1 r
  cases rx
  obtain ⟨ox, od, J⟩ := is_inst I hx
  obtain ⟨its, rv, ⟨⟨cls, dd, data, sl⟩, n, ho, hc, hdn, hd⟩, hlen⟩ := I.list (.inl (.inl hl))
  simp only at hc hd
  subst hc hd
  obtain ⟨u, rfl⟩ : ∃ u, its = [u] := by
    have := rv.length
    match its, this with
    | [u], _ => exact ⟨u, rfl⟩
  cases rv with
  | cons ru _ =>
    cases ru
    have hr1 : RoomH (k + 3) X.A.in1 := RoomHin1 (hr.mono (show k + 3 + 1 ≤ j by omega))
    refine call_repr_slot (RoomHunits hr1) ⟨_, ho, rfl⟩ PySem.F.slot_list_repr.toG ?_
    refine wpAny_call (codeAny_call_builtin PySem.F.slot_list_repr.plain PySem.F.entry_list_repr (PySem.F.slot_list_repr.check _ _ _ _ _ _ _ _ ⟨_, ho, rfl⟩ (PySem.F.args_list_repr_1 _) ?_))
    refine wpAny_list_repr_head (A := X.A.in1.in1) hg (fun v rest kw hm => nomatch hm) ho rfl ?_
    refine wpAny_bind (m := newList []) (wpAny_newObj_type ?_)
    refine wpAny_pure ⟨PySem.F.quiet_list_repr_loop _, ?_⟩
    have kp : ∀ b o, s.heap.get? b = some o → (s.heap.push ({ cls := .type "list", data := .seq [].toArray } : Obj)).get? b = some o := fun b o e => Heap.get?_push_of_some _ e
    have I1 : Inv X pins σ H { s with heap := s.heap.push ({ cls := .type "list", data := .seq [].toArray } : Obj) } := I.kept (t' := s.toks) kp
    have gP : (s.heap.push ({ cls := .type "list", data := .seq [].toArray } : Obj)).get? s.heap.objs.size = some ({ cls := .type "list", data := .seq [].toArray } : Obj) := Heap.get?_push_size _ rfl
    have nP : H s.heap.objs.size = none := I.hok.fresh (Nat.le_refl _)
    have fP : s.heap.objs.size ∉ frs X.stack := fun z => by
      rcases List.mem_cons.mp (I.stkSub _ z) with e | e
      · have h1 := I.lt
        rw [← e] at h1
        exact Nat.lt_irrefl _ h1
      · exact I.nofs (Nat.le_refl _) e
    have neP : a ≠ s.heap.objs.size := Nat.ne_of_lt (Heap.lt_size ho)
    obtain ⟨ox1, od1, J1⟩ := is_inst I1 hx
    have ho1 := kp _ _ ho
    generalize hs1 : ({ s with heap := s.heap.push ({ cls := .type "list", data := .seq [].toArray } : Obj) } : Shared) = s1 at I1 J1 ⊢
    have gP1 : s1.heap.get? s.heap.objs.size = some ({ cls := .type "list", data := .seq [].toArray } : Obj) := by rw [← hs1]; exact gP
    have ho2 : s1.heap.get? a = some ({ cls := .type "list", dict := dd, data := .seq [Value.ref x].toArray n, slots := sl } : Obj) := by rw [← hs1]; exact ho1
    have kp1 : ∀ b o, s.heap.get? b = some o → s1.heap.get? b = some o := fun b o e => by rw [← hs1]; exact kp b o e
    have os1 : s1.os = s.os := by rw [← hs1]
    refine codeAny_builtin PySem.F.entry_list_repr_loop ?_
    show wpAny _ (X.A.in1.under (lpC a s.heap.objs.size 0 0)) (Builtin.«list.__repr__.loop» ⟨[.ref a, .int 0 0, .ref s.heap.objs.size, .int 0 0], []⟩) _ _ _
    rw [PySem.repr_loop_tree]
    refine wpAny_bind (wpAny_listItems ho2 rfl ?_)
    have hr2 : RoomH (k + 2) (X.A.in1.under (lpC a s.heap.objs.size 0 0)) := lp_room hr1
    obtain ⟨p, ⟨hp1, hp2⟩, hpin⟩ := pin_of hot I1
    refine wpAny_bind (wpAny_holding (own_under (base := 1) (by decide) (RoomHunits hr2) I1.kIn J1 hm.at_ hm.fn (wpAny_call (codeAny_mono (F.run _ X.stack s1 H ⟨[.ref x], []⟩ [.ref x] [.ref x] _ E0 p (hr2.mono (by omega)) ⟨(lp_handled (A := X.A.in1)).trans hp1, hp2⟩ hpin ?_ (.of_eq (b _ (F.len _ _ _ _ h))) (.cons rfl .nil) h) fun r s2 hq => ?_))))
    · have e := I1.env0
      exact ⟨(lp_frames (A := X.A.in1)).trans e.frames, e.mod, e.bs, e.bsz, e.funs, e.frf, e.hok, e.bare⟩
    · cases r with
      | error e => exact False.elim hq
      | ok fl =>
        cases fl with
        | ret u =>
          obtain ⟨v, H', os2, bare2, un2, hok2, rv, z, rfl, hz, hl', q⟩ := hq
          obtain ⟨t, rfl⟩ := rv
          refine ⟨z, t, rfl, ?_⟩
          have no : ∀ b : Addr, b ∉ ([] : List Addr) := fun b z => nomatch z
          have gP2 := un2.keep _ _ gP1 nP fP (no _)
          have hz2 : z.length ≤ sizeLine := Nat.le_trans hz (by decide)
          obtain ⟨_, its2, n2, rv2, ho3⟩ := (show ObjOk X.prog X.w H' s2.heap a (.lst [.ref x]) from hok2 a _ hl')
          obtain ⟨u2, rfl⟩ : ∃ u, its2 = [u] := by
            have := rv2.length
            match its2, this with
            | [u], _ => exact ⟨u, rfl⟩
          refine wpAny_bind (wpAny_mkStr ?_ hz2)
          refine wpAny_bind ?_
          show wpAny _ _ (updateSeq s.heap.objs.size _) _ _ _
          refine wpAny_updateSeq (o := { cls := .type "list", data := .seq [].toArray }) gP2 rfl (wpAny_pure ⟨PySem.F.quiet_list_repr_loop _, ?_⟩) (by decide)
          have lt2 : ∀ b o, s.heap.get? b = some o → b ≠ s.heap.objs.size := fun b o e => Nat.ne_of_lt (Heap.lt_size e)
          have off : ∀ {fn : Obj → Obj} (b : Addr), b ≠ s.heap.objs.size → (s2.heap.update s.heap.objs.size fn).get? b = s2.heap.get? b := fun b hb => Heap.get?_update_other _ _ (Ne.symm hb)
          have gP3 := Heap.get?_update_self (Obj.mapSeq (·.push (Value.str z s2.toks))) gP2 rfl
          refine codeAny_builtin PySem.F.entry_list_repr_loop ?_
          show wpAny _ _ (Builtin.«list.__repr__.loop» ⟨[.ref a, .int 1 0, .ref s.heap.objs.size, .int _ 0], []⟩) _ _ _
          rw [PySem.repr_loop_tree]
          refine wpAny_bind (wpAny_listItems ((off a neP).trans ho3) rfl ?_)
          show wpAny _ _ (PySem.reprEnd (.ref s.heap.objs.size)) _ _ _
          unfold PySem.reprEnd
          refine wpAny_bind (wpAny_listItems gP3 rfl ?_)
          rw [show (([].toArray : Array Value).push (Value.str z s2.toks)).toList = strValues [(z, s2.toks)] from rfl, PySem.repr_fold]
          refine wpAny_bind (wpAny_pure ?_)
          refine wpAny_bind (wpAny_mkStr (wpAny_pure ?_) ?_)
          · refine ⟨_, _, rfl, I.after ⟨.str (listText [z]), H', os2.trans os1, bare2, ⟨fun b o e n hf hx => ?_, fun b o e n hf hx => ?_, fun b o e n hx => un2.free b o (kp1 b o e) n hx, fun b o e hx => ?_, un2.tups, un2.frzs, un2.tbls⟩, fun b o e => ?_, ⟨_, rfl⟩, q⟩⟩
            · exact (off b (lt2 b o e)).trans (un2.keep b o (kp1 b o e) n hf hx)
            · obtain ⟨sl2, e2⟩ := un2.slot b o (kp1 b o e) n hf hx
              exact ⟨sl2, (off b (lt2 b o e)).trans e2⟩
            · obtain ⟨o2, e2⟩ := un2.there b o (kp1 b o e) hx
              exact ⟨o2, (off b (lt2 b o e)).trans e2⟩
            · have nP2 : H' s.heap.objs.size = none := un2.free _ _ gP1 nP (no _)
              refine (hok2 b o e).stay (fun c v hc y => (off c ?_).trans y) (fun _ y => y) fun _ _ y => y
              intro ec
              subst ec
              rcases hc with hc | hc
              · rw [← hc, nP2] at e
                cases e
              · rw [nP2] at hc
                cases hc
          · have el : (listText [z]).length = z.length + 2 := by
              show (((("[" : Str) ++ ((if 0 > 0 then ", " else "" : String) : Str)) ++ z) ++ ("]" : Str)).length = _
              rw [strLen_append, strLen_append, strLen_append]
              show 1 + 0 + z.length + 1 = _
              omega
            show (listText [z]).length ≤ sizeLine
            rw [el]
            exact Nat.le_trans (show z.length + 2 ≤ 1000002 by omega) (by decide)
        | next => exact False.elim hq
        | brk => exact False.elim hq
        | cont => exact False.elim hq
theorem call_repr1TH {X : Cx} {k j : Nat} {C : Addr} {ps : List Str} {sp : Sp} (M : MtH X.prog X.w X.K X.mg X.base k C "__repr__" ps sp) (hg : X.A.guards = some []) (hr : RoomH j X.A) (hot : HotC X) (hk : k + 4 ≤ j) : CallR X (.builtin "repr") (rRepr1T C sp) := by
  obtain ⟨f, fd, F, hm, b⟩ := M.ex
  intro pins s σ H xs us Q I r hq
  obtain ⟨a, x, rfl, hl, hx, h⟩ := hq
  obtain ⟨u, rfl, rx⟩ := vals1 r
  cases rx
  obtain ⟨ox, od, J⟩ := is_inst I hx
  obtain ⟨_, its, rv, o, ho, hc, n, hd⟩ := (show ObjOk X.prog X.w H s.heap a (.tup [.ref x]) from I.hok a _ hl)
  obtain ⟨u, rfl⟩ : ∃ u, its = [u] := by
    have := rv.length
    match its, this with
    | [u], _ => exact ⟨u, rfl⟩
  cases rv with
  | cons ru _ =>
    cases ru
    have hr1 : RoomH (k + 3) X.A.in1 := RoomHin1 (hr.mono (show k + 3 + 1 ≤ j by omega))
    have hr2 : RoomH (k + 2) (X.A.in1.under (tpC a)) := tp_room hr1
    refine call_repr_slot (RoomHunits hr1) ⟨_, ho, hc⟩ PySem.F.slot_tuple_repr ?_
    refine wpAny_call (codeAny_call_builtin_own (Code.quiet_builtin _ (by decide +kernel)) PySem.F.entry_tuple_repr (PySem.F.slot_tuple_repr.check _ _ _ _ _ _ _ _ ⟨_, ho, hc⟩ (PySem.F.args_tuple_repr_1 _) ?_))
    show wpOwn (model X.prog X.w) X.A.in1 (tpC a) (Builtin.tupleReprAt 0 ⟨[.ref a], []⟩) _ _ s
    rw [PySem.tuple_repr_tree, PySem.tupleReprUnderWay_eq]
    refine wpOwn_bind (PySem.wpOwn_stackTailAny (g := []) hg (PySem.tupGuardF_off _) (PySem.tupGuardF_pos _) ?_)
    refine wpOwn_of_wpAny ?_
    show wpAny _ _ (PySem.tupleReprRest 0 (.ref a)) _ _ s
    unfold PySem.tupleReprRest Builtin.Tuple.tupleItemsOf
    refine wpAny_bind (wpAny_bind (wpAny_seqItems ho hd (wpAny_pure ?_)))
    rw [← Array.forIn_toList]
    show wpAny _ _ (forIn [Value.ref x] _ PySem.tupBody >>= _) _ _ s
    rw [List.forIn_cons]
    obtain ⟨p, ⟨hp1, hp2⟩, hpin⟩ := pin_of hot I
    refine wpAny_bind (wpAny_bind (wpAny_bind (own_under (base := 1) (by decide) (RoomHunits hr2) I.kIn J hm.at_ hm.fn (wpAny_call (codeAny_mono (F.run _ X.stack s H ⟨[.ref x], []⟩ [.ref x] [.ref x] _ E0 p (hr2.mono (by omega)) ⟨(tp_handled (A := X.A.in1)).trans hp1, hp2⟩ hpin ?_ (.of_eq (b _ (F.len _ _ _ _ h))) (.cons rfl .nil) h) fun r s2 hq => ?_)))))
    · have e := I.env0
      exact ⟨(tp_frames (A := X.A.in1)).trans e.frames, e.mod, e.bs, e.bsz, e.funs, e.frf, e.hok, e.bare⟩
    · cases r with
      | error e => exact False.elim hq
      | ok fl =>
        cases fl with
        | ret u =>
          obtain ⟨v, H', os2, bare2, un2, hok2, rv, z, rfl, hz, q⟩ := hq
          obtain ⟨t, rfl⟩ := rv
          refine ⟨z, t, rfl, wpAny_pure ?_⟩
          show wpAny _ _ (forIn [] _ PySem.tupBody) _ _ s2
          rw [List.forIn_nil]
          refine wpAny_pure ?_
          have ez : tupleText [z] = ("(" : Str) ++ Str.join ", " [z] ++ (",)" : Str) := rfl
          have el : (tupleText [z]).length = z.length + 3 := by
            rw [ez, strLen_append, strLen_append]
            show 1 + z.length + 2 = _
            omega
          have hz2 : (tupleText [z]).length ≤ sizeLine := by
            rw [el]
            exact Nat.le_trans (show z.length + 3 ≤ 1000003 by omega) (by decide)
          obtain ⟨v', H3, I3, r3, q3⟩ := I.after (Q := fun v H' => v = .str (tupleText [z]) ∧ Q v H') (u := Value.str (tupleText [z]) s2.toks) ⟨.str (tupleText [z]), H', os2, bare2, un2, hok2, ⟨_, rfl⟩, rfl, q⟩
          obtain ⟨rfl, q4⟩ := q3
          refine wpAny_bind (wpAny_mkStr (x := tupleText [z]) (wpAny_pure ?_) hz2)
          exact ⟨_, _, rfl, _, H3, I3.tok _, r3, q4⟩
        | next => exact False.elim hq
        | brk => exact False.elim hq
        | cont => exact False.elim hq
end Lw

/-! ## Fx16 -/
set_option maxHeartbeats 4000000
/-! the same where nothing is handled and guards may be set -/
namespace Lw
open PySem PySem.Spec PyProof.Rows L2 L2H
structure CalK (P : Program) (w : World) (K : PySem.W.Frag) (mg : Str → Option Value) (base : Heap) (k : Nat) (x : Str) (ps : List Str) (sp : Sp) : Prop where
  ex : ∃ (f : Addr) (fd : FuncData), FnOk P w K mg base CX0 k f fd ps sp ∧ mg x = some (.ref f) ∧ PySem.W.keepIn K (.ref f) = true ∧ (∀ us : List Value, us.length = ps.length → bindArgs fd ⟨us, []⟩ = pure (ps.zip us))
structure MtK (P : Program) (w : World) (K : PySem.W.Frag) (mg : Str → Option Value) (base : Heap) (k : Nat) (C : Addr) (m : Str) (ps : List Str) (sp : Sp) : Prop where
  ex : ∃ (f : Addr) (fd : FuncData), FnOk P w K mg base CX0 k f fd ps sp ∧ Meth K C m f ∧ (∀ us : List Value, us.length = ps.length → bindArgs fd ⟨us, []⟩ = pure (ps.zip us))
theorem lp_roomK {A : Around} {k : Nat} {a P : Addr} {i n : Int} (r : Room (k + 1) A) : Room k (A.under (lpC a P i n)) := by
  have h := lp_room (a := a) (P := P) (i := i) (n := n) (roomH_of r)
  exact ⟨lp_handled.trans r.hd, h.dp, h.un⟩
theorem tp_roomK {A : Around} {k : Nat} {a : Addr} (r : Room (k + 1) A) : Room k (A.under (tpC a)) := by
  have h := tp_room (a := a) (roomH_of r)
  exact ⟨tp_handled.trans r.hd, h.dp, h.un⟩
section
variable {X : Cx} {k j : Nat} {C : Addr} {x m : Str} {ps : List Str} {sp : Sp} {p pos apos : Pos} {o e : Expr} {es : List Expr} {ta : TE} {t : TA}
theorem run_k {A : Around} {f : Addr} {fd : FuncData} {args : Args} {us : List Value} {vs : List V} {pins : List (Addr × Obj)} {σ : L2.St} {H : Hp} {s : Shared} {Q : VK} (F : FnOk X.prog X.w X.K X.mg X.base CX0 k f fd ps sp) (hr : Room k A) (hf : A.frames = X.A.frames)
    (b : bindArgs fd args = pure (ps.zip us)) (I : Inv X pins σ H s) (r : Vals vs us) (h : sp vs H Q E0) :
    codeAny (model X.prog X.w) A (.call (.ref f) args) (fun r s' => match r with | .ok (.ret u) => EP X pins σ Q u s' | .ok _ => False | .error e => X.xe e s') s := by
  have e0 : Env0 X.prog X.w X.K X.mg X.base A X.stack s H := by
    have e := I.env0
    exact ⟨by rw [hf]; exact e.frames, e.mod, e.bs, e.bsz, e.funs, e.frf, e.hok, e.bare⟩
  refine codeAny_mono (F.run A X.stack s H args us vs Q E0 hr e0 (.of_eq b) r h) fun r s' hq => ?_
  cases r with
  | error e => exact False.elim hq
  | ok fl =>
    cases fl with
    | ret u => exact I.after hq
    | next => exact hq
    | brk => exact hq
    | cont => exact hq
theorem pe_ck1 (c : CalK X.prog X.w X.K X.mg X.base k x ps sp) (hr : Room j X.A) (hk : k ≤ j) (hg : Gl X x) (ha : PA X (e :: es) t)
    (hdb : (x == ("__debug__" : Str)) = false := by decide) (he : starEach (e :: es) X.env = (false, eval e X.env) :: starEach es X.env := by rfl) (hpl : (backTo pos (starEach es X.env)).any (·.1) = false := by rfl) :
    PE X (.Call (.Name x p) (e :: es) [] pos) (tCall sp [] E0 t) := by
  obtain ⟨f, fd, F, hm, kp, b⟩ := c.ex
  refine ⟨fun pins s σ H Q I h => ?_⟩
  refine wpAny_Call_Name_kw (ld_glob I hg hm ?_ hdb)
  refine PySem.W.callWith_K (h₀ := X.base) I.ok.mod.kin kp (thn (ha.run pos pins s σ H _ I h) fun us s1 ⟨vs, H1, I1, r, q⟩ => ⟨I1.kIn, ?_⟩) he hpl
  have q : sp vs H1 Q E0 := by
    have q' : sp (vs ++ []) H1 Q E0 := q
    rwa [List.append_nil] at q'
  show wpAny _ _ (call (.ref f) us) _ _ _
  exact wpAny_call (codeAny_mono (run_k F (hr.mono hk) rfl (b us (by rw [← r.length]; exact F.len _ _ _ _ q)) I1 r q) fun r s' z => by
    rcases r with e | (v | _ | _ | _) <;> exact z)
/-- repr(a) by the own __repr__ -/
theorem call_reprK (M : MtK X.prog X.w X.K X.mg X.base k C "__repr__" ps sp) (hr : Room j X.A) (hk : k + 1 ≤ j) : CallR X (.builtin "repr") (rStrO C sp) := by
  obtain ⟨f, fd, F, hm, b⟩ := M.ex
  intro pins s σ H xs us Q I r hq
  obtain ⟨a, rfl, ha, h⟩ := hq
  obtain ⟨u, rfl, rx⟩ := vals1 r
  cases rx
  obtain ⟨ox, od, J⟩ := is_inst I ha
  obtain ⟨m, hF⟩ := I.fr
  have hr1 : Room k X.A.in1 := Room.in1 (hr.mono hk)
  refine PySem.W.repr_K (Room.units0 hr1) hF I.ok.mod.kin J hm.at_ hm.fn (wpAny_call (codeAny_mono (run_k (vs := [V.ref a]) (us := [Value.ref a]) F hr1 rfl (b _ (F.len _ _ _ _ h)) I (.cons rfl .nil) h) fun r s' z => ?_))
  cases r with
  | error e => exact z
  | ok fl =>
    cases fl with
    | ret v =>
      obtain ⟨y, H', I', ry, ⟨zz, rfl⟩, q⟩ := z
      obtain ⟨t, rfl⟩ := ry
      exact ⟨V.str zz, H', I', ⟨t, rfl⟩, q⟩
    | next => exact z
    | brk => exact z
    | cont => exact z
open PySem.Builtin PySem.Builtin.Str in
/-- str(a) by the own __str__ -/
theorem call_strK (M : MtK X.prog X.w X.K X.mg X.base k C "__str__" ps sp) (hr : Room j X.A) (hk : k + 4 ≤ j) : CallR X (.type "str") (rStrO C sp) := by
  obtain ⟨f, fd, F, hm, b⟩ := M.ex
  intro pins s σ H xs us Q I r hq
  obtain ⟨a, rfl, ha, h⟩ := hq
  obtain ⟨u, rfl, rx⟩ := vals1 r
  cases rx
  obtain ⟨ox, od, J⟩ := is_inst I ha
  have hr4 : Room (k + 4) X.A := hr.mono hk
  have hr2 : Room (k + 2) X.A.in1.in1 := Room.in1 (Room.in1 hr4)
  have hr3 : Room k X.A.in1.in1 := hr2.mono (by omega)
  have XK := I.kIn
  refine PySem.callType_codes (T := "str") (Bi := Builtin.«object.__init__») (Q₁ := fun r s₁ => ∃ y u, r = .str y u ∧ EP X pins σ Q r s₁) PySem.F.called_str (PySem.F.typeCall_str_1 _) PySem.F.entry_object_init ?_ ?_
  · refine codeAny_of_tree ?_
    show wpAny _ X.A.in1.in1 (do checkBuiltinCall "str.__new__" ⟨[.type "str", .ref a], []⟩; again (.builtin "str.__new__" ⟨[.type "str", .ref a], []⟩)) _ _ s
    refine wpAny_bind (wpAny_of_eq (PySem.F.newCall_str_1 _) (wpAny_pure ⟨plainId_quiet (by decide +kernel) _, codeAny_builtin PySem.F.entry_str_new ?_⟩))
    rw [Around.under_plainId (by decide +kernel) _]
    rw [str_new_tree]
    refine wpAny_bind (wpAny_pure ?_)
    refine wpAny_bind (wpAny_of_eq isSubtype_str_str ?_)
    have key : wpAny (model X.prog X.w) X.A.in1.in1 (PySem.Builtin.Str.strOf (.ref a)) (fun r s₁ => ∃ y u, r = .str y u ∧ EP X pins σ Q r s₁) X.xe s := by
      unfold PySem.Builtin.Str.strOf
      rw [show isExactStr (.ref a) = false from rfl]
      refine wpAny_bind (m := cRoomFor _ _) (wpAny_cRoomFor (Room.units0 hr3) ?_)
      refine wpAny_bind (m := callSpecial? (.ref a) (Str.ofString "__str__")) (PySem.W.special_fn XK J hm.at_ (beq_iff_eq.mp hm.fn) ?_)
      refine wpAny_call (codeAny_mono (run_k (vs := [V.ref a]) (us := [Value.ref a]) F hr3 rfl (b _ (F.len _ _ _ _ h)) I (.cons rfl .nil) h) fun r s' z => ?_)
      cases r with
      | error e => exact z
      | ok fl =>
        cases fl with
        | ret v =>
          obtain ⟨y, H', I', ry, ⟨zz, rfl⟩, q⟩ := z
          obtain ⟨t, rfl⟩ := ry
          exact wpAny_pure ⟨zz, t, rfl, V.str zz, H', I', ⟨t, rfl⟩, q⟩
        | next => exact z
        | brk => exact z
        | cont => exact z
    exact wpAny_bind (wpAny_mono key (fun r s₁ hr => wpAny_pure hr) fun _ _ y => y)
  · rintro obj s₁ ⟨y, u, rfl, hq⟩
    exact ⟨typeIs_str _ _ _, PySem.F.args_object_init_2 _ _, object_init_meets PySem.F.called_str.init.lookup PySem.F.called_str.made (by decide) X.prog X.w X.A.in1 _ s₁ ⟨typeIs_str _ _ _, rfl, hq⟩⟩
end
theorem call_repr1K {X : Cx} {k j : Nat} {C : Addr} {ps : List Str} {sp : Sp} (M : MtK X.prog X.w X.K X.mg X.base k C "__repr__" ps sp) (hg : X.A.guards = some []) (hr : Room j X.A) (hk : k + 4 ≤ j) : CallR X (.builtin "repr") (rRepr1 C sp) := by
  obtain ⟨f, fd, F, hm, b⟩ := M.ex
  intro pins s σ H xs us Q I r hq
  obtain ⟨a, x, rfl, hl, hx, h⟩ := hq
  obtain ⟨u, rfl, rx⟩ := vals1 r
  cases rx
  obtain ⟨ox, od, J⟩ := is_inst I hx
  obtain ⟨its, rv, ⟨⟨cls, dd, data, sl⟩, n, ho, hc, hdn, hd⟩, hlen⟩ := I.list (.inl (.inl hl))
  simp only at hc hd
  subst hc hd
  obtain ⟨u, rfl⟩ : ∃ u, its = [u] := by
    have := rv.length
    match its, this with
    | [u], _ => exact ⟨u, rfl⟩
  cases rv with
  | cons ru _ =>
    cases ru
    have hr1 : Room (k + 3) X.A.in1 := Room.in1 (hr.mono (show k + 3 + 1 ≤ j by omega))
    refine call_repr_slot (Room.units0 hr1) ⟨_, ho, rfl⟩ PySem.F.slot_list_repr.toG ?_
    refine wpAny_call (codeAny_call_builtin PySem.F.slot_list_repr.plain PySem.F.entry_list_repr (PySem.F.slot_list_repr.check _ _ _ _ _ _ _ _ ⟨_, ho, rfl⟩ (PySem.F.args_list_repr_1 _) ?_))
    refine wpAny_list_repr_head (A := X.A.in1.in1) hg (fun v rest kw hm => nomatch hm) ho rfl ?_
    refine wpAny_bind (m := newList []) (wpAny_newObj_type ?_)
    refine wpAny_pure ⟨PySem.F.quiet_list_repr_loop _, ?_⟩
    have kp : ∀ b o, s.heap.get? b = some o → (s.heap.push ({ cls := .type "list", data := .seq [].toArray } : Obj)).get? b = some o := fun b o e => Heap.get?_push_of_some _ e
    have I1 : Inv X pins σ H { s with heap := s.heap.push ({ cls := .type "list", data := .seq [].toArray } : Obj) } := I.kept (t' := s.toks) kp
    have gP : (s.heap.push ({ cls := .type "list", data := .seq [].toArray } : Obj)).get? s.heap.objs.size = some ({ cls := .type "list", data := .seq [].toArray } : Obj) := Heap.get?_push_size _ rfl
    have nP : H s.heap.objs.size = none := I.hok.fresh (Nat.le_refl _)
    have fP : s.heap.objs.size ∉ frs X.stack := fun z => by
      rcases List.mem_cons.mp (I.stkSub _ z) with e | e
      · have h1 := I.lt
        rw [← e] at h1
        exact Nat.lt_irrefl _ h1
      · exact I.nofs (Nat.le_refl _) e
    have neP : a ≠ s.heap.objs.size := Nat.ne_of_lt (Heap.lt_size ho)
    obtain ⟨ox1, od1, J1⟩ := is_inst I1 hx
    have ho1 := kp _ _ ho
    generalize hs1 : ({ s with heap := s.heap.push ({ cls := .type "list", data := .seq [].toArray } : Obj) } : Shared) = s1 at I1 J1 ⊢
    have gP1 : s1.heap.get? s.heap.objs.size = some ({ cls := .type "list", data := .seq [].toArray } : Obj) := by rw [← hs1]; exact gP
    have ho2 : s1.heap.get? a = some ({ cls := .type "list", dict := dd, data := .seq [Value.ref x].toArray n, slots := sl } : Obj) := by rw [← hs1]; exact ho1
    have kp1 : ∀ b o, s.heap.get? b = some o → s1.heap.get? b = some o := fun b o e => by rw [← hs1]; exact kp b o e
    have os1 : s1.os = s.os := by rw [← hs1]
    refine codeAny_builtin PySem.F.entry_list_repr_loop ?_
    show wpAny _ (X.A.in1.under (lpC a s.heap.objs.size 0 0)) (Builtin.«list.__repr__.loop» ⟨[.ref a, .int 0 0, .ref s.heap.objs.size, .int 0 0], []⟩) _ _ _
    rw [PySem.repr_loop_tree]
    refine wpAny_bind (wpAny_listItems ho2 rfl ?_)
    have hr2 : Room (k + 2) (X.A.in1.under (lpC a s.heap.objs.size 0 0)) := lp_roomK hr1
    refine wpAny_bind (wpAny_holding (own_under (base := 1) (by decide) (Room.units0 hr2) I1.kIn J1 hm.at_ hm.fn (wpAny_call (codeAny_mono (F.run _ X.stack s1 H ⟨[.ref x], []⟩ [.ref x] [.ref x] _ E0 (hr2.mono (by omega)) ?_ (.of_eq (b _ (F.len _ _ _ _ h))) (.cons rfl .nil) h) fun r s2 hq => ?_))))
    · have e := I1.env0
      exact ⟨(lp_frames (A := X.A.in1)).trans e.frames, e.mod, e.bs, e.bsz, e.funs, e.frf, e.hok, e.bare⟩
    · cases r with
      | error e => exact False.elim hq
      | ok fl =>
        cases fl with
        | ret u =>
          obtain ⟨v, H', os2, bare2, un2, hok2, rv, z, rfl, hz, hl', q⟩ := hq
          obtain ⟨t, rfl⟩ := rv
          refine ⟨z, t, rfl, ?_⟩
          have no : ∀ b : Addr, b ∉ ([] : List Addr) := fun b z => nomatch z
          have gP2 := un2.keep _ _ gP1 nP fP (no _)
          have hz2 : z.length ≤ sizeLine := Nat.le_trans hz (by decide)
          obtain ⟨_, its2, n2, rv2, ho3⟩ := (show ObjOk X.prog X.w H' s2.heap a (.lst [.ref x]) from hok2 a _ hl')
          obtain ⟨u2, rfl⟩ : ∃ u, its2 = [u] := by
            have := rv2.length
            match its2, this with
            | [u], _ => exact ⟨u, rfl⟩
          refine wpAny_bind (wpAny_mkStr ?_ hz2)
          refine wpAny_bind ?_
          show wpAny _ _ (updateSeq s.heap.objs.size _) _ _ _
          refine wpAny_updateSeq (o := { cls := .type "list", data := .seq [].toArray }) gP2 rfl (wpAny_pure ⟨PySem.F.quiet_list_repr_loop _, ?_⟩) (by decide)
          have lt2 : ∀ b o, s.heap.get? b = some o → b ≠ s.heap.objs.size := fun b o e => Nat.ne_of_lt (Heap.lt_size e)
          have off : ∀ {fn : Obj → Obj} (b : Addr), b ≠ s.heap.objs.size → (s2.heap.update s.heap.objs.size fn).get? b = s2.heap.get? b := fun b hb => Heap.get?_update_other _ _ (Ne.symm hb)
          have gP3 := Heap.get?_update_self (Obj.mapSeq (·.push (Value.str z s2.toks))) gP2 rfl
          refine codeAny_builtin PySem.F.entry_list_repr_loop ?_
          show wpAny _ _ (Builtin.«list.__repr__.loop» ⟨[.ref a, .int 1 0, .ref s.heap.objs.size, .int _ 0], []⟩) _ _ _
          rw [PySem.repr_loop_tree]
          refine wpAny_bind (wpAny_listItems ((off a neP).trans ho3) rfl ?_)
          show wpAny _ _ (PySem.reprEnd (.ref s.heap.objs.size)) _ _ _
          unfold PySem.reprEnd
          refine wpAny_bind (wpAny_listItems gP3 rfl ?_)
          rw [show (([].toArray : Array Value).push (Value.str z s2.toks)).toList = strValues [(z, s2.toks)] from rfl, PySem.repr_fold]
          refine wpAny_bind (wpAny_pure ?_)
          refine wpAny_bind (wpAny_mkStr (wpAny_pure ?_) ?_)
          · refine ⟨_, _, rfl, I.after ⟨.str (listText [z]), H', os2.trans os1, bare2, ⟨fun b o e n hf hx => ?_, fun b o e n hf hx => ?_, fun b o e n hx => un2.free b o (kp1 b o e) n hx, fun b o e hx => ?_, un2.tups, un2.frzs, un2.tbls⟩, fun b o e => ?_, ⟨_, rfl⟩, q⟩⟩
            · exact (off b (lt2 b o e)).trans (un2.keep b o (kp1 b o e) n hf hx)
            · obtain ⟨sl2, e2⟩ := un2.slot b o (kp1 b o e) n hf hx
              exact ⟨sl2, (off b (lt2 b o e)).trans e2⟩
            · obtain ⟨o2, e2⟩ := un2.there b o (kp1 b o e) hx
              exact ⟨o2, (off b (lt2 b o e)).trans e2⟩
            · have nP2 : H' s.heap.objs.size = none := un2.free _ _ gP1 nP (no _)
              refine (hok2 b o e).stay (fun c v hc y => (off c ?_).trans y) (fun _ y => y) fun _ _ y => y
              intro ec
              subst ec
              rcases hc with hc | hc
              · rw [← hc, nP2] at e
                cases e
              · rw [nP2] at hc
                cases hc
          · have el : (listText [z]).length = z.length + 2 := by
              show (((("[" : Str) ++ ((if 0 > 0 then ", " else "" : String) : Str)) ++ z) ++ ("]" : Str)).length = _
              rw [strLen_append, strLen_append, strLen_append]
              show 1 + 0 + z.length + 1 = _
              omega
            show (listText [z]).length ≤ sizeLine
            rw [el]
            exact Nat.le_trans (show z.length + 2 ≤ 1000002 by omega) (by decide)
        | next => exact False.elim hq
        | brk => exact False.elim hq
        | cont => exact False.elim hq
theorem call_repr1TK {X : Cx} {k j : Nat} {C : Addr} {ps : List Str} {sp : Sp} (M : MtK X.prog X.w X.K X.mg X.base k C "__repr__" ps sp) (hg : X.A.guards = some []) (hr : Room j X.A) (hk : k + 4 ≤ j) : CallR X (.builtin "repr") (rRepr1T C sp) := by
  obtain ⟨f, fd, F, hm, b⟩ := M.ex
  intro pins s σ H xs us Q I r hq
  obtain ⟨a, x, rfl, hl, hx, h⟩ := hq
  obtain ⟨u, rfl, rx⟩ := vals1 r
  cases rx
  obtain ⟨ox, od, J⟩ := is_inst I hx
  obtain ⟨_, its, rv, o, ho, hc, n, hd⟩ := (show ObjOk X.prog X.w H s.heap a (.tup [.ref x]) from I.hok a _ hl)
  obtain ⟨u, rfl⟩ : ∃ u, its = [u] := by
    have := rv.length
    match its, this with
    | [u], _ => exact ⟨u, rfl⟩
  cases rv with
  | cons ru _ =>
    cases ru
    have hr1 : Room (k + 3) X.A.in1 := Room.in1 (hr.mono (show k + 3 + 1 ≤ j by omega))
    have hr2 : Room (k + 2) (X.A.in1.under (tpC a)) := tp_roomK hr1
    refine call_repr_slot (Room.units0 hr1) ⟨_, ho, hc⟩ PySem.F.slot_tuple_repr ?_
    refine wpAny_call (codeAny_call_builtin_own (Code.quiet_builtin _ (by decide +kernel)) PySem.F.entry_tuple_repr (PySem.F.slot_tuple_repr.check _ _ _ _ _ _ _ _ ⟨_, ho, hc⟩ (PySem.F.args_tuple_repr_1 _) ?_))
    show wpOwn (model X.prog X.w) X.A.in1 (tpC a) (Builtin.tupleReprAt 0 ⟨[.ref a], []⟩) _ _ s
    rw [PySem.tuple_repr_tree, PySem.tupleReprUnderWay_eq]
    refine wpOwn_bind (PySem.wpOwn_stackTailAny (g := []) hg (PySem.tupGuardF_off _) (PySem.tupGuardF_pos _) ?_)
    refine wpOwn_of_wpAny ?_
    show wpAny _ _ (PySem.tupleReprRest 0 (.ref a)) _ _ s
    unfold PySem.tupleReprRest Builtin.Tuple.tupleItemsOf
    refine wpAny_bind (wpAny_bind (wpAny_seqItems ho hd (wpAny_pure ?_)))
    rw [← Array.forIn_toList]
    show wpAny _ _ (forIn [Value.ref x] _ PySem.tupBody >>= _) _ _ s
    rw [List.forIn_cons]
    refine wpAny_bind (wpAny_bind (wpAny_bind (own_under (base := 1) (by decide) (Room.units0 hr2) I.kIn J hm.at_ hm.fn (wpAny_call (codeAny_mono (F.run _ X.stack s H ⟨[.ref x], []⟩ [.ref x] [.ref x] _ E0 (hr2.mono (by omega)) ?_ (.of_eq (b _ (F.len _ _ _ _ h))) (.cons rfl .nil) h) fun r s2 hq => ?_)))))
    · have e := I.env0
      exact ⟨(tp_frames (A := X.A.in1)).trans e.frames, e.mod, e.bs, e.bsz, e.funs, e.frf, e.hok, e.bare⟩
    · cases r with
      | error e => exact False.elim hq
      | ok fl =>
        cases fl with
        | ret u =>
          obtain ⟨v, H', os2, bare2, un2, hok2, rv, z, rfl, hz, q⟩ := hq
          obtain ⟨t, rfl⟩ := rv
          refine ⟨z, t, rfl, wpAny_pure ?_⟩
          show wpAny _ _ (forIn [] _ PySem.tupBody) _ _ s2
          rw [List.forIn_nil]
          refine wpAny_pure ?_
          have ez : tupleText [z] = ("(" : Str) ++ Str.join ", " [z] ++ (",)" : Str) := rfl
          have el : (tupleText [z]).length = z.length + 3 := by
            rw [ez, strLen_append, strLen_append]
            show 1 + z.length + 2 = _
            omega
          have hz2 : (tupleText [z]).length ≤ sizeLine := by
            rw [el]
            exact Nat.le_trans (show z.length + 3 ≤ 1000003 by omega) (by decide)
          obtain ⟨v', H3, I3, r3, q3⟩ := I.after (Q := fun v H' => v = .str (tupleText [z]) ∧ Q v H') (u := Value.str (tupleText [z]) s2.toks) ⟨.str (tupleText [z]), H', os2, bare2, un2, hok2, ⟨_, rfl⟩, rfl, q⟩
          obtain ⟨rfl, q4⟩ := q3
          refine wpAny_bind (wpAny_mkStr (x := tupleText [z]) (wpAny_pure ?_) hz2)
          exact ⟨_, _, rfl, _, H3, I3.tok _, r3, q4⟩
        | next => exact False.elim hq
        | brk => exact False.elim hq
        | cont => exact False.elim hq
end Lw

/-! ## Fx17 -/
set_option maxHeartbeats 4000000
/-! a def whose code object is told: one that makes lambdas -/
namespace Lw
open PySem PySem.Spec PyProof.Rows L2
structure FunT (K : PySem.W.Frag) (x qual : Str) (st : Stmt) (f : Addr) (fd : FuncData) (c : Addr) : Prop where
  ex : ∃ (oc : Value) (od : Option Addr) (kV doc pm ct : Value) (an : Option Addr) (osl : Array (Option Value)), fd = PySem.W.fnOf x qual (defArgs st) (defBody st) (defScope st) .none kV doc pm an (.ref c) ct ∧
    K.lookup f = some ⟨oc, od, .func (PySem.W.fnOf x qual (defArgs st) (defBody st) (defScope st) .none kV doc pm an (.ref c) ct), osl⟩ ∧ PySem.W.codeIn K (.ref c) qual = true
theorem okGT {P : Program} {w : World} {K : PySem.W.Frag} {mg : Str → Option Value} {base : Heap} {k : Nat} {f c : Addr} {fd : FuncData} {ps : List Str} {sp : Sp} {x qual : Str} {st : Stmt} {N : List Str} (F : FunT K x qual st f fd c) (S : FnScope N ps (defScope st)) (len : ∀ vs H Q E, sp vs H Q E → vs.length = ps.length)
    (hbody : ∀ (A : Around) (outer : List Env) (s : Shared) (H : Hp) (vs : List V) (Q : VK), RoomG k (A.deeper (envOfC qual (defScope st) s.heap.objs.size f (.ref c))) → sp vs H Q E0 →
      ∃ t, PSs (cxOf CX0 P w K mg base N qual (defScope st) f (.ref c) A outer s H E0).nox (defBody st) t ∧ t { nx := fun _ H' => Q .non H', rt := Q } (start N vs) H) : FnG P w K mg base (k + 1) f fd ps sp := by
  obtain ⟨oc, od, kV, doc, pm, ct, an, osl, rfl, lk, hcd⟩ := F.ex
  refine ⟨len, fun A outer s H args us vs Q hr e0 hb r hsp => LamX.run_ofS (CX := CX0) (E := E0) lk hcd S hr.rm e0 hb r (len _ _ _ _ hsp) fun hr' => ?_⟩
  obtain ⟨t, ht, hq⟩ := hbody A outer s H vs Q ⟨hr', hr.gd⟩ hsp
  exact ⟨t, ht.nox, hq⟩
/-- the code objects of such defs with their tables of code objects, as the head tells them -/
def TabsAt (T : List (Addr × Str)) (base : Heap) (mg : Str → Option Value) (cs : List (Addr × Addr)) : Prop := ∀ p ∈ cs, LamX.TabB base mg p.1 p.2
theorem tabs_same {T : List (Addr × Str)} {H H' : Hp} (t : LamX.Tabs T H) (s : Same H H') : LamX.Tabs T H' := t.ext fun b o e => s b o e
theorem tabs_nil {T : List (Addr × Str)} {H : Hp} (h : ∀ p ∈ T, H p.1 = some (.tbl #[])) : LamX.Tabs T H := fun p hp => .nil (h p hp)
end Lw

/-! ## Sx1 -/
set_option maxHeartbeats 4000000
/-! defs of a class's body that say super(): a frame with the cell of the class -/
namespace Lw
open PySem PySem.Spec PyProof.Rows L2
/-- the names of such a def -/
structure FnScopeC (N ps : List Str) (sc : Scope) : Prop where
  kind : sc.kind = .function
  co : sc.isCoroutine = false
  gen : sc.isGenerator = false
  nd : N.Nodup
  pre : N.take ps.length = ps
  par : ∀ x ∈ ps, sc.names.lookup x = some .local
  nocell : ∀ y ∈ sc.names, y.2 ≠ .cell
  free : ∀ y ∈ sc.names, y.2 = .free → y.1 = ("__class__" : Str)
abbrev envS (qual : Str) (scope : Scope) (L f : Addr) (cda cc : Addr) : Env := PySem.W.ksEnv qual scope L f (.ref cda) cc
def cxS (CX : CXT) (P : Program) (w : World) (K : PySem.W.Frag) (mg : Str → Option Value) (base : Heap) (N : List Str) (qual : Str) (scope : Scope) (f cda cc : Addr) (A : Around) (outer : List Env) (s : Shared) (H : Hp) (E : XK) : Cx where
  prog := P
  w := w
  K := K
  mg := mg
  base := base
  A := A.deeper (envS qual scope s.heap.objs.size f cda cc)
  N := N
  s_0 := s
  H_0 := H
  env := envS qual scope s.heap.objs.size f cda cc
  outer := outer
  stack := envS qual scope s.heap.objs.size f cda cc :: outer
  ex := []
  calm := true
  fn := fun _ => false
  pn := []
  xe := fun e s' => wpAny (model P w) (A.deeper (envS qual scope s.heap.objs.size f cda cc)) (leaving (envS qual scope s.heap.objs.size f cda cc) e) (fun _ s'' => CX outer H s E e s'') (fun e' s'' => CX outer H s E e' s'') s'
theorem look1 {y : Str} {c cc : Addr} (e : ([(("__class__" : Str), cc)] : List (Str × Addr)).lookup y = some c) : y = "__class__" ∧ c = cc := by
  unfold List.lookup at e
  split at e
  · rename_i h
    exact ⟨beq_iff_eq.mp h, (Option.some.inj e).symm⟩
  · cases e
theorem rev_look {α : Type} : ∀ {l : List (Str × α)} {i : Nat} {x : Str} {v : α}, (l.map (·.1)).Nodup → l[i]? = some (x, v) → l.reverse.lookup x = some v
  | [], i, x, v, _, h => by simp at h
  | (y, u) :: r, 0, x, v, hn, h => by
    cases h
    rw [List.reverse_cons, List.lookup_append]
    have : r.reverse.lookup y = none := by
      rw [List.lookup_eq_none_iff]
      intro p hp
      have hn := (List.nodup_cons.mp hn).1
      simp only [bne_iff_ne, ne_eq]
      intro e
      exact hn (List.mem_map.mpr ⟨p, List.mem_reverse.mp hp, e.symm⟩)
    rw [this]
    simp [List.lookup]
  | (y, u) :: r, i + 1, x, v, hn, h => by
    rw [List.reverse_cons, List.lookup_append]
    have := rev_look (l := r) (i := i) (List.nodup_cons.mp hn).2 h
    rw [this]
    rfl
theorem inv_startC {CX : CXT} {P : Program} {w : World} {K : PySem.W.Frag} {mg : Str → Option Value} {base : Heap} {N ps : List Str} {qual : Str} {scope : Scope} {f cda cc : Addr} {A : Around} {outer : List Env} {s : Shared} {H : Hp} {E : XK} {us : List Value} {vs : List V} {h₁ : Heap} {tk : Nat} {cu : Option Value}
    (S : FnScopeC N ps scope) (hd : A.handled = none) (e0 : Env0 P w K mg base A outer s H) (hl : vs.length = ps.length) (r : Vals vs us) (cell : base.IsCell cc cu)
    (hns : h₁.Ns s.heap.objs.size fun y => (ps.zip us).reverse.lookup y) (kp : ∀ b o, s.heap.get? b = some o → h₁.get? b = some o) :
    Inv (cxS CX P w K mg base N qual scope f cda cc A outer s H E) [] (start N vs) H { s with heap := h₁, toks := tk } := by
  have hpl : ps.length ≤ N.length := by
    have := congrArg List.length S.pre
    rw [List.length_take] at this
    omega
  obtain ⟨oc, hoc, hcd⟩ := cell
  obtain ⟨hs, hH⟩ := e0.bs cc oc hoc
  have noA : ∀ b : Addr, b ∉ (cxS CX P w K mg base N qual scope f cda cc A outer s H E).ex := fun b z => nomatch (show b ∈ ([] : List Addr) from z)
  refine ⟨⟨e0.mod, S.kind, rfl, rfl, Nat.le_refl _, fun y z c h1 h2 => (look1 h1).1.trans (look1 h2).1.symm, fun y hy => ?_, (fun y c z _ => nomatch (show false = true from z)), fun _ => hd, Around.frames_deeper e0.frames, .inr ⟨rfl, rfl⟩, fun b z => absurd z (noA b), e0.bs, e0.bsz, fun b _ _ => noA b, fun b z => absurd z (noA b), e0.funs, e0.frf⟩,
    rfl, e0.bare, Un.kept kp, ⟨_, hns, fun i y v h1 h2 h3 => ?_⟩, fun y c h => ?_, e0.hok.fresh (Nat.le_refl _), fun y c h => ?_, (fun p hp => nomatch (show p ∈ ([] : List (Addr × Obj)) from hp)), e0.hok.kept kp, ?_⟩
  · have hy : scope.names.lookup y = some .cell ∨ scope.names.lookup y = some .free := hy
    rcases hy with hy | hy
    · exact absurd rfl (S.nocell _ (PySem.mem_of_lookup hy))
    · obtain rfl : y = "__class__" := S.free _ (PySem.mem_of_lookup hy) rfl
      exact ⟨cc, rfl⟩
  · have hi : i < vs.length := by
      unfold L2.start at h2
      by_cases hi : i < vs.length
      · exact hi
      · rw [List.getElem?_append_right (by simpa using hi), List.getElem?_replicate] at h2
        split at h2 <;> cases h2
    have ha : vs[i]? = some v := by
      unfold L2.start at h2
      rw [List.getElem?_append_left (by simpa using hi), List.getElem?_map] at h2
      obtain ⟨a, e1, e2⟩ := Option.map_eq_some_iff.mp h2
      cases e2
      exact e1
    obtain ⟨u, hu, rv⟩ := r.get ha
    have hp : ps[i]? = some y := by
      rw [← S.pre, List.getElem?_take_of_lt (by omega)]
      exact h1
    have ndP : ps.Nodup := by
      rw [← S.pre]
      exact S.nd.sublist (List.take_sublist _ _)
    have lu : us.length = ps.length := r.length.symm.trans hl
    refine ⟨u, rv, .inl ⟨S.par y (List.mem_of_getElem? hp), rev_look (i := i) (by rw [List.map_fst_zip (by omega)]; exact ndP) ?_⟩⟩
    rw [List.getElem?_zip_eq_some]
    exact ⟨hp, hu⟩
  · obtain ⟨_, rfl⟩ := look1 h
    exact ⟨cu, oc, kp _ _ hs, hcd⟩
  · obtain ⟨_, rfl⟩ := look1 h
    exact hH
  · unfold L2.start
    show _ = N.length
    rw [List.length_append, List.length_map, List.length_replicate]
    omega
/-! ### statements in such a frame, told at the frame itself -/
structure PSA (X : Cx) (body : List Stmt) (st : Stmt) (t : TS) : Prop where
  run : ∀ (pins : List (Addr × Obj)) (s : Shared) (σ : L2.St) (H : Hp) (D : Ends), Inv X pins σ H s → t D σ H → _root_.PySem.wpAt (model X.prog X.w) X.A (.func body X.env) (exec st X.env) (SP X pins D) X.xe s
structure PSAs (X : Cx) (body : List Stmt) (ss : List Stmt) (t : TS) : Prop where
  run : ∀ (pins : List (Addr × Obj)) (s : Shared) (σ : L2.St) (H : Hp) (D : Ends), Inv X pins σ H s → t D σ H → _root_.PySem.wpAt (model X.prog X.w) X.A (.func body X.env) (execs ss X.env) (SP X pins D) X.xe s
section
variable {X : Cx} {body : List Stmt} {st : Stmt} {ss : List Stmt} {t t2 : TS}
theorem psa_of (h : PS X st t) : PSA X body st t := ⟨fun pins s σ H D I q => wpAt_of_wpAny (h.run pins s σ H D I q)⟩
theorem psas_of (h : PSs X ss t) : PSAs X body ss t := ⟨fun pins s σ H D I q => wpAt_of_wpAny (h.run pins s σ H D I q)⟩
theorem psas_cons (h : PSA X body st t) (r : PSAs X body ss t2) : PSAs X body (st :: ss) (tSeq t t2) := ⟨fun pins s σ H D I q => by
  refine PySem.ks_wpAt_execs_cons (PySem.ks_wpAt_mono (h.run pins s σ H _ I q) (fun fl s' hs => ?_) fun _ _ z => z)
  cases fl with
  | next =>
    obtain ⟨σ', H', J, q'⟩ := hs
    exact r.run pins s' σ' H' D J q'
  | brk => exact hs
  | cont => exact hs
  | ret u => exact hs⟩
end
end Lw

/-! ## Sx2 -/
set_option maxHeartbeats 4000000
/-! super().__init__(e, ..) -/
namespace Lw
open PySem PySem.Spec PyProof.Rows L2
/-- what the head tells of a def that says super(): itself, its code object, the cell of its class D -/
structure SupK (P : Program) (K : PySem.W.Frag) (f cda cc D : Addr) (fd : FuncData) : Prop where
  lk : ∃ oc od osl, K.lookup f = some ⟨oc, od, .func fd, osl⟩
  par : ∃ ar, (fd.params.posonlyargs ++ fd.params.args).head? = some ar ∧ ar.arg = ("self" : Str)
  cod : ∃ ccl cdd vs ccs file tf, K.lookup cda = some ⟨ccl, cdd, .fields vs, ccs⟩ ∧ vs[2]? = some (.str file tf) ∧ ((P.main.file : Str) == file) = true
  cel : ∃ cl cld csl, K.lookup cc = some ⟨cl, cld, .cell (some (.ref D)), csl⟩
  cls : ∃ cd, PySem.W.clsIn K D = some cd
  top : (P.main.scope.names.lookup ("super" : Str)).isSome = false
  st : PySem.W.nsIn K cStatics "thirdparty.any" = some none
/-- behind D, the class C finds f2 as its __init__ -/
structure SupTo (K : PySem.W.Frag) (D C f2 : Addr) : Prop where
  sub : PySem.W.mroIn K C (.ref D) = some true
  find : PySem.W.ks_superIn K C D "__init__" = some (some (.ref f2))
  ty : PySem.W.typeIn K (.ref f2) = some (.type "function")
  fn : PySem.W.fnIn K f2 = true
def tSup (K : PySem.W.Frag) (D f2 : Addr) (sp : Sp) (t : TA) : TS := fun D0 σ H => ∃ a C dx fs, σ[0]? = some (some (.ref a)) ∧ H a = some (.ins C dx fs) ∧ SupTo K D C f2 ∧ t σ H fun vs H1 => sp (.ref a :: vs) H1 (fun _ H2 => D0.nx σ H2) E0
section
variable {X : Cx} {body : List Stmt} {qual : Str} {scope : Scope} {L f cda cc D f2 : Addr} {fd fd2 : FuncData}
/-- the super object of the first parameter, and its __init__ bound -/
theorem sup_bound {p0 p1 : Pos} {whole : Sem Value} {pl : Sem Bool} {pins : List (Addr × Obj)} {σ : L2.St} {H : Hp} {s : Shared} {a C dx : Addr} {fs : List (Str × V)} {R : Value × List Value → Shared → Prop} (hX : X.env = envS qual scope L f cda cc) (S : SupK X.prog X.K f cda cc D fd) (T : SupTo X.K D C f2)
    (hm : X.mg "super" = none) (hks : scope.names.lookup ("super" : Str) = some .globalImplicit) (hkc : scope.names.lookup ("__class__" : Str) = some .free) (hka : scope.names.lookup ("self" : Str) = some .local) (hN : X.N[0]? = some ("self" : Str))
    (I : Inv X pins σ H s) (hs : σ[0]? = some (some (.ref a))) (ha : H a = some (.ins C dx fs))
    (h : ∀ q h' tk, Inv X pins σ H { s with heap := h', toks := tk } → h'.get? q = some (PySem.W.methodObj (.ref f2) (.ref a)) → H q = none → q ≠ X.env.locals → q ∉ X.fs → X.base.get? q = none → R (.ref q, []) { s with heap := h', toks := tk }) :
    _root_.PySem.wpAt (model X.prog X.w) X.A (.func body X.env) (attributeBase (.Call (.Name "super" p0) [] [] p1) "__init__" X.env whole) (fun ov s₁ => wpAny (model X.prog X.w) X.A (getMethod ov "__init__" pl) R X.xe s₁) X.xe s := by
  obtain ⟨oc, od, osl, lk⟩ := S.lk
  obtain ⟨ar, par, ear⟩ := S.par
  obtain ⟨ccl, cdd, us, ccs, file, tf, lc, hus, hfile⟩ := S.cod
  obtain ⟨cl, cld, csl, lcell⟩ := S.cel
  obtain ⟨cdD, hcd⟩ := S.cls
  obtain ⟨m, hn, hl⟩ := I.loc
  obtain ⟨mb, hb1, hb2⟩ := I.mod.blt
  obtain ⟨ox, odx, J⟩ := is_inst I ⟨dx, fs, ha⟩
  have KX := I.kIn
  have gl := I.mod.glob.keeps I.bk
  have bl := hb1.keeps I.bk
  have kind := I.ok.kind
  obtain ⟨u, ru, look⟩ := hl 0 "self" (.ref a) hN hs (.inl (by rw [hX]; exact hka))
  cases (show u = Value.ref a from ru)
  have hself : m "self" = some (.ref a) := by
    rcases look with ⟨_, e⟩ | ⟨k, _⟩
    · exact e
    · rw [hX] at k
      rcases k with k | k
      · exact nomatch hka.symm.trans k
      · exact nomatch hka.symm.trans k
  obtain ⟨oD, hD1, hD2⟩ : ∃ oD, s.heap.get? D = some oD ∧ oD.data = .cls cdD := by
    unfold PySem.W.clsIn at hcd
    split at hcd
    · rename_i c d cd' sl ho
      cases hcd
      exact ⟨_, KX _ _ ho, rfl⟩
    · cases hcd
  have fromI : ∀ {h' : Heap} {t' : Nat}, (∀ b o, s.heap.get? b = some o → h'.get? b = some o) → Inv X pins σ H { s with heap := h', toks := t' } := fun k => I.kept k
  obtain ⟨hh, g, d, t, os⟩ := s
  rw [hX] at hn kind ⊢
  refine PySem.ks_wpAt_super_base (env := envS qual scope L f cda cc) hks hkc (by decide) rfl (KX _ _ lk) rfl par rfl (KX _ _ lc) rfl hus hfile S.top ?_
  refine PySem.W.ks_loadName_global kind hks (Calls.loadGlobal_builtin (env := envS qual scope L f cda cc) gl hm bl ((hb2 _ (by decide)).trans (by decide +kernel)) ⟨rfl, ?_⟩)
  refine wpAny_loadName_free (c := cc) kind hkc rfl ⟨_, KX _ _ lcell, rfl⟩ ?_
  rw [ear]
  refine wpAny_loadName_local kind hka hn hself ?_
  refine PySem.ks_wpAny_isType_cls hD1 hD2 ⟨rfl, ?_⟩
  refine PySem.ks_wpAny_call_super hD1 hD2 J.at_ J.cls (fun c e => ?_) (PySem.W.looks_mroIn KX T.sub) (fun h' e k => ?_)
  · have := J.no
    unfold PySem.W.notCls at this
    rw [e] at this
    exact Bool.noConfusion this
  · have KX' := KX.keeps k
    have I1 : Inv X pins σ H ⟨h', g, d, t, os⟩ := fromI k
    have hf := T.find
    cases hc : PySem.W.clsIn X.K C with
    | none =>
      unfold PySem.W.ks_superIn at hf
      rw [hc] at hf
      cases hf
    | some cdC =>
      unfold PySem.W.ks_superIn at hf
      rw [hc] at hf
      obtain ⟨of, hof, hofc⟩ : ∃ of, h'.get? f2 = some of ∧ of.cls = .type "function" := by
        have ht : (X.K.lookup f2).map (·.cls) = some (.type "function") := T.ty
        obtain ⟨of, z, e2⟩ := Option.map_eq_some_iff.mp ht
        exact ⟨of, KX' _ _ z, e2⟩
      have neC : a ≠ C := fun q => by
        subst q
        unfold PySem.W.clsIn at hc
        split at hc
        · rename_i ho
          have e3 := KX _ _ ho
          rw [J.at_] at e3
          cases e3
          exact Bool.noConfusion J.no
        · cases hc
      refine PySem.ks_wpAny_getMethod_super e (PySem.W.looks_opaque KX' S.st) (l₀ := cdC.mro) (fun A Q E s k q => wpAny_bind ((PySem.W.looks_clsIn KX' hc) A _ E s k (wpAny_pure q))) rfl KX' hf hof hofc neC (by decide) ?_
      refine h h'.objs.size (h'.push (PySem.W.methodObj (.ref f2) (.ref a))) (t + 1) (fromI fun b o e => Heap.get?_push_of_some _ (k b o e)) (Heap.get?_push_at rfl rfl) (I1.hok.fresh (Nat.le_refl _)) (fun q => ?_) (I1.nofs (Nat.le_refl _)) ?_
      · have := I1.lt
        rw [← q] at this
        exact absurd this (Nat.lt_irrefl _)
      · cases z : X.base.get? h'.objs.size with
        | none => rfl
        | some o => exact absurd (Heap.lt_size (I1.bk _ _ z)) (Nat.lt_irrefl _)
theorem pin_put {pins : List (Addr × Obj)} {σ : L2.St} {H : Hp} {s : Shared} {q : Addr} {o : Obj} (I : Inv X pins σ H s) (hq : s.heap.get? q = some o) (h1 : H q = none) (h2 : q ≠ X.env.locals) (h3 : q ∉ X.fs) (h4 : ∀ v, o.data ≠ .cell v) : Inv X ((q, o) :: pins) σ H s := by
  have hp : ∀ p ∈ X.pn ++ ((q, o) :: pins), s.heap.get? p.1 = some p.2 ∧ H p.1 = none ∧ p.1 ≠ X.env.locals ∧ p.1 ∉ X.fs ∧ ∀ v, p.2.data ≠ .cell v := fun p hp => by
    rcases List.mem_append.mp hp with hp | hp
    · exact I.pin p (List.mem_append_left _ hp)
    · rcases List.mem_cons.mp hp with rfl | hp
      · exact ⟨hq, h1, h2, h3, h4⟩
      · exact I.pin p (List.mem_append_right _ hp)
  exact { I with pin := hp }
theorem pin_off {pins : List (Addr × Obj)} {σ : L2.St} {H : Hp} {s : Shared} {q : Addr × Obj} (I : Inv X (q :: pins) σ H s) : Inv X pins σ H s := by
  have hp : ∀ p ∈ X.pn ++ pins, s.heap.get? p.1 = some p.2 ∧ H p.1 = none ∧ p.1 ≠ X.env.locals ∧ p.1 ∉ X.fs ∧ ∀ v, p.2.data ≠ .cell v := fun p hp => by
    rcases List.mem_append.mp hp with hp | hp
    · exact I.pin p (List.mem_append_left _ hp)
    · exact I.pin p (List.mem_append_right _ (List.mem_cons_of_mem _ hp))
  exact { I with pin := hp }
theorem pin_at {pins : List (Addr × Obj)} {σ : L2.St} {H : Hp} {s : Shared} {q : Addr × Obj} (I : Inv X (q :: pins) σ H s) : s.heap.get? q.1 = some q.2 := (I.pin q (List.mem_append_right _ List.mem_cons_self)).1
variable {k j : Nat} {ps : List Str} {sp : Sp} {e : Expr} {es : List Expr} {t : TA}
/-- what the scope, the names and the head tell of such a frame -/
structure SupX (X : Cx) (qual : Str) (scope : Scope) (L f cda cc D : Addr) (fd : FuncData) : Prop where
  env : X.env = envS qual scope L f cda cc
  k : SupK X.prog X.K f cda cc D fd
  mg : X.mg "super" = none
  s : scope.names.lookup ("super" : Str) = some .globalImplicit
  c : scope.names.lookup ("__class__" : Str) = some .free
  a : scope.names.lookup ("self" : Str) = some .local
  n : X.N[0]? = some ("self" : Str)
/-- super().__init__(e, ..), which may raise what E tells -/
theorem psa_sup {R : TS} {p0 p1 apos pos pos' : Pos} (Z : SupX X qual scope L f cda cc D fd) (ha : PA X (e :: es) t)
    (hi : interactive X.env = false := by rfl) (hsw : swapsWith (.Call (.Attribute (.Call (.Name "super" p0) [] [] p1) "__init__" apos) (e :: es) [] pos) none pos'.line X.env = pure false := by rfl)
    (hev : ∃ pl, eval (.Call (.Attribute (.Call (.Name "super" p0) [] [] p1) "__init__" apos) (e :: es) [] pos) X.env = (do
      let ov ← attributeBase (.Call (.Name "super" p0) [] [] p1) "__init__" X.env (eval (.Call (.Name "super" p0) [] [] p1) X.env)
      standAt apos.atName
      let (f, first) ← holding [ov] (getMethod ov "__init__" pl)
      callWith pos f first (backTo pos (starEach (e :: es) X.env)) []) := by exact ⟨_, rfl⟩) (hst : starEach (e :: es) X.env = (false, eval e X.env) :: starEach es X.env := by rfl) (hpl : (backTo pos (starEach es X.env)).any (·.1) = false := by rfl)
    (run : ∀ (D0 : Ends) (σ : L2.St) (H : Hp), R D0 σ H → ∃ a C dx fs, σ[0]? = some (some (.ref a)) ∧ H a = some (.ins C dx fs) ∧ SupTo X.K D C f2 ∧ ∃ Qa : List V → Hp → Prop, t σ H Qa ∧ ∀ (vs : List V) (H1 : Hp), Qa vs H1 → ∀ (pins : List (Addr × Obj)) (s : Shared) (us : List Value), Inv X pins σ H1 s → Vals vs us →
      codeAny (model X.prog X.w) X.A (.call (.ref f2) ⟨.ref a :: us, []⟩) (fun r s' => match r with | .ok (.ret _) => ∃ H2, Inv X pins σ H2 s' ∧ D0.nx σ H2 | .ok _ => False | .error e => X.xe e s') s) :
    PSA X body (.Expr (.Call (.Attribute (.Call (.Name "super" p0) [] [] p1) "__init__" apos) (e :: es) [] pos) pos') R := by
  refine ⟨fun pins s σ H D0 I q0 => ?_⟩
  obtain ⟨a, C, dx, fs, hs, hi2, T, Qa, q, fin⟩ := run D0 σ H q0
  obtain ⟨pl, hev⟩ := hev
  refine PySem.ks_wpAt_Expr_any (PySem.ks_wpAt_MethodCall (pl := pl) (sup_bound Z.env Z.k T Z.mg Z.s Z.c Z.a Z.n I hs hi2 fun qa h' tk I1 hq h1 h2 h3 h4 => ?_) hev) hi hsw
  have I2 := pin_put (o := PySem.W.methodObj (.ref f2) (.ref a)) I1 hq h1 h2 h3 (fun v z => by cases z)
  refine PySem.W.callWith_M (h₀ := X.base) (L := X.env.locals) (news := [(qa, PySem.W.methodObj (.ref f2) (.ref a))]) I.ok.mod.kin (fun p hp => by rw [List.mem_singleton.mp hp]; exact ⟨hq, h2, h4⟩) (List.mem_singleton.mpr rfl) T.fn (thn (ha.run pos _ _ σ H _ I2 q) fun us s1 ⟨vs, H1, I3, r, q'⟩ => ⟨⟨pin_at I3, I3.kIn⟩, ?_⟩) hst hpl
  refine wpAny_call (PySem.ks_codeAny_call_bound (pin_at I3) (codeAny_mono (fin vs H1 q' _ s1 us I3 r) fun r s' z => ?_))
  match r, z with
  | .error e, z => exact z
  | .ok (.ret u), ⟨H2, J, z⟩ => exact ⟨σ, H2, pin_off J, z⟩
theorem psa_superG {p0 p1 apos pos pos' : Pos} (F : FnG X.prog X.w X.K X.mg X.base k f2 fd2 ps sp) (hb : ∀ us : List Value, us.length = ps.length → bindArgs fd2 ⟨us, []⟩ = pure (ps.zip us)) (hr : RoomG j X.A) (hk : k ≤ j) (Z : SupX X qual scope L f cda cc D fd) (ha : PA X (e :: es) t)
    (hi : interactive X.env = false := by rfl) (hsw : swapsWith (.Call (.Attribute (.Call (.Name "super" p0) [] [] p1) "__init__" apos) (e :: es) [] pos) none pos'.line X.env = pure false := by rfl)
    (hev : ∃ pl, eval (.Call (.Attribute (.Call (.Name "super" p0) [] [] p1) "__init__" apos) (e :: es) [] pos) X.env = (do
      let ov ← attributeBase (.Call (.Name "super" p0) [] [] p1) "__init__" X.env (eval (.Call (.Name "super" p0) [] [] p1) X.env)
      standAt apos.atName
      let (f, first) ← holding [ov] (getMethod ov "__init__" pl)
      callWith pos f first (backTo pos (starEach (e :: es) X.env)) []) := by exact ⟨_, rfl⟩) (hst : starEach (e :: es) X.env = (false, eval e X.env) :: starEach es X.env := by rfl) (hpl : (backTo pos (starEach es X.env)).any (·.1) = false := by rfl) :
    PSA X body (.Expr (.Call (.Attribute (.Call (.Name "super" p0) [] [] p1) "__init__" apos) (e :: es) [] pos) pos') (tSup X.K D f2 sp t) :=
  psa_sup Z ha hi hsw hev hst hpl fun D0 σ H ⟨a, C, dx, fs, hs, hi2, T, q⟩ => ⟨a, C, dx, fs, hs, hi2, T, _, q, fun vs H1 q1 pins s us I r => by
    refine codeAny_mono (run_g F (hr.mono hk) (hb (.ref a :: us) ?_) I (show Vals (.ref a :: vs) (.ref a :: us) from .cons rfl r) q1) fun r s' z => ?_
    · have e1 := F.len _ _ _ _ q1
      have e2 := r.length
      simp only [List.length_cons] at e1 ⊢
      omega
    · match r, z with
      | .error e, z => exact z
      | .ok (.ret u), ⟨v, H2, J, _, z⟩ => exact ⟨H2, J, z⟩⟩
/-- one that may raise -/
def tSupX (K : PySem.W.Frag) (D f2 : Addr) (sp : Sp) (W : WX) (t : TA) : TS := fun D0 σ H => ∃ a C dx fs, σ[0]? = some (some (.ref a)) ∧ H a = some (.ins C dx fs) ∧ SupTo K D C f2 ∧ t σ H fun vs H1 => sp (.ref a :: vs) H1 (fun _ H2 => D0.nx σ H2) (WX.at_ W σ)
theorem psa_superX {W : WX} {p0 p1 apos pos pos' : Pos} (F : FnX X.prog X.w X.K X.mg X.base k f2 fd2 ps sp) (hb : ∀ us : List Value, us.length = ps.length → bindArgs fd2 ⟨us, []⟩ = pure (ps.zip us)) (hr : RoomG j X.A) (hk : k ≤ j) (TW : L2N.Takes X W) (Z : SupX X qual scope L f cda cc D fd) (ha : PA X (e :: es) t)
    (hi : interactive X.env = false := by rfl) (hsw : swapsWith (.Call (.Attribute (.Call (.Name "super" p0) [] [] p1) "__init__" apos) (e :: es) [] pos) none pos'.line X.env = pure false := by rfl)
    (hev : ∃ pl, eval (.Call (.Attribute (.Call (.Name "super" p0) [] [] p1) "__init__" apos) (e :: es) [] pos) X.env = (do
      let ov ← attributeBase (.Call (.Name "super" p0) [] [] p1) "__init__" X.env (eval (.Call (.Name "super" p0) [] [] p1) X.env)
      standAt apos.atName
      let (f, first) ← holding [ov] (getMethod ov "__init__" pl)
      callWith pos f first (backTo pos (starEach (e :: es) X.env)) []) := by exact ⟨_, rfl⟩) (hst : starEach (e :: es) X.env = (false, eval e X.env) :: starEach es X.env := by rfl) (hpl : (backTo pos (starEach es X.env)).any (·.1) = false := by rfl) :
    PSA X body (.Expr (.Call (.Attribute (.Call (.Name "super" p0) [] [] p1) "__init__" apos) (e :: es) [] pos) pos') (tSupX X.K D f2 sp W t) :=
  psa_sup Z ha hi hsw hev hst hpl fun D0 σ H ⟨a, C, dx, fs, hs, hi2, T, q⟩ => ⟨a, C, dx, fs, hs, hi2, T, _, q, fun vs H1 q1 pins s us I r => by
    refine codeAny_mono (run_x F (hr.mono hk) rfl TW (hb (.ref a :: us) ?_) I (show Vals (.ref a :: vs) (.ref a :: us) from .cons rfl r) q1) fun r s' z => ?_
    · have e1 := F.len _ _ _ _ q1
      have e2 := r.length
      simp only [List.length_cons] at e1 ⊢
      omega
    · match r, z with
      | .error e, z => exact z
      | .ok (.ret u), ⟨v, H2, J, _, z⟩ => exact ⟨H2, J, z⟩⟩
end
end Lw

/-! ## Sx3 -/
set_option maxHeartbeats 4000000
/-! promises of defs that say super(), by their body; C(e, ..) -/
namespace Lw
open PySem PySem.Spec PyProof.Rows L2
/-- such a def, as the head tells it -/
structure FunC (P : Program) (K : PySem.W.Frag) (x qual : Str) (params : Arguments) (body : List Stmt) (scope : Scope) (f cda cc D : Addr) (fd : FuncData) : Prop where
  ex : ∃ (oc : Value) (od : Option Addr) (kV doc pm : Value) (an : Option Addr) (ct : Value) (osl : Array (Option Value)),
    fd = PySem.W.ksFn x qual params body scope .none kV doc pm an (.ref cda) ct cc ∧ K.lookup f = some ⟨oc, od, .func fd, osl⟩ ∧ PySem.W.codeIn K (.ref cda) qual = true
  kp : PySem.W.keepIn K (.ref f) = true
  sup : SupK P K f cda cc D fd
theorem FunC.bound {P : Program} {K : PySem.W.Frag} {x qual : Str} {params : Arguments} {body : List Stmt} {scope : Scope} {f cda cc D : Addr} {fd : FuncData} (F : FunC P K x qual params body scope f cda cc D fd) {p : FuncData → Prop}
    (h : ∀ kV doc pm an ct, p (PySem.W.ksFn x qual params body scope .none kV doc pm an (.ref cda) ct cc)) : p fd := by
  obtain ⟨_, _, kV, doc, pm, an, ct, _, e, _, _⟩ := F.ex
  rw [e]
  exact h kV doc pm an ct
/-- a def by place alone -/
def FnP (P : Program) (w : World) (K : PySem.W.Frag) (mg : Str → Option Value) (base : Heap) (CX : CXT) (k : Nat) (f : Addr) (sp : Sp) : Prop :=
  ∀ (A : Around) (outer : List Env) (s : Shared) (H : Hp) (us : List Value) (vs : List V) (Q : VK) (E : XK), RoomG k A → Env0 P w K mg base A outer s H → Vals vs us → sp vs H Q E →
    codeAny (model P w) A (.call (.ref f) ⟨us, []⟩) (CR CX outer P w H s Q E) s
section
variable {CX : CXT} {P : Program} {w : World} {K : PySem.W.Frag} {mg : Str → Option Value} {base : Heap} {k : Nat} {f cda cc D : Addr} {fd : FuncData} {x qual : Str} {params : Arguments} {body : List Stmt} {scope : Scope} {N ps : List Str} {sp : Sp}
theorem FnP.mono {j : Nat} (F : FnP P w K mg base CX j f sp) (h : j ≤ k) : FnP P w K mg base CX k f sp := fun A outer s H us vs Q E hr => F A outer s H us vs Q E (hr.mono h)
theorem FnG.p (F : FnG P w K mg base k f fd ps sp) (hb : ∀ us : List Value, us.length = ps.length → bindArgs fd ⟨us, []⟩ = pure (ps.zip us)) : FnP P w K mg base CX0 k f (fun vs H Q _ => sp vs H Q E0) :=
  fun A outer s H us vs Q E hr he hv hs => codeAny_mono (F.run A outer s H ⟨us, []⟩ us vs Q hr he (.of_eq (hb us (by rw [← hv.length]; exact F.len _ _ _ _ hs))) hv hs) fun r s' z => by
    cases r with
    | error e => exact False.elim z
    | ok fl =>
      cases fl with
      | ret u => exact z
      | next => exact False.elim z
      | brk => exact False.elim z
      | cont => exact False.elim z
theorem FnX.p (F : FnX P w K mg base k f fd ps sp) (hb : ∀ us : List Value, us.length = ps.length → bindArgs fd ⟨us, []⟩ = pure (ps.zip us)) : FnP P w K mg base (L2N.CX P w) k f sp :=
  fun A outer s H us vs Q E hr he hv hs => F.run A outer s H ⟨us, []⟩ us vs Q E hr he (.of_eq (hb us (by rw [← hv.length]; exact F.len _ _ _ _ hs))) hv hs
theorem run_bndC {A : Around} {outer : List Env} {s : Shared} {H : Hp} {args : Args} {Q : VK} {E : XK} {G : List V → Hp → Prop} (F : FunC P K x qual params body scope f cda cc D fd) (S : FnScopeC N ps scope) (hr : RoomG (k + 1) A) (e0 : Env0 P w K mg base A outer s H)
    (hb : StX.Bnd CX P w K mg base fd args ps A outer s H E G)
    (hbody : ∀ (s2 : Shared) (H2 : Hp) (vs : List V), G vs H2 → RoomG k (A.deeper (envS qual scope s2.heap.objs.size f cda cc)) →
      ∃ t, PSAs (cxS CX P w K mg base N qual scope f cda cc A outer s2 H2 E) body body t ∧ t { nx := fun _ H' => Q .non H', rt := Q } (start N vs) H2) : codeAny (model P w) A (.call (.ref f) args) (CR CX outer P w H s Q E) s := by
  obtain ⟨oc, od, kV, doc, pm, an, ct, osl, rfl, lk, hcd⟩ := F.ex
  obtain ⟨ccl, ccd, ccs, hcell⟩ := F.sup.cel
  have KX : K.In s.heap := e0.mod.kin.keeps fun b o e => (e0.bs b o e).1
  refine codeAny_call_function hr.rm.depth (KX _ _ lk) rfl S.co S.gen rfl (PySem.W.codeRec_of KX hcd) ?_
  refine hb _ _ _ fun s2 H2 vs us e2 un ho hx r hl g => ?_
  have lim : s2.heap.NoLimit := e0.mod.nolimit.keeps fun b o e => (e2.bs b o e).1
  have cell : base.IsCell cc (some (.ref D)) := ⟨_, e0.mod.kin _ _ hcell, rfl⟩
  refine wpAny_newFunctionEnv (s := s2) S.nocell (fun y hy => S.par y.1 (List.of_mem_zip hy).1) (fun h₀ hns₀ hsb₀ => ⟨lim.fresh _ hsb₀, PySem.ks_codeAny_funcAt ?_⟩) S.kind
  obtain ⟨t, ht, hq⟩ := hbody s2 H2 vs g (hr.deeper _)
  have I : Inv (cxS CX P w K mg base N qual scope f cda cc A outer s2 H2 E) [] (start N vs) H2 _ := inv_startC (tk := s2.toks + (ps.zip us).length) S hr.rm.hd e2 hl r cell hns₀ fun b o e => hsb₀.extBut b o (Nat.ne_of_lt (Heap.lt_size e)) (Heap.get?_push_of_some _ e)
  refine PySem.ks_wpAt_mono (ht.run [] _ _ _ _ I hq) (fun fl s' hs => ?_) fun e s' hs => ?_
  · have fin : ∀ {σ' : L2.St} {H' : Hp} {v' : V} {u' : Value}, Inv (cxS CX P w K mg base N qual scope f cda cc A outer s2 H2 E) [] σ' H' s' → RelV v' u' → Q v' H' → CE outer P w H s Q u' s' :=
      fun {σ' H' v' u'} J rv' q => ⟨v', H', J.os.trans ho, J.bare, un.trans J.base, J.hok, rv', q⟩
    cases fl with
    | ret u' =>
      obtain ⟨v', σ', H', J, rv', q⟩ := hs
      exact fin J rv' q
    | next =>
      obtain ⟨σ', H', J, q⟩ := hs
      exact fin (v' := V.non) (u' := Value.none) J rfl q
    | brk =>
      obtain ⟨_, _, _, q⟩ := hs
      exact False.elim q
    | cont =>
      obtain ⟨_, _, _, q⟩ := hs
      exact False.elim q
  · exact wpAny_mono hs (fun _ s'' z => hx e s'' z) fun e' s'' z => hx e' s'' z
/-- what is bound stands as it is -/
theorem bnd_eq {A : Around} {outer : List Env} {s : Shared} {H : Hp} {args : Args} {E : XK} {us : List Value} {vs : List V} (e0 : Env0 P w K mg base A outer s H) (b : BindsTo s fd args (ps.zip us)) (r : Vals vs us) (hl : vs.length = ps.length) :
    StX.Bnd CX P w K mg base fd args ps A outer s H E (fun xs H2 => xs = vs ∧ H2 = H) := fun A' Ex Q h => b _ _ _ _ (h s H vs us e0 Un.refl rfl (fun _ _ z => z) r hl ⟨rfl, rfl⟩)
theorem okGC (F : FunC P K x qual params body scope f cda cc D fd) (S : FnScopeC N ps scope) (len : ∀ vs H Q E, sp vs H Q E → vs.length = ps.length)
    (hbody : ∀ (A : Around) (outer : List Env) (s : Shared) (H : Hp) (vs : List V) (Q : VK), RoomG k (A.deeper (envS qual scope s.heap.objs.size f cda cc)) → sp vs H Q E0 →
      ∃ t, PSAs (cxS CX0 P w K mg base N qual scope f cda cc A outer s H E0) body body t ∧ t { nx := fun _ H' => Q .non H', rt := Q } (start N vs) H) : FnG P w K mg base (k + 1) f fd ps sp :=
  ⟨len, fun A outer s H args us vs Q hr e0 hb r hsp => run_bndC F S hr e0 (bnd_eq e0 hb r (len _ _ _ _ hsp)) fun s2 H2 xs ⟨e1, e2⟩ hr' => by
    subst e1 e2
    exact hbody A outer s2 _ _ Q hr' hsp⟩
theorem okXC (F : FunC P K x qual params body scope f cda cc D fd) (S : FnScopeC N ps scope) (len : ∀ vs H Q E, sp vs H Q E → vs.length = ps.length)
    (hbody : ∀ (A : Around) (outer : List Env) (s : Shared) (H : Hp) (vs : List V) (Q : VK) (E : XK), RoomG k (A.deeper (envS qual scope s.heap.objs.size f cda cc)) → sp vs H Q E →
      ∃ t, PSAs (cxS (L2N.CX P w) P w K mg base N qual scope f cda cc A outer s H E) body body t ∧ t { nx := fun _ H' => Q .non H', rt := Q } (start N vs) H) : FnX P w K mg base (k + 1) f fd ps sp :=
  ⟨len, fun A outer s H args us vs Q E hr e0 hb r hsp => run_bndC F S hr e0 (bnd_eq e0 hb r (len _ _ _ _ hsp)) fun s2 H2 xs ⟨e1, e2⟩ hr' => by
    subst e1 e2
    exact hbody A outer s2 _ _ Q E hr' hsp⟩
/-- def f(a, .., *v) that says super() -/
theorem fn_starC {pv : Str} (F : FunC P K x qual params body scope f cda cc D fd) (S : FnScopeC N (ps ++ [pv]) scope) (hCX : StX.CXUp CX)
    (hb : ∀ us rest : List Value, us.length = ps.length → bindArgs fd ⟨us ++ rest, []⟩ = (newTuple rest >>= fun t => pure (ps.zip us ++ [(pv, t)])))
    (hbody : ∀ (A : Around) (outer : List Env) (s : Shared) (H : Hp) (vs : List V) (Q : VK) (E : XK), RoomG k (A.deeper (envS qual scope s.heap.objs.size f cda cc)) → sp vs H Q E →
      ∃ t, PSAs (cxS CX P w K mg base N qual scope f cda cc A outer s H E) body body t ∧ t { nx := fun _ H' => Q .non H', rt := Q } (start N vs) H) :
    FnP P w K mg base CX (k + 1) f (fun vs H Q E => ∃ ws rest, vs = ws ++ rest ∧ ws.length = ps.length ∧ rest.length ≤ sizeLine ∧ ∀ p, H p = Option.none → sp (ws ++ [V.ref p]) (upd H p (.tup rest)) Q E) := by
  intro A outer s H us vs Q E hr e0 r hsp
  obtain ⟨ws, rest, ev, hl, hz, hq⟩ := hsp
  subst ev
  obtain ⟨u1, u2, eu, r1, r2⟩ := StX.vals_split r
  subst eu
  have hn : H s.heap.objs.size = Option.none := e0.hok.fresh (Nat.le_refl _)
  have hl1 : u1.length = ps.length := by rw [← r1.length]; exact hl
  have hl2 : u2.length ≤ sizeLine := by rw [← r2.length]; exact hz
  refine run_bndC F S hr e0 (G := fun xs H2 => ∃ p, H p = Option.none ∧ xs = ws ++ [V.ref p] ∧ H2 = upd H p (.tup rest)) (fun A' Ex Q' h => ?_) fun s2 H2 xs ⟨p, hp, ex, eH⟩ hr' => ?_
  · rw [hb u1 u2 hl1]
    refine wpAny_bind (wpAny_newTuple (wpAny_pure ?_) hl2)
    have new : ObjOk P w (upd H s.heap.objs.size (.tup rest)) (s.heap.push ({ cls := .type "tuple", data := .seq u2.toArray } : Obj)) s.heap.objs.size (.tup rest) := ⟨hz, u2, r2, ⟨_, Heap.get?_push_size _ rfl, rfl, _, rfl⟩⟩
    have un := StX.un_laid (fs := frs outer) (s := s) (o := ({ cls := .type "tuple", data := .seq u2.toArray } : Obj)) (u := .tup rest) hn
    have z := h _ _ (ws ++ [V.ref s.heap.objs.size]) (u1 ++ [Value.ref s.heap.objs.size]) (StX.env0_laid e0 new) un rfl (fun e s' => hCX outer s H _ _ E e s' un (fun b o q => Heap.get?_push_of_some _ q) rfl) (r1.append (.cons rfl .nil))
      (by rw [List.length_append, List.length_append, hl] <;> rfl) ⟨_, hn, rfl, rfl⟩
    rw [List.zip_append hl1.symm] at z
    exact z
  · subst ex eH
    exact hbody A outer s2 _ _ Q E hr' (hq p hp)
end
/-! ### C(e, ..), where no guard is set -/
def tMakeP (C : Addr) (sp : Sp) (t : TA) : TE := fun σ H Q => t σ H fun vs H1 => ∀ x dx, H1 x = Option.none → H1 dx = Option.none → dx ≠ x → sp (V.ref x :: vs) (upd (upd H1 dx (.own x)) x (.ins C dx [])) (fun v H2 => v = .non ∧ Q (.ref x) H2) E0
/-- a class by the promise of its __init__ -/
structure MkP (P : Program) (w : World) (K : PySem.W.Frag) (mg : Str → Option Value) (base : Heap) (k : Nat) (x : Str) (C : Addr) (sp : Sp) : Prop where
  ex : ∃ f : Addr, Mk K C f ∧ FnP P w K mg base CX0 k f sp ∧ mg x = some (.ref C)
section
variable {X : Cx} {k j : Nat} {f C : Addr} {sp : Sp} {x : Str} {e : Expr} {es : List Expr} {t : TA} {p pos : Pos}
theorem run_makeP {pins : List (Addr × Obj)} {σ : L2.St} {H : Hp} {s : Shared} {Q : VK} {us : List Value} {vs : List V} (M : Mk X.K C f) (F : FnP X.prog X.w X.K X.mg X.base CX0 k f sp) (hr : RoomG (k + 1) X.A) (I : Inv X pins σ H s) (r : Vals vs us)
    (h : ∀ x dx, H x = Option.none → H dx = Option.none → dx ≠ x → sp (V.ref x :: vs) (upd (upd H dx (.own x)) x (.ins C dx [])) (fun v H2 => v = .non ∧ Q (.ref x) H2) E0) :
    wpAny (model X.prog X.w) X.A (call (.ref C) us) (EP X pins σ Q) X.xe s := by
  have hq := h (s.heap.objs.size + 1) s.heap.objs.size (I.hok.fresh (Nat.le_succ _)) (I.hok.fresh (Nat.le_refl _)) (Nat.ne_of_lt (Nat.lt_succ_self _))
  have I2 := Inv.made (C := C) I
  have r2 : Vals (V.ref (s.heap.objs.size + 1) :: vs) (Value.ref (s.heap.objs.size + 1) :: us) := .cons rfl r
  refine wpAny_call (make_map (f := f) I.kIn M.makes M.init (beq_iff_eq.mp M.fn) (codeAny_mono (F _ X.stack _ _ (Value.ref (s.heap.objs.size + 1) :: us) _ _ E0 (hr.make C us []) (I2.env0.make C us []) r2 hq) fun r s' hq' => ?_))
  cases r with
  | error e => exact False.elim hq'
  | ok fl =>
    cases fl with
    | ret u =>
      obtain ⟨v, H', I3, rv, ev, q3⟩ := I2.after hq'
      subst ev
      exact ⟨rv, ⟨V.ref (s.heap.objs.size + 1), H', I3, rfl, q3⟩⟩
    | next => exact False.elim hq'
    | brk => exact False.elim hq'
    | cont => exact False.elim hq'
theorem pe_makeP (M : MkP X.prog X.w X.K X.mg X.base k x C sp) (hr : RoomG j X.A) (hk : k + 1 ≤ j) (hg : Gl X x) (ha : PA X (e :: es) t) (hdb : (x == ("__debug__" : Str)) = false := by decide)
    (he : starEach (e :: es) X.env = (false, eval e X.env) :: starEach es X.env := by rfl) (hpl : (backTo pos (starEach es X.env)).any (·.1) = false := by rfl) : PE X (.Call (.Name x p) (e :: es) [] pos) (tMakeP C sp t) := by
  obtain ⟨f, M, F, hm⟩ := M.ex
  refine ⟨fun pins s σ H Q I h => ?_⟩
  refine wpAny_Call_Name_kw (ld_glob I hg hm ?_ hdb)
  refine PySem.W.callWith_K (h₀ := X.base) I.ok.mod.kin M.kp (thn (ha.run pos pins s σ H _ I h) fun us s1 ⟨vs, H1, I1, r, q⟩ => ⟨I1.kIn, ?_⟩) he hpl
  exact run_makeP M F (hr.mono hk) I1 r q
theorem pe_makeP0 (M : MkP X.prog X.w X.K X.mg X.base k x C sp) (hr : RoomG j X.A) (hk : k + 1 ≤ j) (hg : Gl X x) (hdb : (x == ("__debug__" : Str)) = false := by decide) : PE X (.Call (.Name x p) [] [] pos) (tMakeP C sp tNil) := by
  obtain ⟨f, M, F, hm⟩ := M.ex
  refine ⟨fun pins s σ H Q I h => ?_⟩
  refine wpAny_Call_Name_kw (ld_glob I hg hm ?_ hdb)
  refine PySem.W.callWith_K0 I.kIn M.kp ?_
  exact run_makeP M F (hr.mono hk) I .nil h
end
end Lw

/-! ## LtS -/
set_option maxHeartbeats 4000000
/-! sets of texts: made of a list of texts, and sorted -/
namespace Lt
open PySem PySem.Spec PyProof.Rows L2
def tx : Value → Str
  | .str x _ => x
  | _ => Str.empty
def tk (e : Int × Value) : Str := tx e.2
def TRow (w : World) (e : Int × Value) : Prop := ∃ x t, e = (hashStr w x, Value.str x t)
/-- a table of the texts xs, in any order -/
structure TTab (w : World) (es : Array (Int × Value)) (t : SetTable) (xs : List Str) : Prop where
  rows : ∀ e ∈ es.toList, TRow w e
  perm : (es.toList.map tk).Perm xs
  nd : xs.Nodup
  sm : es.size < scanBound
  fit : t.fits es.size = true
  ris : Ris t.place.toList
  led : w.params.followText "set-order" = true ∨ t.led = true
/-- the set of the texts xs at a -/
def TSet (w : World) (h : Heap) (a : Addr) (xs : List Str) : Prop := ∃ o es ep t, h.get? a = some o ∧ o.ExactSet ∧ o.data = .set es ep t ∧ TTab w es t xs
/-- with x -/
def ins (x : Str) (xs : List Str) : List Str := if x ∈ xs then xs else x :: xs
theorem mem_ins' {x y : Str} {xs : List Str} : y ∈ ins x xs ↔ y = x ∨ y ∈ xs := by
  unfold ins
  split
  · rename_i h
    exact ⟨.inr, fun q => q.elim (fun e => e ▸ h) id⟩
  · exact List.mem_cons
theorem ins_nodup {x : Str} {xs : List Str} (h : xs.Nodup) : (ins x xs).Nodup := by
  unfold ins
  split
  · exact h
  · rename_i n
    exact List.nodup_cons.mpr ⟨n, h⟩
theorem ins_length {x : Str} {xs : List Str} : (ins x xs).length ≤ xs.length + 1 := by
  unfold ins
  split
  · exact Nat.le_succ _
  · exact Nat.le_refl _
section
variable {P : Program} {w : World} {h h' : Heap} {a : Addr} {xs : List Str} {es : Array (Int × Value)} {t : SetTable}
theorem TSet.at (R : TSet w h a xs) (k : ∀ o, h.get? a = some o → h'.get? a = some o) : TSet w h' a xs := let ⟨o, es, ep, t, ho, r⟩ := R; ⟨o, es, ep, t, k o ho, r⟩
theorem TTab.elems (T : TTab w es t xs) : ElemsOf (strKind P w) es.toList := fun e he => by
  obtain ⟨x, t, rfl⟩ := T.rows e he
  exact ⟨⟨x, strKind_is P w x t, rfl⟩, rfl⟩
theorem row_is {e : Int × Value} (r : TRow w e) (k : Str) : (strKind P w).is k e.2 = true ↔ tk e = k := by
  obtain ⟨x, t, rfl⟩ := r
  constructor
  · intro q
    obtain ⟨u, hu⟩ := Value.isStrOf_shape (show Value.isStrOf k (Value.str x t) = true from q)
    cases hu
    rfl
  · intro q
    cases q
    exact strKind_is P w x t
theorem TTab.len (T : TTab w es t xs) : es.size = xs.length := by rw [← T.perm.length_eq, List.length_map, Array.length_toList]
end
section
variable {P : Program} {w : World} {A : Around} {E : Value → Shared → Prop} {s : Shared} {a : Addr} {xs : List Str}
theorem tset_tail {g : Bool → Sem Unit} (hg : ∀ (b : Bool) (s₁ : Shared) (Q' : Unit → Shared → Prop), Q' () s₁ → wpAny (model P w) A (g b) Q' E s₁)
    {o : Obj} {es : Array (Int × Value)} {ep : Nat} {t : SetTable} (ho : s.heap.get? a = some o) (hex : o.ExactSet) (hd : o.data = .set es ep t)
    {en : Array (Int × Value)} {tn : SetTable} (T : TTab w en tn xs) {was : Bool} {R : Option Bool → Shared → Prop}
    (hR : ∀ h', Heap.SameBut a s.heap h' → TSet w h' a xs → R (some true) { s with heap := h' }) :
    wpAny (model P w) A (do
        storeSet a en tn
        if (!was && tn.tooFull) = true then do
            g (relayAll tn en (SetTable.grown en.size)).2.2
            storeSet a (relayAll tn en (SetTable.grown en.size)).1 (relayAll tn en (SetTable.grown en.size)).2.1
            pure (some true)
          else pure (some true)) R E s := by
  have first := store_at (es' := en) (t' := tn) ho hd
  refine wpAny_bind (wpAny_storeSet_of ho hd ?_ (fits_of_scanBound T.sm))
  cases hc : (!was && tn.tooFull) with
  | false =>
    rw [if_neg (by decide)]
    exact wpAny_pure (hR _ (Heap.SameBut.update s.heap a (Obj.putSet en tn)) ⟨_, en, _, tn, first, hex, rfl, T⟩)
  | true =>
    rw [if_pos rfl]
    have p := relayAll_perm tn en (SetTable.grown en.size)
    have T' : TTab w (relayAll tn en (SetTable.grown en.size)).1 (relayAll tn en (SetTable.grown en.size)).2.1 xs := {
      rows := fun e he => T.rows e (p.mem_iff.mp he)
      perm := (p.map tk).trans T.perm
      nd := T.nd
      sm := by
        have z := p.length_eq
        rw [Array.length_toList, Array.length_toList] at z
        rw [z]
        exact T.sm
      fit := relayAll_fits tn en _
      ris := relayAll_ris tn en _
      led := T.led.imp id fun z => (relayAll_led tn en _).trans z }
    refine wpAny_bind (hg _ _ _ (wpAny_bind (wpAny_storeSet_of first rfl ?_ (fits_of_scanBound T'.sm))))
    exact wpAny_pure (hR _ ((Heap.SameBut.update s.heap a _).trans (Heap.SameBut.update _ a _)) ⟨_, _, _, _, store_at (es' := _) (t' := _) first rfl, hex, rfl, T'⟩)
theorem TTab.add {es : Array (Int × Value)} {t : SetTable} (T : TTab w es t xs) {x : Str} (u : Tok) (n : x ∉ xs) (room : xs.length + 1 < scanBound) : TTab w (layNew t es (hashStr w x) (.str x u)).1 (layNew t es (hashStr w x) (.str x u)).2.1 (x :: xs) := by
  have p := layNew_perm t es (hashStr w x) (.str x u)
  rw [Array.toList_push] at p
  have p := p.trans (List.perm_append_singleton (hashStr w x, Value.str x u) es.toList)
  refine ⟨fun e he => ?_, (p.map tk).trans (T.perm.cons x), List.nodup_cons.mpr ⟨n, T.nd⟩, ?_, layNew_fits _ _ _ _, layNew_ris _ _ _ _ T.ris, T.led.imp id fun z => (layNew_led _ _ _ _).trans z⟩
  · rcases List.mem_cons.mp (p.mem_iff.mp he) with rfl | q
    · exact ⟨x, u, rfl⟩
    · exact T.rows e q
  · have z := p.length_eq
    rw [Array.length_toList, List.length_cons, Array.length_toList, T.len] at z
    rw [z]
    exact room
theorem tset_add {x : Str} {u : Tok} {Q : Bool → Shared → Prop} (R : TSet w s.heap a xs) (room : xs.length + 1 < scanBound) (hQ : ∀ (b : Bool) h', Heap.SameBut a s.heap h' → TSet w h' a (ins x xs) → Q b { s with heap := h' }) :
    wpAny (model P w) A (setAddHashed a (.str x u) ((strKind P w).hash x)) Q E s := by
  obtain ⟨o, es, ep, t, ho, hex, hd, T⟩ := R
  have sc : (Value.str x u).scannable = true := rfl
  unfold setAddHashed setAddHashedIn
  refine wpAny_holding (wpAny_bind (wpAny_setState_of ho hd T.fit ?_))
  dsimp only
  rw [byScan_of sc T.sm (T.elems (P := P))]
  simp only [↓reduceIte]
  unfold setAddByScan
  refine wpAny_bind (wpAny_bind (wpAny_rule (wpAny_bind (wpAny_setScan_of (strKind_is P w x u) ho hd T.fit T.elems ?_))))
  cases hfi : List.findIdx? (fun e => (strKind P w).is x e.2) es.toList with
  | some j =>
    obtain ⟨hj, pj, _⟩ := List.findIdx?_eq_some_iff_getElem.mp hfi
    have hx : x ∈ xs := T.perm.mem_iff.mp (List.mem_map.mpr ⟨_, List.getElem_mem hj, (row_is (T.rows _ (List.getElem_mem hj)) x).mp pj⟩)
    refine wpAny_pure (wpAny_pure (hQ _ s.heap (Heap.SameBut.refl a s.heap) ⟨o, es, ep, t, ho, hex, hd, ?_⟩))
    unfold ins
    rw [if_pos hx]
    exact T
  | none =>
    have hx : x ∉ xs := fun q => by
      obtain ⟨e, he, z⟩ := List.mem_map.mp (T.perm.mem_iff.mpr q)
      have c := List.findIdx?_eq_none_iff.mp hfi e he
      rw [(row_is (T.rows e he) x).mpr z] at c
      cases c
    have T' := T.add u hx room
    have e : ins x xs = x :: xs := if_neg hx
    have e' : (strKind P w).hash x = hashStr w x := rfl
    dsimp only
    rw [e'] at *
    rw [e] at hQ
    generalize layNew t es (hashStr w x) (.str x u) = Z at T' ⊢
    obtain ⟨en, tn, was, gave⟩ := Z
    dsimp only at T' ⊢
    have gw : ∀ (b : Bool) (s₁ : Shared) (Q' : Unit → Shared → Prop), Q' () s₁ → wpAny (model P w) A (match b with | true => rule "set.scan.the-table-gave-way" | false => pure ()) Q' E s₁ := fun b s₁ Q' q => by
      cases b
      · exact wpAny_pure q
      · exact wpAny_rule q
    refine wpAny_bind (gw _ _ _ ?_)
    split
    · refine wpAny_bind ?_
      rw [hashByValue_scannable 8 sc]
      refine wpAny_pure ?_
      refine tset_tail gw ho hex hd (xs := x :: xs) ?_ fun h' sb r => wpAny_pure (hQ _ h' sb r)
      split
      · first | exact T' | exact ⟨T'.rows, T'.perm, T'.nd, T'.sm, SetTable.fits_plain_off T'.fit, T'.ris, T'.led⟩
      · first | exact T' | exact ⟨T'.rows, T'.perm, T'.nd, T'.sm, SetTable.fits_plain_off T'.fit, T'.ris, T'.led⟩
    · refine wpAny_bind (wpAny_pure ?_)
      simp only [↓reduceIte]
      exact tset_tail gw ho hex hd T' fun h' sb r => wpAny_pure (hQ _ h' sb r)
end
/-! ### made of a list -/
/-- an empty set -/
def freshO (w : World) : Obj := { cls := .type "set", dict := none, data := .set #[] 0 (.fresh 0 0 (!w.params.followText "set-order")) }
theorem tset_nil {w : World} {h : Heap} {a : Addr} (ho : h.get? a = some (freshO w)) : TSet w h a [] :=
  ⟨_, #[], 0, _, ho, ⟨rfl, rfl, rfl⟩, rfl, ⟨fun e he => by simp at he, by simp, List.nodup_nil, by decide, by rfl, List.Pairwise.nil, by
    show _ ∨ (!w.params.followText "set-order") = true
    cases w.params.followText "set-order"
    · exact .inr rfl
    · exact .inl rfl⟩⟩
/-- the members of ys so far -/
def SoFar (ys : List Str) (i : Nat) (xs : List Str) : Prop := xs.length ≤ i ∧ ∀ y, y ∈ xs ↔ y ∈ ys.take i
theorem SoFar.next {ys xs : List Str} {i : Nat} {x : Str} (h : SoFar ys i xs) (hx : ys[i]? = some x) : SoFar ys (i + 1) (ins x xs) := by
  refine ⟨Nat.le_trans ins_length (Nat.succ_le_succ h.1), fun y => ?_⟩
  rw [mem_ins', h.2, List.take_add_one, hx, List.mem_append]
  constructor
  · rintro (rfl | q)
    · exact .inr List.mem_cons_self
    · exact .inl q
  · rintro (q | q)
    · exact .inr q
    · exact .inl (List.mem_singleton.mp q)
section
variable {P : Program} {w : World} {A : Around} {E : Value → Shared → Prop} {s : Shared}
theorem tset_loop {I S : Addr} {fp wr : List Addr} {G : Array GenState → Array GenState → Prop} {n : Nat} {Pv : Nat → Value → Prop} {St : Nat → Shared → Prop} {R : Result → Shared → Prop} {ys : List Str}
    (W : WalksS P w A.in1 I fp wr G n Pv St) (out : S ∉ fp) (hn : n = ys.length) (hb : ys.length + 1 < scanBound) (val : ∀ i v, Pv i v → ∃ x t, ys[i]? = some x ∧ v = .str x t)
    (fin : ∀ s0 s' xs, Moved (S :: wr) G s0 s' → s0 = s → SoFar ys n xs → TSet w s'.heap S xs → R (.ok (.ret .none)) s') :
    ∀ (d i : Nat) (s1 : Shared) (xs : List Str), n = i + d → St i s1 → Moved (S :: wr) G s s1 ∨ s1 = s → SoFar ys i xs → TSet w s1.heap S xs → codeAny (model P w) A (.builtin "set.update.loop" ⟨[.ref S, .ref I], []⟩) R s1 := by
  have offw : S ∉ wr := fun q => out (W.sub _ q)
  have wid : ∀ b ∈ wr, b ∈ S :: wr := fun b q => List.mem_cons_of_mem _ q
  have far : ∀ {s1 s2 : Shared}, Moved (S :: wr) G s s1 ∨ s1 = s → Moved (S :: wr) G s1 s2 → Moved (S :: wr) G s s2 := fun m m2 => m.elim (fun q => Moved.trans W.gtrans q m2) fun q => q ▸ m2
  intro d
  induction d with
  | zero =>
    intro i s1 xs hi st mv so T
    refine codeAny_builtin F.entry_set_update_loop ?_
    rw [Around.under_plainId F.plain_set_update_loop _]
    show wpAny _ A.in1 (pyNext (.ref I) >>= _) _ _ s1
    obtain rfl : i = n := hi.symm
    refine wpAny_bind (W.done s1 _ _ st fun s2 m => ?_)
    exact wpAny_pure (fin s s2 xs (far mv (m.mono wid)) rfl so (T.at fun o q => m.heap S o offw q))
  | succ d ih =>
    intro i s1 xs hi st mv so T
    refine codeAny_builtin F.entry_set_update_loop ?_
    rw [Around.under_plainId F.plain_set_update_loop _]
    show wpAny _ A.in1 (pyNext (.ref I) >>= _) _ _ s1
    refine wpAny_bind (W.item i s1 _ _ (by omega) st fun v s2 hv st2 m => ?_)
    obtain ⟨x, t, hx, rfl⟩ := val i v hv
    show wpAny _ A.in1 (holding [Value.str x t] (setAdd S (.str x t)) >>= _) _ _ s2
    refine wpAny_bind (wpAny_holding ?_)
    unfold setAdd
    refine wpAny_holding (wpAny_bind ((strKind P w).pyHash (k := x) (strKind_is _ _ _ _) ?_))
    have T2 : TSet w s2.heap S xs := T.at fun o q => m.heap S o offw q
    refine tset_add (s := { s2 with toks := s2.toks + 1 }) T2 (by have := so.1; omega) fun b h3 sb T3 => ?_
    refine wpAny_pure ⟨plainId_quiet F.plain_set_update_loop _, ih (i + 1) _ (ins x xs) (by omega) (W.frame _ s2 _ _ st2 (Nat.le_succ _) fun c hc o q => ?_) (.inl ?_) (so.next hx) T3⟩
    · rw [sb.2 c fun z => out (z ▸ hc)]
      exact q
    · refine far mv ((m.mono wid).then_heap (Nat.le_succ _) fun c o hc q => ?_)
      rw [sb.2 c fun z => hc (z ▸ List.mem_cons_self)]
      exact q
set_option maxHeartbeats 6400000 in
/-- set(xs), a list of texts -/
theorem call_set_texts {l : Addr} {items : Array Value} {ys : List Str} {Q : Value → Shared → Prop} (hh : A.handled = none) (hl : s.heap.IsList l items) (hi : StrsAre items.toList ys) (hb : ys.length + 1 < scanBound)
    (h : ∀ (h' : Heap) (tk : Nat) (xs : List Str), TSet w h' s.heap.objs.size xs → (∀ y, y ∈ xs ↔ y ∈ ys) → xs.length ≤ ys.length → (∀ b o, s.heap.get? b = some o → h'.get? b = some o) → Q (.ref s.heap.objs.size) { s with heap := h', toks := tk }) :
    wpAny (model P w) A (call (.type "set") [.ref l]) Q E s := by
  have made := F.called_set.made
  have sub := F.called_set.sub
  have h1 := F.called_set.notType
  have h2 := F.called_set.canCreate
  have ct := F.typeCall_set_1 (.ref l)
  obtain ⟨c, tl, mro⟩ := F.called_set.mro
  refine wpAny_call (codeAny_of_tree (wpAny_pure ⟨Code.quiet_builtin _ (by decide +kernel), codeAny_builtin F.entry_type_call ?_⟩))
  rw [Around.under_plain (weight_type_call_type "set" [.ref l] []) rfl]
  repeat (any_goals (first | assumption | wp_step))
  refine codeAny_mono (code_set_led1 (.ref l) (E := E) (Q₁ := fun obj s₁ => obj = .ref s.heap.objs.size ∧ s₁ = { s with heap := s.heap.push (freshO w) }) ⟨rfl, rfl⟩) fun r s₁ hr => ?_
  match r, hr with
  | .error e, hr => exact hr
  | .ok .next, hr => exact hr.elim
  | .ok .brk, hr => exact hr.elim
  | .ok .cont, hr => exact hr.elim
  | .ok (.ret obj), hr =>
    obtain ⟨rfl, rfl⟩ := hr
    have at0 : (s.heap.push (freshO w)).get? s.heap.objs.size = some (freshO w) := Heap.get?_push_size _ rfl
    have isS : Shared.TypeIs { s with heap := s.heap.push (freshO w) } (.ref s.heap.objs.size) "set" := ⟨_, at0, rfl⟩
    have li := F.called_set.init.lookup
    have bi := F.called_set.init.bind (.ref s.heap.objs.size)
    repeat (any_goals (first | assumption | wp_step))
    refine codeAny_mono (codeAny_call_builtin (R := wants (fun r s₂ => r = .none ∧ ∃ h' tk xs, s₂ = { s with heap := h', toks := tk } ∧ TSet w h' s.heap.objs.size xs ∧ (∀ y, y ∈ xs ↔ y ∈ ys) ∧ xs.length ≤ ys.length ∧ (∀ b o, s.heap.get? b = some o → h'.get? b = some o)) E)
      F.called_set.init.plain F.entry_set_init (check_set_init_1 isS ?_)) fun r₂ s₂ hr₂ => ?_
    · obtain ⟨ol, hol, hcl, nl, hdl⟩ := hl
      obtain ⟨ocls, odict, odata, oslots⟩ := ol
      cases (show ocls = _ from hcl)
      cases (show odata = _ from hdl)
      have ol' : (s.heap.push (freshO w)).get? l = some { cls := .type "list", dict := odict, data := .seq items nl, slots := oslots } := Heap.get?_push_of_some _ hol
      have isL0 : s.heap.IsList l items := ⟨_, hol, rfl, nl, rfl⟩
      have isL : (s.heap.push (freshO w)).IsList l items := ⟨_, ol', rfl, nl, rfl⟩
      have n1 := F.sub_list_set
      have n2 := F.sub_list_frozenset
      have n3 : (Value.type "list" == Value.type "dict") = false := by decide
      unfold Builtin.«set.__init__» noKeywords Builtin.Frozenset.updateFrom
      generalize hPI : pyIter = PI
      wp_walk
      subst hPI
      have lt : l < s.heap.objs.size := Heap.lt_size hol
      have sz : (s.heap.push (freshO w)).objs.size = s.heap.objs.size + 1 := Heap.size_push ..
      have hh3 : A.in1.in1.in1.handled = none := by simp [hh]
      have neI : l ≠ (s.heap.push (freshO w)).objs.size := by
        rw [sz]
        exact Nat.ne_of_lt (Nat.lt_succ_of_lt lt)
      have out : s.heap.objs.size ∉ [(s.heap.push (freshO w)).objs.size, l] := by
        rw [sz]
        intro q
        rcases List.mem_cons.mp q with z | z
        · exact Nat.ne_of_lt (Nat.lt_succ_self _) z
        · exact Nat.ne_of_gt lt (List.mem_singleton.mp z)
      have len : items.size = ys.length := by rw [← Array.length_toList]; exact StrsAre.len_eq hi
      refine wpAny_pyIter_list isL (wpAny_bind (wpAny_runValue ?_))
      have g0 : ((s.heap.push (freshO w)).push { cls := .type "list_iterator", data := .fields #[.ref l, .int 0 0] }).get? s.heap.objs.size = some (freshO w) := Heap.get?_push_of_some _ at0
      refine tset_loop ((Walks.list hh3 _ l neI items).toS) out len hb (fun i v hv => ?_) (fun s0 s' xs m e0 so T => ?_) items.size 0 _ [] (Nat.zero_add _).symm ⟨⟨_, Heap.get?_push_size _ rfl, rfl, rfl⟩, isL.push _⟩ (.inr rfl) ⟨Nat.le_refl 0, fun y => by simp⟩ (tset_nil g0)
      · have hi' : i < ys.length := by rw [← len]; exact (Array.getElem?_eq_some_iff.mp hv).1
        obtain ⟨t, e⟩ := SS.strs_at hi i v (by rw [Array.getElem?_toList]; exact hv)
        exact ⟨ys[i], t, List.getElem?_eq_getElem hi', by rw [e, List.getD_eq_getElem?_getD, List.getElem?_eq_getElem hi'] <;> rfl⟩
      · subst e0
        obtain ⟨h', g2, d', tk', os'⟩ := s'
        have eg : g2 = s.gens := m.gens
        have ed : d' = s.drawn := m.drawn
        have eo : os' = s.os := m.os
        subst eg ed eo
        have so1 := so.1
        rw [len] at so1
        refine wpAny_pure (wpAny_pure ⟨rfl, h', tk', xs, rfl, T, fun y => ?_, so1, fun b o q => ?_⟩)
        · rw [so.2 y, len, List.take_length]
        · have lb := Heap.lt_size q
          refine m.heap b o (fun z => ?_) (Heap.get?_push_of_some _ (Heap.get?_push_of_some _ q))
          rcases List.mem_cons.mp z with z | z
          · exact Nat.ne_of_lt lb z
          · exact Nat.ne_of_lt (Nat.lt_succ_of_lt lb) ((List.mem_singleton.mp z).trans sz)
    · match r₂, hr₂ with
      | .error e, hr₂ => exact hr₂
      | .ok .next, hr₂ => exact hr₂.elim
      | .ok .brk, hr₂ => exact hr₂.elim
      | .ok .cont, hr₂ => exact hr₂.elim
      | .ok (.ret r), hr₂ =>
        obtain ⟨rfl, h', tk, xs, rfl, T, m, len, k⟩ := hr₂
        repeat (any_goals (first | assumption | wp_step))
        exact h _ _ xs T m len k
end
/-! ### sorted -/
theorem texts_of : ∀ (l : List Value), (∀ v ∈ l, ∃ x t, v = Value.str x t) → StrsAre l (l.map tx)
  | [], _ => .nil
  | v :: l, h => by
    obtain ⟨x, t, rfl⟩ := h v List.mem_cons_self
    exact .cons x t (texts_of l fun u hu => h u (List.mem_cons_of_mem _ hu))
section
variable {P : Program} {w : World} {A : Around} {E : Value → Shared → Prop} {s : Shared}
theorem sorted_texts {a : Addr} {xs : List Str} {Q : Value → Shared → Prop} (T : TSet w s.heap a xs) (hh : A.handled = none) (h64 : xs.length < 64)
    (hQ : ∀ s' p (out : Array Value) (c : Nat) (ys : List Str), (∀ b o, s.heap.get? b = some o → s'.heap.get? b = some o) → s'.gens = s.gens → s'.os = s.os → s.heap.objs.size ≤ p →
      s'.heap.get? p = some (seqObj "list" out c) → StrsAre out.toList ys → ys.Perm xs → sortedS ys = true → Q (.ref p) s') :
    wpAny (model P w) A (call (.builtin "sorted") [.ref a]) Q E s := by
  obtain ⟨o, es, ep, t, ho, hex, hd, T⟩ := T
  refine Calls.call_function_entry kind_sorted plain_sorted entry_sorted (args_sorted1 _) ?_
  unfold Builtin.«sorted»
  refine wpAny_bind (m := checkCount "sorted" 1 1 _) (wpAny_pure ?_)
  refine wpAny_bind (collect_set (A := A.in1) hh ⟨o, ho, hex.1, hd⟩ T.fit T.sm T.ris T.led fun s1 vs k1 hz g1 o1 pm => ?_)
  have len : vs.length = xs.length := by rw [pm.length_eq, List.length_map, Array.length_toList, T.len]
  have hS : StrsAre vs (vs.map tx) := texts_of vs fun v hv => by
    obtain ⟨e, he, q⟩ := List.mem_map.mp (pm.mem_iff.mp hv)
    obtain ⟨x, t, rfl⟩ := T.rows e he
    exact ⟨x, t, q.symm⟩
  have pk : (vs.map tx).Perm xs := by
    have q := pm.map tx
    rw [List.map_map] at q
    exact q.trans T.perm
  have h64' : vs.length < 64 := by rw [len]; exact h64
  refine wpAny_bind (wpAny_newList ?_ (by rw [sizeLine_eq]; omega))
  have oL : (s1.heap.push (seqObj "list" vs.toArray 0)).get? s1.heap.objs.size = some (seqObj "list" vs.toArray 0) := Heap.get?_push_size _ rfl
  refine wpAny_bind (wpAny_holding (wpAny_call_entry slot_list_sort ⟨_, oL, rfl⟩ entry_list_sort
    (list_sort_treeK strKind_oneLt (s := { s1 with heap := s1.heap.push (seqObj "list" vs.toArray 0) }) oL hS.keysOf (fun v₁ v₂ rest e => keyKind_strs (by rw [← e]; exact hS)) h64' fun st hp hs => ⟨_, rfl, ?_⟩) (args_list_sort _)))
  obtain ⟨ys, y1, y2, y3⟩ := sorted_out_str hS hp hs
  obtain ⟨c, hc⟩ := sortedHeap_at (vs := vs) (out := (arrOf st).map (·.2)) oL
  refine wpAny_pure ⟨_, rfl, hQ _ s1.heap.objs.size ((arrOf st).map (·.2)) c ys (fun b u e => ?_) g1 o1 hz hc y1 (y2.trans pk) y3⟩
  have lb := Heap.lt_size (k1 b u e)
  show (sortedHeap (s1.heap.push (seqObj "list" vs.toArray 0)) s1.heap.objs.size vs ((arrOf st).map (·.2))).get? b = some u
  rw [sortedHeap_old (Nat.ne_of_lt lb) (by rw [size_push']; exact Nat.lt_succ_of_lt lb)]
  exact Heap.get?_push_of_some _ (k1 b u e)
end
/-! ### as rules -/
def TxO (w : World) (a : Addr) (xs : List Str) : HO := .ext fun h => TSet w h a xs
theorem txO_new {w : World} {P : Program} {H : Hp} {h : Heap} {a : Addr} {xs : List Str} (R : TSet w h a xs) : ObjOk P w H h a (TxO w a xs) :=
  let ⟨o, _, _, _, ho, _⟩ := R
  ⟨R, ⟨o, ho⟩, fun _ _ p k => TSet.at p k⟩
/-- set(ys) -/
def rSetT (K : PySem.W.Frag) (w : World) : List V → Hp → VK → Prop := fun vs H Q => ∃ (a : Addr) (ys : List Str), vs = [.ref a] ∧ SqL K H a (ys.map V.str) ∧ ys.length ≤ 1000 ∧
  ∀ (xs : List Str) (p : Addr), (∀ y, y ∈ xs ↔ y ∈ ys) → xs.Nodup → xs.length ≤ ys.length → H p = none → Q (.ref p) (upd H p (TxO w p xs))
/-- sorted(found) -/
def rSortT (w : World) : List V → Hp → VK → Prop := fun vs H Q => ∃ (a : Addr) (xs : List Str), vs = [.ref a] ∧ H a = some (TxO w a xs) ∧ xs.length < 64 ∧
  ∀ (ys : List Str) (p : Addr), ys.Perm xs → sortedS ys = true → H p = none → Q (.ref p) (upd H p (.lst (ys.map V.str)))
section
variable {X : Cx}
theorem call_setT (hc : X.calm = true) : CallR X (.type "set") (rSetT X.K X.w) := by
  intro pins s σ H vs us Q I r h
  obtain ⟨a, ys, rfl, hs, hl, q⟩ := h
  obtain ⟨its, rv, il, _⟩ := I.list hs
  rw [Vals.ref1 r]
  refine call_set_texts (I.ok.hd hc) il.isList rv.strs (by unfold scanBound; omega) fun h' tk xs T m len k => ?_
  have nd : xs.Nodup := let ⟨_, _, _, _, _, _, _, T'⟩ := T; T'.nd
  exact ⟨.ref _, upd H s.heap.objs.size (TxO X.w s.heap.objs.size xs), I.laid (t' := tk) k (Nat.le_refl _) (txO_new T), rfl, q xs _ m nd len (I.hok.fresh (Nat.le_refl _))⟩
theorem call_sortT (hc : X.calm = true) : CallR X (.builtin "sorted") (rSortT X.w) := by
  intro pins s σ H vs us Q I r h
  obtain ⟨a, xs, rfl, ha, h64, q⟩ := h
  have T : TSet X.w s.heap a xs := (I.hok a _ ha).1
  rw [Vals.ref1 r]
  refine sorted_texts T (I.ok.hd hc) h64 fun s' p out c ys k g o le hp hS pm so => ?_
  have hlen : (ys.map V.str).length ≤ sizeLine := by rw [List.length_map, pm.length_eq]; exact small64 h64
  have hn : H p = none := I.hok.fresh le
  have es : s' = { s with heap := s'.heap, gens := s'.gens, drawn := s'.drawn, toks := s'.toks } := by
    rw [← o]
  have J : Inv X pins σ (upd H p (.lst (ys.map V.str))) { s with heap := s'.heap, gens := s'.gens, drawn := s'.drawn, toks := s'.toks } :=
    I.call (ch := []) (Un.laid k le hn) (I.hok.laid k le ⟨hlen, out.toList, c, vals_of_strs hS, hp⟩) (by rw [g]; exact I.bare) fun _ z => nomatch z
  rw [es]
  exact ⟨.ref p, _, J, rfl, q ys p pm so hn⟩
end
end Lt

/-! ## Sx4 -/
set_option maxHeartbeats 4000000
/-! {e for x in a for y in b}: a set of texts, by two clauses without tests -/
namespace Lw
open PySem PySem.Spec PyProof.Rows L2
theorem thnE {α : Type} {t : Sem α} {Q Q' : α → Shared → Prop} {M : Model} {A : Around} {E : Value → Shared → Prop} {s : Shared} (h : wpAny M A t Q E s) (hQ : ∀ a s, Q a s → Q' a s) : wpAny M A t Q' E s := wpAny_mono h hQ fun _ _ x => x
section
variable {prog : Program} {w : World} {A : Around} {R : Result → Shared → Prop} {s : Shared} {elt t0 i0 t1 i1 : Expr} {scope : Scope} {pos : Pos} {it acc : Value} {env : Env}
/-- a turn of the first clause -/
theorem sx_turn0 : compTurn (.SetComp elt [⟨t0, i0, [], 0⟩, ⟨t1, i1, [], 0⟩] scope pos) 0 it acc env = (do
      standAt i0.pos
      match ← pyNext it with
      | none => pure (.done .next)
      | some v =>
        letOwnedTupleGo t0 it v
        assign t0 env v
        let x ← eval i1 env
        standAt i1.pos
        let x ← foldedSetIterable i1 env x
        let _ ← runOwn (.compStart (.SetComp elt [⟨t0, i0, [], 0⟩, ⟨t1, i1, [], 0⟩] scope pos) 1 (← holding [x] (pyIter x)) acc env) env
        again (.compLoop (.SetComp elt [⟨t0, i0, [], 0⟩, ⟨t1, i1, [], 0⟩] scope pos) 0 it acc env)) := by rfl
/-- a turn of the second -/
theorem sx_turn1 : compTurn (.SetComp elt [⟨t0, i0, [], 0⟩, ⟨t1, i1, [], 0⟩] scope pos) 1 it acc env = (do
      standAt i1.pos
      match ← pyNext it with
      | none => pure (.done .next)
      | some v =>
        letOwnedTupleGo t1 it v
        assign t1 env v
        (do let v ← eval elt env; standAt elt.pos; let _ ← call (.builtin "set.add") [acc, v])
        again (.compLoop (.SetComp elt [⟨t0, i0, [], 0⟩, ⟨t1, i1, [], 0⟩] scope pos) 1 it acc env)) := by rfl
/-- the first clause's loop: from each item's source the second one's start -/
theorem sx_loop0 (hs : ∀ x, foldedSetIterable i1 env x = pure x) (I : Nat → Shared → Prop)
    (turn : ∀ n s, I n s → wpAny (model prog w) A (pyNext it) (fun r s₁ => match r with
      | none => R (.ok .next) s₁
      | some v => wpAny (model prog w) A (letOwnedTupleGo t0 it v) (fun _ s₂ => wpAny (model prog w) A (assign t0 env v) (fun _ s₃ => wpAny (model prog w) A (eval i1 env) (fun x s₄ => wpAny (model prog w) A (pyIter x) (fun it1 s₅ =>
          codeAny (model prog w) A (.compStart (.SetComp elt [⟨t0, i0, [], 0⟩, ⟨t1, i1, [], 0⟩] scope pos) 1 it1 acc env) (fun r s' => match r with
            | .ok _ => ∃ m, m < n ∧ I m s'
            | .error _ => False) s₅) (notedBy (model prog w) A env fun e s' => R (.error e) s') s₄) (notedBy (model prog w) A env fun e s' => R (.error e) s') s₃) (notedBy (model prog w) A env fun e s' => R (.error e) s') s₂) (notedBy (model prog w) A env fun e s' => R (.error e) s') s₁)
      (notedBy (model prog w) A env fun e s' => R (.error e) s') s)
    (n : Nat) (h : I n s) : codeAny (model prog w) A (.compLoop (.SetComp elt [⟨t0, i0, [], 0⟩, ⟨t1, i1, [], 0⟩] scope pos) 0 it acc env) R s := by
  refine codeAny_loop rfl I (fun n s hI => ?_) n h
  show wpAny _ A ((compTurn (.SetComp elt [⟨t0, i0, [], 0⟩, ⟨t1, i1, [], 0⟩] scope pos) 0 it acc env).onRaise (fun x => do noteFrame x env; theTreesLotGoes x)) _ _ s
  refine wpAny_noted ?_
  rw [sx_turn0]
  refine wpAny_bind (wpAny_standAt (wpAny_bind (thnE (turn n s hI) fun r s₁ h₁ => ?_)))
  cases r with
  | none => exact wpAny_pure h₁
  | some v =>
    refine wpAny_bind (thnE h₁ fun _ s₂ h₂ => wpAny_bind (thnE h₂ fun _ s₃ h₃ => wpAny_bind (thnE h₃ fun x s₄ h₄ => ?_)))
    refine wpAny_bind (wpAny_standAt (wpAny_bind (wpAny_of_eq (hs x) (wpAny_bind (wpAny_holding (thnE h₄ fun it1 s₅ h₅ => ?_))))))
    refine wpAny_bind (wpAny_runOwn ?_)
    rw [Around.mark_none]
    refine codeAny_mono h₅ fun r s' hr => ?_
    cases r with
    | ok f => first | exact wpAny_pure ⟨rfl, hr⟩ | exact wpAny_bind (wpAny_pure (wpAny_pure ⟨rfl, hr⟩))
    | error e => exact hr.elim
/-- the second clause's loop -/
theorem sx_loop1 (I : Nat → Shared → Prop)
    (turn : ∀ n s, I n s → wpAny (model prog w) A (pyNext it) (fun r s₁ => match r with
      | none => R (.ok .next) s₁
      | some v => wpAny (model prog w) A (letOwnedTupleGo t1 it v) (fun _ s₂ => wpAny (model prog w) A (assign t1 env v) (fun _ s₃ => wpAny (model prog w) A (eval elt env) (fun x s₄ =>
          wpAny (model prog w) A (call (.builtin "set.add") [acc, x]) (fun _ s₅ => ∃ m, m < n ∧ I m s₅) (notedBy (model prog w) A env fun e s' => R (.error e) s') s₄) (notedBy (model prog w) A env fun e s' => R (.error e) s') s₃) (notedBy (model prog w) A env fun e s' => R (.error e) s') s₂) (notedBy (model prog w) A env fun e s' => R (.error e) s') s₁)
      (notedBy (model prog w) A env fun e s' => R (.error e) s') s)
    (n : Nat) (h : I n s) : codeAny (model prog w) A (.compLoop (.SetComp elt [⟨t0, i0, [], 0⟩, ⟨t1, i1, [], 0⟩] scope pos) 1 it acc env) R s := by
  refine codeAny_loop rfl I (fun n s hI => ?_) n h
  show wpAny _ A ((compTurn (.SetComp elt [⟨t0, i0, [], 0⟩, ⟨t1, i1, [], 0⟩] scope pos) 1 it acc env).onRaise (fun x => do noteFrame x env; theTreesLotGoes x)) _ _ s
  refine wpAny_noted ?_
  rw [sx_turn1]
  refine wpAny_bind (wpAny_standAt (wpAny_bind (thnE (turn n s hI) fun r s₁ h₁ => ?_)))
  cases r with
  | none => exact wpAny_pure h₁
  | some v =>
    exact wpAny_bind (thnE h₁ fun _ s₂ h₂ => wpAny_bind (thnE h₂ fun _ s₃ h₃ => wpAny_bind (wpAny_bind (thnE h₃ fun x s₄ h₄ => wpAny_bind (wpAny_standAt (wpAny_bind (thnE h₄ fun _ s₅ h₅ => wpAny_pure (wpAny_pure ⟨rfl, h₅⟩))))))))
/-- the second clause's start -/
theorem sx_start1 (h0 : codeAny (model prog w) A (.compLoop (.SetComp elt [⟨t0, i0, [], 0⟩, ⟨t1, i1, [], 0⟩] scope pos) 1 it acc env) R s)
    (h : wpAny (model prog w) A (pyIter it) (fun it' s' => codeAny (model prog w) A (.compLoop (.SetComp elt [⟨t0, i0, [], 0⟩, ⟨t1, i1, [], 0⟩] scope pos) 1 it' acc env) R s')
      (notedBy (model prog w) A env fun x s' => R (.error x) s') s) :
    codeAny (model prog w) A (.compStart (.SetComp elt [⟨t0, i0, [], 0⟩, ⟨t1, i1, [], 0⟩] scope pos) 1 it acc env) R s := by
  refine codeAny_of_tree ?_
  show wpAny _ _ ((compStart (.SetComp elt [⟨t0, i0, [], 0⟩, ⟨t1, i1, [], 0⟩] scope pos) 1 it acc env).onRaise (fun x => do noteFrame x env; standAt theWindowsPlace)) _ _ s
  refine wpAny_notedAt ?_
  unfold compStart
  show wpAny _ _ (ask >>= _) _ _ s
  refine wpAny_bind (wpAny_askSetting (wpAny_ite ?_))
  split
  · first
      | exact wpAny_bind (wpAny_pure (wpAny_pure (And.intro rfl h0)))
      | exact wpAny_pure (And.intro rfl h0)
  · first
      | exact wpAny_bind (wpAny_rule (wpAny_bind (wpAny_standAt (wpAny_bind (thnE h fun it' s' h' => wpAny_pure (And.intro rfl h'))))))
      | (refine wpAny_bind (wpAny_rule ?_); show wpAny _ _ (standAt i1.pos >>= _) _ _ s; exact wpAny_bind (wpAny_standAt (wpAny_bind (thnE h fun it' s' h' => wpAny_pure (And.intro rfl h')))))
end
section
variable {X : Cx}
/-- set.add of a text -/
theorem tset_addC {P : Program} {w : World} {A : Around} {E : Value → Shared → Prop} {s : Shared} {a : Addr} {xs : List Str} {x : Str} {u : Tok} {Q : Value → Shared → Prop} (R : Lt.TSet w s.heap a xs) (room : xs.length + 1 < scanBound)
    (hQ : ∀ h', Heap.SameBut a s.heap h' → Lt.TSet w h' a (Lt.ins x xs) → Q .none { s with heap := h', toks := s.toks + 1 }) : wpAny (model P w) A (call (.builtin "set.add") [.ref a, .str x u]) Q E s := by
  have R0 := R
  obtain ⟨o, es, ep, t, ho, hex, _⟩ := R0
  refine wpAny_call_entry F.slot_set_add ⟨o, ho, hex.1⟩ F.entry_set_add ?_ (F.args_set_add_2 _ _)
  unfold Builtin.«set.add» Builtin.Frozenset.oneOther
  simp only [List.isEmpty_nil, bind_assoc]
  unfold Builtin.Frozenset.addrOf setAdd
  refine wpAny_bind (wpAny_pure ?_)
  try dsimp only
  refine wpAny_bind (wpAny_pure ?_)
  try dsimp only
  refine wpAny_bind ?_
  refine wpAny_holding ?_
  refine wpAny_bind ((strKind P w).pyHash (strKind_is P w x u) ?_)
  refine Lt.tset_add (s := { s with toks := s.toks + 1 }) R room fun _ h' sb r => ?_
  show wpAny _ _ (ret Value.none) _ _ _
  exact wpAny_pure ⟨_, rfl, hQ h' sb r⟩
theorem addT_ok {pins : List (Addr × Obj)} {σ : L2.St} {H : Hp} {s : Shared} {E : Value → Shared → Prop} {D : Addr} {xs : List Str} {y : Str} {u : Tok} {Q : Value → Shared → Prop} (I : Inv X pins σ H s) (hD : H D = some (Lt.TxO X.w D xs)) (room : xs.length + 1 < scanBound)
    (h : ∀ s', Inv X pins σ (upd H D (Lt.TxO X.w D (Lt.ins y xs))) s' → Q .none s') : wpAny (model X.prog X.w) X.A (call (.builtin "set.add") [.ref D, .str y u]) Q E s := by
  have R : Lt.TSet X.w s.heap D xs := (I.hok D _ hD).1
  refine tset_addC R room fun h' sb new => ?_
  have he : ∃ u, h'.get? D = some u := by
    have ⟨o, _, _, _, ho, _⟩ := new
    exact ⟨o, ho⟩
  exact h _ (I.write (e := D) (t' := s.toks + 1) (by rw [hD]; trivial) (.inl rfl) (fun b u hb hu => (sb.2 b hb).trans hu) he (Lt.txO_new new))
/-- over tuples and the like: behind each item of the first source the second one's loop; each text goes into the set at D -/
def tSx (w : World) (wi : TI) (g : TG) (wi1 : TI) (g1 : TG) (te : TE) (vs vs1 : List Nat) : TE := fun σ H Q => wi σ H fun J H1 => ∀ D, H1 D = none → ∃ W : Nat → Nat → Hp → Prop, (∃ m, W 0 m (upd H1 D (Lt.TxO w D []))) ∧ ∀ i m H, W i m H →
  (J.stop i H ∧ Q (.ref D) H) ∨ (J.go i H ∧ ∃ Nx : Hp → Prop, (∀ H', Nx H' → ∃ m', m' < m ∧ W (i + 1) m' H') ∧ ∀ x H', J.yld i H x H' → g x (wipe σ vs) H' fun σ2 H2 => wipe σ2 vs = wipe σ vs ∧
    wi1 σ2 H2 fun J1 H4 => ∃ W1 : Nat → Nat → Hp → Prop, (∃ m, W1 0 m H4) ∧ ∀ j k H, W1 j k H →
      (J1.stop j H ∧ Nx H) ∨ (J1.go j H ∧ ∃ Nx1 : Hp → Prop, (∀ H', Nx1 H' → ∃ k', k' < k ∧ W1 (j + 1) k' H') ∧ ∀ x H', J1.yld j H x H' → g1 x (wipe σ2 vs1) H' fun σ3 H5 => wipe σ3 vs1 = wipe σ2 vs1 ∧
        te σ3 H5 fun y H7 => ∃ z xs, y = .str z ∧ H7 D = some (Lt.TxO w D xs) ∧ xs.length + 1 < scanBound ∧ Nx1 (upd H7 D (Lt.TxO w D (Lt.ins z xs)))))
theorem pe_sx {elt tg iter tg1 iter1 : Expr} {scope : Scope} {own : List (Str × Nat)} {vs1 : List Nat} {pos : Pos} {wi wi1 : TI} {g g1 : TG} {te : TE} (hc : X.calm = true) (hN : X.N.Nodup) (hi : PI X tg iter wi) (ok : BlkOk X.N X.env.scope scope own) (hv : ∀ i ∈ vs1, i ∈ own.map (·.2))
    (hg : ∀ (s : Shared) (H : Hp) (C : Addr) (cl : List (Str × Addr)) (fp : List Addr), PG (X.blk s H scope (compEnvC scope cl C X.env) fp) tg g)
    (hi1 : ∀ (s : Shared) (H : Hp) (C : Addr) (cl : List (Str × Addr)) (fp : List Addr), PI (X.blk s H scope (compEnvC scope cl C X.env) fp) tg1 iter1 wi1)
    (hg1 : ∀ (s : Shared) (H : Hp) (C : Addr) (cl : List (Str × Addr)) (fp : List Addr), PG (X.blk s H scope (compEnvC scope cl C X.env) fp) tg1 g1)
    (he : ∀ (s : Shared) (H : Hp) (C : Addr) (cl : List (Str × Addr)) (fp : List Addr), PE (X.blk s H scope (compEnvC scope cl C X.env) fp) elt te) (hs : ∀ x, foldedSetIterable iter X.env x = pure x := by intro _; rfl) (hs1 : ∀ env x, foldedSetIterable iter1 env x = pure x := by intro _ _; rfl) :
    PE X (.SetComp elt [⟨tg, iter, [], 0⟩, ⟨tg1, iter1, [], 0⟩] scope pos) (tSx X.w wi g wi1 g1 te (own.map (·.2)) vs1) := by
  refine ⟨fun pins s σ H Q I h => ?_⟩
  have hfree : ∀ y ∈ scope.names, y.2 = .free → ∃ c, X.env.cells.lookup y.1 = some c := fun y hy e => (ok.free y hy e).elim (fun k => I.ok.has _ (.inl k)) fun k => I.ok.has _ (.inr k)
  rw [PpSet.eval_SetComp]
  refine wpAny_comprehension_free (use := none) rfl hs (closure_ok hfree) ok.kind (fun y hy e => by rw [ok.uniq y hy, e])
    (thn (hi.run pins s σ H _ I h) fun xv s1 hx => thn hx fun itv s2 h2 => ?_)
  obtain ⟨it, fp, tn, J, H2, rfl, I2, T, st2, f2, q⟩ := h2
  refine PpSet.newSet_ok (newEnv_comp ?_)
  generalize hD : s2.heap.objs.size = D
  have hDn : H2 D = none := I2.hok.fresh (Nat.le_of_eq hD)
  obtain ⟨W, ⟨m0, w0⟩, turn⟩ := q D hDn
  generalize hs3 : ({ s2 with heap := s2.heap.push { cls := .type "set", dict := none, data := .set #[] 0 (.fresh 0 0 (!X.w.params.followText "set-order")) } } : Shared) = s3
  have h3 : s3.heap = s2.heap.push { cls := .type "set", dict := none, data := .set #[] 0 (.fresh 0 0 (!X.w.params.followText "set-order")) } := by rw [← hs3]
  generalize hH3 : upd H2 D (Lt.TxO X.w D []) = H3 at w0
  have I3 : Inv X pins σ H3 s3 := by
    rw [← hs3, ← hH3]
    refine I2.laid (t' := s2.toks) (fun b o e => Heap.get?_push_of_some _ e) (Nat.le_of_eq hD) ?_
    rw [← hD]
    exact Lt.txO_new (Lt.tset_nil (Heap.get?_push_size _ rfl))
  have f3 : ∀ b ∈ fp, FpOk X pins H3 b ∧ b < s3.heap.objs.size := fun b hb => by
    obtain ⟨o, e, _⟩ := T.obj _ _ st2 b hb
    have lt := Heap.lt_size e
    refine ⟨⟨?_, (f2 b hb).2⟩, by rw [h3, Heap.size_push]; exact Nat.lt_succ_of_lt lt⟩
    rw [← hH3, upd_ne (by rw [← hD]; exact Nat.ne_of_lt lt)]
    exact (f2 b hb).1
  have I4 := block_start I3 ok hN f3
  have pg := hg s3 H3 s3.heap.objs.size (cellsFrom (s3.heap.objs.size + 1) scope.names (cloFrom X.env.cells scope.names [])) fp
  have pe := he s3 H3 s3.heap.objs.size (cellsFrom (s3.heap.objs.size + 1) scope.names (cloFrom X.env.cells scope.names [])) fp
  have pi1 := hi1 s3 H3 s3.heap.objs.size (cellsFrom (s3.heap.objs.size + 1) scope.names (cloFrom X.env.cells scope.names [])) fp
  have pg1 := hg1 s3 H3 s3.heap.objs.size (cellsFrom (s3.heap.objs.size + 1) scope.names (cloFrom X.env.cells scope.names [])) fp
  show codeAny _ _ (.compStart (.SetComp elt [⟨tg, iter, [], 0⟩, ⟨tg1, iter1, [], 0⟩] scope pos) 0 (.ref it) (.ref D) (compEnvC scope (cellsFrom (s3.heap.objs.size + 1) scope.names (cloFrom X.env.cells scope.names [])) s3.heap.objs.size X.env)) (compPost (model X.prog X.w) X.A X.xe none (EP X pins σ Q) (.ref D) s3.heap.objs.size) { s3 with heap := pushCells (s3.heap.push { cls := .type "dict", data := .dict #[] }) scope.names }
  generalize hce : compEnvC scope (cellsFrom (s3.heap.objs.size + 1) scope.names (cloFrom X.env.cells scope.names [])) s3.heap.objs.size X.env = ce at I4 pg pe pi1 pg1 ⊢
  have cL : ce.locals = s3.heap.objs.size := by subst hce; rfl
  generalize hs4 : ({ s3 with heap := pushCells (s3.heap.push { cls := .type "dict", data := .dict #[] }) scope.names } : Shared) = s4 at I4 ⊢
  have st4 : tn 0 s4.heap := T.keep _ _ _ st2 fun b _ o e => by
    rw [← hs4]
    refine pushCells_keeps _ _ _ _ (Heap.get?_push_of_some _ ?_)
    rw [h3]
    exact Heap.get?_push_of_some _ e
  have nfp : ∀ b ∈ fp, H3 b = none := fun b hb => (f3 b hb).1.1
  have stat : ∀ {σ' : L2.St} {H' : Hp} {s' : Shared}, Inv (X.blk s3 H3 scope ce fp) [] σ' H' s' → (∀ b ∈ fp, H' b = none) → ∀ b ∈ fp, FpOk (X.blk s3 H3 scope ce fp) [] H' b := fun {σ' H' s'} I' hn b hb =>
    ⟨hn b hb, (I'.ok.exf b hb).1, I'.ok.exfs b hb, .inl hb, fun x c e => (I'.ok.exf b hb).2 x c e, fun p hp => absurd (show p ∈ ([] : List (Addr × Obj)) ++ [] from hp) (by simp)⟩
  -- the pinned source's objects, behind the turn
  have held : ∀ {F0 : List Addr} {tn0 : Nat → Heap → Prop} {i0 : Nat} {sa sb : Shared} {σ' : L2.St} {H' : Hp} {pn : List (Addr × Obj)}, Inv (X.blk s3 H3 scope ce fp) (pn ++ pinsAt F0 sa.heap) σ' H' sb → ∀ b ∈ F0, ∀ o, sa.heap.get? b = some o → sb.heap.get? b = some o ∧ H' b = none :=
    fun {F0 tn0 i0 sa sb σ' H' pn} I' b hb o e => let z := I'.pin (b, o) (List.mem_append_right _ (List.mem_append_right _ (mem_pinsAt hb e))); ⟨z.1, z.2.1⟩
  have loop : codeAny (model X.prog X.w) X.A (.compLoop (.SetComp elt [⟨tg, iter, [], 0⟩, ⟨tg1, iter1, [], 0⟩] scope pos) 0 (.ref it) (.ref D) ce) (compPost (model X.prog X.w) X.A X.xe none (EP X pins σ Q) (.ref D) s3.heap.objs.size) s4 := by
    refine sx_loop0 (hs1 ce) (fun n s' => ∃ i H', Inv (X.blk s3 H3 scope ce fp) [] (wipe σ (own.map (·.2))) H' s' ∧ tn i s'.heap ∧ (∀ b ∈ fp, H' b = none) ∧ W i n H') ?_ m0 ⟨0, H3, I4, st4, nfp, w0⟩
    rintro n s5 ⟨i, H5, I5, st5, n5, w5⟩
    rcases turn i n H5 w5 with ⟨stop, qq⟩ | ⟨go, Nx, hNx, step⟩
    · refine thnF (T.done (X.blk s3 H3 scope ce fp) rfl rfl rfl hc i [] s5 _ H5 (fun _ _ => False) I5 (stat I5 n5) st5 stop) fun r s6 ⟨hr, I6⟩ => ?_
      subst hr
      have I7 : Inv X pins σ H5 s6 := I3.call' (ch := fp) I6.os I6.base I6.hok I6.bare fun b hb => ⟨(f3 b hb).1.2.2.2.1, (f3 b hb).1.2.1, (f3 b hb).1.2.2.2.2.1, (f3 b hb).1.2.2.2.2.2⟩
      have nC : H5 s3.heap.objs.size = none := by
        have z : H5 ce.locals = none := I6.free
        rw [cL] at z
        exact z
      obtain ⟨m, hn, _⟩ := I6.loc
      have hn : s6.heap.Ns ce.locals m := hn
      rw [cL] at hn
      obtain ⟨f0, f1, f2', f3', f4, f5⟩ := I3.fpOk (Nat.le_refl _) nC
      exact ⟨m, hn, fun h'' sb => ⟨.ref D, H5, I7.turned (t' := s6.toks) (fun b o hb e => (sb.2 b hb).trans e) f0 f1 f3' f4 f5, rfl, qq⟩⟩
    · refine thnF (T.item (X.blk s3 H3 scope ce fp) rfl rfl rfl hc i [] s5 _ H5 (fun _ _ => False) I5 (stat I5 n5) st5 go) fun r s6 ⟨u, hr, h6⟩ => ?_
      subst hr
      refine thnF h6 fun _ s7 ⟨x, H7, I7, r7, y7, st7, n7⟩ => ?_
      have I7' := I7.pinned (stat I7 n7) (T.obj _ _ st7)
      refine thnF (pg.run _ s7 _ H7 x u _ I7' r7 (step x H7 y7)) fun _ s8 ⟨σ8, H8, I8, hw8, q8⟩ => ?_
      have hl8 : (wipe σ (own.map (·.2))).length = σ8.length := by rw [← hw8, wipe_length]
      have hk9 : ∀ (j : Nat) v, (wipe σ (own.map (·.2)))[j]? = some (some v) → (wipe σ8 vs1)[j]? = some (some v) := fun j v e => by
        rw [← hw8] at e
        obtain ⟨e1, e2⟩ := wipe_some e
        rw [wipe_out fun z => e2 (hv j z)]
        exact e1
      refine thnF (pi1.run _ s8 σ8 H8 _ I8 q8) fun xv s10 hx => thnF hx fun itv s11 h11 => ?_
      obtain ⟨it1, fp1, tn1, J1, H11, rfl, I11, T1, st11, f11, W1, ⟨m1, w1⟩, turn1⟩ := h11
      have stat1 : ∀ {H' : Hp}, (∀ b ∈ fp1, H' b = none) → ∀ b ∈ fp1, FpOk (X.blk s3 H3 scope ce fp) ([] ++ pinsAt fp s7.heap) H' b := fun hn b hb => ⟨hn b hb, (f11 b hb).2⟩
      have loop1 : codeAny (model X.prog X.w) X.A (.compLoop (.SetComp elt [⟨tg, iter, [], 0⟩, ⟨tg1, iter1, [], 0⟩] scope pos) 1 (.ref it1) (.ref D) ce)
          (fun r s' => match r with
            | .ok _ => ∃ m, m < n ∧ ∃ i H', Inv (X.blk s3 H3 scope ce fp) [] (wipe σ (own.map (·.2))) H' s' ∧ tn i s'.heap ∧ (∀ b ∈ fp, H' b = none) ∧ W i m H'
            | .error _ => False) s11 := by
        refine sx_loop1 (fun k s' => ∃ j H', Inv (X.blk s3 H3 scope ce fp) ([] ++ pinsAt fp s7.heap) (wipe σ8 vs1) H' s' ∧ tn1 j s'.heap ∧ (∀ b ∈ fp1, H' b = none) ∧ W1 j k H') ?_ m1 ⟨0, H11, I11.weak (wipe_length _ _) (fun j v e => (wipe_some e).1), st11, fun b hb => (f11 b hb).1, w1⟩
        rintro k s12 ⟨j, H12, I12, st12, n12, w12⟩
        rcases turn1 j k H12 w12 with ⟨stop1, nx1⟩ | ⟨go1, Nx1, hNx1, step1⟩
        · refine thnF (T1.done (X.blk s3 H3 scope ce fp) rfl rfl rfl hc j _ s12 (wipe σ8 vs1) H12 (fun _ _ => False) I12 (stat1 n12) st12 stop1) fun r s13 ⟨hr, I13⟩ => ?_
          subst hr
          obtain ⟨m', hm, w'⟩ := hNx H12 nx1
          have hp := held (tn0 := tn) (i0 := i) I13
          refine ⟨m', hm, i + 1, H12, (I13.unpinned (pins := [])).weak (hl8.trans (wipe_length σ8 vs1).symm) hk9, T.keep _ _ _ st7 fun b hb o e => (hp b hb o e).1, fun b hb => ?_, w'⟩
          obtain ⟨o, e, _⟩ := T.obj _ _ st7 b hb
          exact (hp b hb o e).2
        · refine thnF (T1.item (X.blk s3 H3 scope ce fp) rfl rfl rfl hc j _ s12 (wipe σ8 vs1) H12 (fun _ _ => False) I12 (stat1 n12) st12 go1) fun r s13 ⟨u1, hr, h13⟩ => ?_
          subst hr
          refine thnF h13 fun _ s14 ⟨x1, H14, I14, r14, y14, st14, n14⟩ => ?_
          have I14' := I14.pinned (stat1 n14) (T1.obj _ _ st14)
          refine thnF (pg1.run _ s14 (wipe σ8 vs1) H14 x1 u1 _ I14' r14 (step1 x1 H14 y14)) fun _ s15 ⟨σ15, H15, I15, hw15, q15⟩ => ?_
          refine thnF (pe.run _ s15 σ15 H15 _ I15 q15) fun z s17 ⟨yv, H17, I17, r17, zt, xs, ey, hD17, hz17, nx⟩ => ?_
          subst ey
          obtain ⟨ut, rfl⟩ : ∃ ut, z = Value.str zt ut := r17
          refine addT_ok (X := X.blk s3 H3 scope ce fp) I17 hD17 hz17 fun s18 I18 => ?_
          obtain ⟨m', hm, w'⟩ := hNx1 _ nx
          have hp := held (tn0 := tn1) (i0 := j) I18
          refine ⟨m', hm, j + 1, _, I18.unpinned.weak (by rw [← hw15, wipe_length]) (fun j v e => by rw [← hw15] at e; exact (wipe_some e).1), T1.keep _ _ _ st14 fun b hb o e => (hp b hb o e).1, fun b hb => ?_, w'⟩
          obtain ⟨o, e, _⟩ := T1.obj _ _ st14 b hb
          exact (hp b hb o e).2
      exact sx_start1 loop1 (T1.self X.A 0 _ _ _ st11 loop1)
  exact PpSet.codeAny_compStart_set loop (T.self X.A 0 _ _ _ st4 loop)
end
end Lw

/-! ## Sx5 -/
set_option maxHeartbeats 4000000
/-! t + u of any tuples; max(ns, default=d); a method by the instance's class; an instance called -/
namespace Lw
open PySem PySem.Spec PyProof.Rows L2
theorem tuple_addW0 (l b : Addr) (items items2 : Array Value) (n n2 : Nat) (dd dd2 : Option Addr) (sl sl2 : Array (Option Value)) (hc0 : items.isEmpty = true) :
    Meets (Builtin.«tuple.__add__» ⟨[.ref l, .ref b], []⟩) (fun _ R s => s.heap.get? l = some { cls := .type "tuple", dict := dd, data := .seq items n, slots := sl } ∧ s.heap.get? b = some { cls := .type "tuple", dict := dd2, data := .seq items2 n2, slots := sl2 } ∧ R (.ok (.ret (Value.ref b))) { s with heap := s.heap, toks := s.toks }) :=
  .of_wp fun prog w A R s h => by obtain ⟨hp, g, d, tk, os⟩ := s; obtain ⟨hl, hb, h⟩ := h; have f1 := AutoSeq1.idx_int; have f2 := AutoSeq1.sub_tuple_tuple; have f3 := AutoSeq1.sub_list_list; have f4 := AutoSeq1.sub_tuple_list; have f5 := AutoSeq1.sub_list_tuple; wp_walk using wpAny_loadPart' hl, wpAny_loadPart' hb; exact ⟨_, rfl, h⟩
theorem cat_tup0 {prog : Program} {w : World} {A : Around} {E : Value → Shared → Prop} {s : Shared} {t b : Addr} {ws : List Value} {Q : Value → Shared → Prop} (ht : IsTup s.heap t #[]) (hb : IsTup s.heap b ws.toArray) (h : Q (.ref b) s) : wpAny (model prog w) A (binaryOp .Add (.ref t) (.ref b)) Q E s := by
  obtain ⟨⟨cls, dd, data, sl⟩, ho, hc, n, hd⟩ := id ht
  obtain ⟨⟨cls2, dd2, data2, sl2⟩, ho2, hc2, n2, hd2⟩ := id hb
  simp only at hc hd hc2 hd2
  subst hc hd hc2 hd2
  exact concat_meets ⟨_, ho, rfl⟩ ⟨_, ho2, rfl⟩ noFill_tuple_add seq_tuple_add PySem.F.slot_tuple_add PySem.F.entry_tuple_add (PySem.F.args_tuple_add_2 _ _)
    (tuple_addW0 t b #[] ws.toArray n n2 dd dd2 sl sl2 rfl) ⟨ho, ho2, h⟩
/-- t + u, one of them empty -/
def rCat0 (K : PySem.W.Frag) : R2 := fun x y H Q => ∃ a b xs ys, x = .ref a ∧ y = .ref b ∧ SqT K H a xs ∧ SqT K H b ys ∧ (xs = [] ∨ ys = []) ∧ xs.length + ys.length ≤ sizeLine ∧ ∀ p, SqT K H p (xs ++ ys) → Q (.ref p) H
section
variable {X : Cx}
theorem op_cat0 : OpR X (binaryOp .Add) (rCat0 X.K) := by
  intro pins s σ H x y v u Q I rx ry h
  obtain ⟨a, b, xs, ys, rfl, rfl, ha, hb, hz, hs, q⟩ := h
  cases xs with
  | nil =>
    cases rx
    cases ry
    obtain ⟨its, r1, p1, _⟩ := I.tuple ha
    obtain ⟨its2, r2, p2, _⟩ := I.tuple hb
    cases r1
    exact cat_tup0 p1 p2 ⟨.ref b, H, I, rfl, q b hb⟩
  | cons z zs =>
    have e : ys = [] := hz.resolve_left (fun q => nomatch q)
    subst e
    exact op_catT pins s σ H _ _ _ _ _ I rx ry ⟨a, b, z :: zs, [], rfl, rfl, ha, hb, (fun q => nomatch q), hs, fun _ => q a (by rw [List.append_nil]; exact ha), fun q => absurd rfl q⟩
/-! ### max(ns, default=d) -/
def topI (d : Int) : List Int → Int
  | [] => d
  | n :: r => r.foldl max n
def rMaxDef (K : PySem.W.Frag) : List V → List V → Hp → VK → Prop := fun vs zs H Q => ∃ (a : Addr) (ns : List Int) (d : Int), vs = [V.ref a] ∧ zs = [V.int d] ∧ SqL K H a (ns.map V.int) ∧ Q (.int (topI d ns)) H
theorem ints_read {h : Heap} : ∀ {its : List Value} {ns : List Int}, IntsAre its ns → ReadsAll h its (ns.map PyData.int) []
  | _, _, .nil => .nil
  | _, _, .cons n t r => .cons (as := []) (.int n t) (ints_read r)
theorem ints_alike (ns : List Int) : PySem.W.AlikeAll (ns.map PyData.int) := by
  refine ⟨fun x hx y hy => ?_, fun x hx => ?_⟩
  · obtain ⟨i, _, rfl⟩ := List.mem_map.mp hx
    obtain ⟨j, _, rfl⟩ := List.mem_map.mp hy
    first | rfl | simp [PySem.SeqAt.alike] | simp [alike]
  · obtain ⟨i, _, rfl⟩ := List.mem_map.mp hx
    exact fun q => nomatch q
theorem ints_depth : ∀ ns : List Int, PyData.depthAll (ns.map PyData.int) = 0
  | [] => rfl
  | n :: r => by
    simp only [List.map_cons, PyData.depthAll, PyData.depth, ints_depth r]
    rfl
theorem cr_maxDef (hc : X.calm = true) (hu : X.A.units + 64 < cLine) : CallRK X (.builtin "max") [Str.ofString "default"] (rMaxDef X.K) := by
  intro pins s σ H xs zs us ws Q I rx rz h
  obtain ⟨a, ns, d, rfl, rfl, hs, q⟩ := h
  obtain ⟨its, rv, hl, _⟩ := I.list hs
  rw [Vals.ref1 rx]
  obtain ⟨t, rfl⟩ : ∃ t, ws = [Value.int d t] := by
    cases rz with
    | cons h r =>
      cases r
      obtain ⟨t, rfl⟩ := h
      exact ⟨t, rfl⟩
  have li : s.heap.IsList a its.toArray := hl.isList
  refine PySem.W.max_list_default (xs := ns.map PyData.int) (as := []) (I.ok.hd hc) li (ints_read rv.ints) (ints_alike ns) (by rw [ints_depth]; omega) (fun e h' tk hk => ?_) fun y ys i v h' tk bs e hv hr hk => ?_
  · have e : ns = [] := by simpa using e
    subst e
    exact ⟨.int d, H, I.kept hk, ⟨t, rfl⟩, q⟩
  · cases ns with
    | nil => cases e
    | cons n r =>
      cases e
      rw [PySem.W.maxD_ints] at hr
      cases hr with
      | int _ t2 => exact ⟨.int _, H, I.kept hk, ⟨t2, rfl⟩, q⟩
/-! ### a method by the instance's class -/
variable {k j : Nat} {ps : List Str} {sp : Sp} {spc : Nat → Sp} {Kd : Nat → Addr → Prop} {m : Str} {o e fe : Expr} {es : List Expr} {kws : List Keyword} {ta tf : TE} {t tk : TA} {pos apos : Pos} {Kn : Addr → Prop}
/-- o.m(e, ..), o an instance of one of some classes (Kd: of which kind), each with its own promise -/
def tMeD (Kd : Nat → Addr → Prop) (m : Str) (spc : Nat → Sp) (ta : TE) (t : TA) : TE := fun σ H Q => ta σ H fun x H1 => ∃ a C dx fs n, x = .ref a ∧ H1 a = some (.ins C dx fs) ∧ Kd n C ∧ fs.lookup m = none ∧ t σ H1 fun vs H2 => spc n (x :: vs) H2 Q E0
theorem pe_meD {pl : Sem Bool} (he : PE X o ta) (M : ∀ n C, Kd n C → Cls X.K C ∧ Mt X.prog X.w X.K X.mg X.base k C m ps (spc n)) (hr : RoomG j X.A) (hk : k ≤ j) (ha : PA X (e :: es) t)
    (hst : starEach (e :: es) X.env = (false, eval e X.env) :: starEach es X.env := by rfl) (hpl : (backTo pos (starEach es X.env)).any (·.1) = false := by rfl)
    (ht : eval (.Call (.Attribute o m apos) (e :: es) [] pos) X.env = (do
      let ov ← eval o X.env
      standAt apos.atName
      let (f, first) ← holding [ov] (getMethod ov m pl)
      callWith pos f first (backTo pos (starEach (e :: es) X.env)) (backToKw pos (keywordEach [] X.env))) := by rfl) :
    PE X (.Call (.Attribute o m apos) (e :: es) [] pos) (tMeD Kd m spc ta t) := by
  refine ⟨fun pins s σ H Q I h => ?_⟩
  refine PySem.W.methodCall_KW (pl := pl) (thn (he.run pins s σ H _ I h) fun u s1 ⟨x, H1, I1, rx, a, C, dx, fs, n, ex, ea, kn, l, q⟩ => ?_) ht
  subst ex
  obtain rfl : u = Value.ref a := rx
  obtain ⟨c, M⟩ := M n C kn
  obtain ⟨f, fd, F, hm, b, _⟩ := M.ex
  refine getmeth_ok I1 ea c hm l ?_
  refine PySem.W.callWith_K (first := [.ref a]) (h₀ := X.base) I.ok.mod.kin hm.kp (thn (ha.run pos pins s1 σ H1 _ I1 q) fun us s2 ⟨vs, H2, I2, r, q2⟩ => ⟨I2.kIn, ?_⟩) hst hpl
  have r2 : Vals (V.ref a :: vs) (Value.ref a :: us) := .cons rfl r
  exact wpAny_call (codeAny_mono (run_at F (hr.mono hk) rfl (b (Value.ref a :: us) (by rw [← r2.length]; exact F.len _ _ _ _ q2)) I2 r2 q2) fun r s' z => by
    rcases r with e | (v | _ | _ | _) <;> exact z)
/-! ### an instance called -/
/-- the def at g, of one parameter beside self, is what calling an instance of C runs -/
structure CallD (P : Program) (w : World) (K : PySem.W.Frag) (mg : Str → Option Value) (base : Heap) (k : Nat) (C : Addr) (p1 p2 : Str) (sp : Sp) : Prop where
  ex : ∃ (g : Addr) (fd : FuncData), StX.CallO K C g ∧ FnG P w K mg base k g fd [p1, p2] sp ∧ (∀ u v : Value, bindArgs fd ⟨[u, v], []⟩ = pure ([p1, p2].zip [u, v])) ∧ ∀ u v : Value, bindArgs fd ⟨[u], [(p2, v)]⟩ = pure ([p1, p2].zip [u, v])
def tCallD (Kn : Addr → Prop) (sp : Sp) (tf : TE) (t : TA) : TE := fun σ H Q => tf σ H fun y H1 => ∃ a, y = V.ref a ∧ t σ H1 fun vs H2 => ∃ C dx fs, H2 a = some (.ins C dx fs) ∧ Kn C ∧ sp (y :: vs) H2 Q E0
theorem pe_callD {p1 p2 : Str} (hf : PE X fe tf) (c : ∀ C, Kn C → CallD X.prog X.w X.K X.mg X.base k C p1 p2 sp) (hr : RoomG j X.A) (hk : k ≤ j) (ha : PA X (e :: es) t)
    (ht : eval (.Call fe (e :: es) [] pos) X.env = (do callWith pos (← eval fe X.env) [] (backTo pos (starEach (e :: es) X.env)) (backToKw pos (keywordEach [] X.env))) := by rfl)
    (he : starEach (e :: es) X.env = (false, eval e X.env) :: starEach es X.env := by rfl) (hpl : (backTo pos (starEach es X.env)).any (·.1) = false := by rfl) : PE X (.Call fe (e :: es) [] pos) (tCallD Kn sp tf t) := by
  refine ⟨fun pins s σ H Q I h => ?_⟩
  refine Call_ (thn (hf.run pins s σ H _ I h) fun u s1 ⟨y, H1, I1, ry, a, ey, q⟩ => ?_) ht
  subst ey
  obtain rfl : u = Value.ref a := ry
  refine StX.callO_with (thn (ha.run pos pins s1 σ H1 _ I1 q) fun us s2 ⟨vs, H2, I2, r, C, dx, fs, hi, kn, q2⟩ => ?_) he hpl
  obtain ⟨ox, od, J, hd⟩ := StX.insC_at I2 (.inr ⟨dx, fs, hi⟩)
  obtain ⟨g, fd, co, F, b, _⟩ := (c C kn).ex
  have r2 : Vals (V.ref a :: vs) (Value.ref a :: us) := .cons rfl r
  obtain ⟨v, rfl⟩ : ∃ v, us = [v] := by
    have l2 := F.len _ _ _ _ q2
    have l3 := r.length
    simp at l2
    match us, (show us.length = 1 by omega) with
    | [v], _ => exact ⟨v, rfl⟩
  refine ⟨⟨C, ox, od, J, hd⟩, wpAny_call (PySem.W.kco_code I2.kIn J hd co.at_ co.fn co.fi (codeAny_mono (run_at F (hr.mono hk) rfl (b _ _) I2 r2 q2) fun r s' z => ?_))⟩
  rcases r with e | (v | _ | _ | _) <;> exact z
/-- by its name -/
theorem pe_callDk {p1 p2 : Str} (hf : PE X fe tf) (c : ∀ C, Kn C → CallD X.prog X.w X.K X.mg X.base k C p1 p2 sp) (hr : RoomG j X.A) (hk : k ≤ j) (hkw : PK X kws tk)
    (hall : (backToKw pos (keywordEach kws X.env)).all (·.1.isSome) = true := by rfl) (hks : (backToKw pos (keywordEach kws X.env)).filterMap (·.1) = [p2] := by rfl)
    (hpl : ((backTo pos (starEach [] X.env)).any (·.1) || (backToKw pos (keywordEach kws X.env)).any (·.1.isNone)) = false := by rfl)
    (ht : eval (.Call fe [] kws pos) X.env = (do callWith pos (← eval fe X.env) [] (backTo pos (starEach [] X.env)) (backToKw pos (keywordEach kws X.env))) := by rfl) : PE X (.Call fe [] kws pos) (tCallD Kn sp tf tk) := by
  refine ⟨fun pins s σ H Q I h => ?_⟩
  rw [ht]
  refine wpAny_bind (thn (hf.run pins s σ H _ I h) fun u s1 ⟨y, H1, I1, ry, a, ey, q⟩ => ?_)
  subst ey
  obtain rfl : u = Value.ref a := ry
  unfold callWith
  refine wpAny_bind (wpAny_holding (PyProof.Rows.evalArgs_kw2_nil hall (thn (hkw.run pos pins s1 σ H1 _ I1 q) fun us s2 ⟨vs, H2, I2, r, C, dx, fs, hi, kn, q2⟩ => ?_)))
  refine wpAny_bind (wpAny_standAt ?_)
  obtain ⟨ox, od, J, hd⟩ := StX.insC_at I2 (.inr ⟨dx, fs, hi⟩)
  obtain ⟨g, fd, co, F, _, b⟩ := (c C kn).ex
  have r2 : Vals (V.ref a :: vs) (Value.ref a :: us) := .cons rfl r
  obtain ⟨v, rfl⟩ : ∃ v, us = [v] := by
    have l2 := F.len _ _ _ _ q2
    have l3 := r.length
    simp at l2
    match us, (show us.length = 1 by omega) with
    | [v], _ => exact ⟨v, rfl⟩
  have L := PySem.W.kco_keeper (M := model X.prog X.w) J hd
  rw [hks]
  simp only [hpl]
  refine wpAny_bind (L.here ?_)
  have h₁ : wpAny (model X.prog X.w) X.A (call (.ref a) ([] ++ []) ([p2].zip [v])) (EP X pins σ Q) X.xe s2 := wpAny_call (PySem.W.kco_code I2.kIn J hd co.at_ co.fn co.fi (codeAny_mono (run_at F (hr.mono hk) rfl (b _ _) I2 r2 q2) fun r s' z => by
    rcases r with e | (v | _ | _ | _) <;> exact z))
  exact wpAny_bind (wpAny_mono (wpAny_operateT h₁) (fun r s₂ hr => wpAny_bind (wpAny_holding (wpAny_point (wpAny_pure hr)))) fun _ _ y => y)
end
end Lw

/-! ## FkB -/
set_option maxHeartbeats 4000000
namespace Lw
open PySem PySem.Spec PyProof.Rows L2
def topS (i : Nat) : Stmt := PySem.Challenge.pw_blockmoves_k06_truth_of_conditions.main.body.getD i (.Pass ⟨0, 0, 0, 0⟩)

abbrev s__law_cell : Stmt := topS 52
abbrev n__law_cell : List Str := ["_law_script", "_law_k", "_law_mixed", "_law_number"]
theorem sc__law_cell : FnScope n__law_cell ["_law_script", "_law_k"] (defScope s__law_cell) := ⟨rfl, rfl, rfl, by decide +kernel, rfl, by decide +kernel, by decide +kernel⟩

abbrev s__law_heap : Stmt := topS 53
abbrev n__law_heap : List Str := ["_law_number", "_law_digits"]
theorem sc__law_heap : FnScope n__law_heap ["_law_number"] (defScope s__law_heap) := ⟨rfl, rfl, rfl, by decide +kernel, rfl, by decide +kernel, by decide +kernel⟩

abbrev s__law_roll : Stmt := topS 54
abbrev n__law_roll : List Str := ["_law_heap_here", "_law_many", "_law_digit", "_law_state"]
theorem sc__law_roll : FnScope n__law_roll ["_law_heap_here", "_law_many"] (defScope s__law_roll) := ⟨rfl, rfl, rfl, by decide +kernel, rfl, by decide +kernel, by decide +kernel⟩

abbrev s__law_pick : Stmt := topS 55
abbrev n__law_pick : List Str := ["_law_heap_here", "_law_things"]
theorem sc__law_pick : FnScope n__law_pick ["_law_heap_here", "_law_things"] (defScope s__law_pick) := ⟨rfl, rfl, rfl, by decide +kernel, rfl, by decide +kernel, by decide +kernel⟩

/-- the built-ins that stand -/
structure Blt (mg : Str → Option Value) : Prop where
  b_len : mg "len" = none
  b_int : mg "int" = none
  b_abs : mg "abs" = none
/-- len of what is picked from -/
theorem call_lenU {X : Cx} : CallR X (.builtin "len") (fun xs H Q => (∃ p ys, xs = [.ref p] ∧ (SqL X.K H p ys ∨ SqT X.K H p ys) ∧ Q (.int ys.length) H) ∨ ∃ z, xs = [.str z] ∧ z.length ≤ sizeLine ∧ Q (.int z.length) H) := by
  intro pins s σ H xs us Q I r h
  rcases h with ⟨p, ys, rfl, hq, q⟩ | ⟨z, rfl, hz, q⟩
  · exact call_len_seq pins s σ H _ us Q I r ⟨p, ys, rfl, hq, q⟩
  · exact call_len_str pins s σ H _ us Q I r ⟨z, rfl, hz, q⟩
/-- an int -/
def spCellI (K : PySem.W.Frag) : Sp := fun vs H Q _ => ∃ (a : Addr) (ns : List Int) (k : Int), vs = [.ref a, .int k] ∧ SqL K H a (ns.map V.int) ∧ ns.length ≤ 63 ∧ 0 ≤ k ∧ k ≤ 63 ∧ ∀ (z : Int) (H' : Hp), Same H H' → Q (.int z) H'
/-- what the draws are made from -/
def spHeapL : Sp := fun vs H Q _ => ∃ (z : Int), vs = [.int z] ∧ ∀ (s d : Int) (p : Addr), DB s d → H p = none → Q (.ref p) (upd H p (.lst [.int s, .int d, .int 0]))
def spHeap : Sp := fun vs H Q _ => ∃ (z : Int), vs = [.int z] ∧ ∀ (p : Addr), H p = none → Q (.ref p) (upd H p (DrawO p))
theorem heap_recast {P : Program} {w : World} {K : PySem.W.Frag} {mg : Str → Option Value} {base : Heap} {k : Nat} {f : Addr} {fd : FuncData} {ps : List Str} (hps : ps.length = 1) (F : FnOk P w K mg base CX0 k f fd ps spHeapL) : FnOk P w K mg base CX0 k f fd ps spHeap := by
  refine recast F (fun vs H Q E h => ?_) fun vs H Q E h q ok => ?_
  · obtain ⟨z, rfl, _⟩ := h
    exact hps.symm
  · obtain ⟨z, rfl, q⟩ := q
    refine ⟨H, Rc.refl H, ok, z, rfl, fun s d p b hp h' ok' => ?_⟩
    have e : upd (upd H p (.lst [.int s, .int d, .int 0])) p (DrawO p) = upd H p (DrawO p) := upd_upd
    have z1 := Rc.put (H := upd H p (.lst [.int s, .int d, .int 0])) (a := p) (u := DrawO p) upd_same True.intro True.intro
    have z2 := Rc.hok (u := DrawO p) ok' upd_same True.intro (draw_of b (ok' p _ upd_same))
    rw [e] at z1 z2
    exact ⟨_, z1, z2, q p hp⟩
/-- what is picked from -/
inductive Pick (K : PySem.W.Frag) (H : Hp) : V → (V → Prop) → Prop
  | lst {a : Addr} {xs : List V} (h : SqL K H a xs) (h0 : xs ≠ []) (hl : xs.length ≤ 1000) : Pick K H (.ref a) (fun v => v ∈ xs)
  | tup {a : Addr} {xs : List V} (h : SqT K H a xs) (h0 : xs ≠ []) (hl : xs.length ≤ 1000) : Pick K H (.ref a) (fun v => v ∈ xs)
  | str {z : Str} (h0 : z.cps.toList ≠ []) (hl : z.length ≤ 1000) : Pick K H (.str z) (fun v => ∃ c, c ∈ z.cps.toList ∧ v = .str ⟨#[c]⟩)
def spPick (K : PySem.W.Frag) : Sp := fun vs H Q _ => ∃ (a : Addr) (x : V) (p : V → Prop), vs = [.ref a, x] ∧ H a = some (DrawO a) ∧ Pick K H x p ∧ ∀ v, p v → Q v H
theorem sz1000 {n : Nat} (h : n ≤ 1000) : n ≤ sizeLine := Nat.le_trans h (by decide)
theorem mod_db (i : Int) : 0 ≤ i % 2147483587 ∧ i % 2147483587 < 2147483587 := ⟨Int.emod_nonneg _ (by decide), Int.emod_lt_of_pos _ (by decide)⟩
section
variable {P : Program} {w : World} {K : PySem.W.Frag} {mg : Str → Option Value} {base : Heap}
theorem ok_roll {f : Addr} {fd : FuncData} (F : Fun K "_law_roll" "_law_roll" s__law_roll f fd) (T : Blt mg) : FnOk P w K mg base CX0 1 f fd ["_law_heap_here", "_law_many"] spRoll := by
  refine roll_recast rfl (F.ok sc__law_roll (fun vs H Q E h => ?_) (fun cdv A outer s H vs Q E hr h => ?_))
  · obtain ⟨a, s, d, n, m, rfl, _⟩ := h
    rfl
  · obtain ⟨a, s, d, n, m, rfl, ha, ⟨s0, s1, d0⟩, m0, m1, k⟩ := h
    refine ⟨_, (pss_cons (ps_asg (pe_op op_add (pe_ix ix_list (pv 0) pe_int (fun _ _ => rfl)) pe_int) (pg_sub (pv 0) pe_int set_list))
  (pss_cons (ps_if (pt_cmpR op_gt (pe_ix ix_list (pv 0) pe_int (fun _ _ => rfl)) pe_int (nomark _))
    (pss_cons (ps_set (i := 2) sc__law_roll.nd rfl (by first | exact .inl rfl | exact .inr rfl) (pe_op op_mod (pe_callTy call_int1 (by rfl) T.b_int (by decide +kernel) (pa_cons (pe_ix ix_list (pv 0) pe_int (fun _ _ => rfl)) pa_nil)) (pv 1)))
  (pss_cons (ps_asg (pe_op op_fdivW (pe_ix ix_list (pv 0) pe_int (fun _ _ => rfl)) (pv 1)) (pg_sub (pv 0) pe_int set_list))
  (pss_one (ps_ret (pv 2)))))
    pss_nil)
  (pss_cons (ps_set (i := 3) sc__law_roll.nd rfl (by first | exact .inl rfl | exact .inr rfl) (pe_callTy call_int1 (by rfl) T.b_int (by decide +kernel) (pa_cons (pe_ix ix_list (pv 0) pe_int (fun _ _ => rfl)) pa_nil)))
  (pss_cons (ps_asg (pe_op op_mod (pe_callTy call_int1 (by rfl) T.b_int (by decide +kernel) (pa_cons (pe_op op_add (pe_op op_mul (pv 3) (pe_op op_add (pe_op op_mod (pv 3) pe_int) pe_int)) (pe_op op_mul pe_int (pe_ix ix_list (pv 0) pe_int (fun _ _ => rfl)))) pa_nil)) pe_int) (pg_sub (pv 0) pe_int set_list))
  (pss_one (ps_ret (pe_op op_mod (pe_callTy call_int1 (by rfl) T.b_int (by decide +kernel) (pa_cons (pe_op op_fdiv (pe_ix ix_list (pv 0) pe_int (fun _ _ => rfl)) pe_int) pa_nil)) (pv 1)))))))), ?_⟩
    refine ⟨_, rfl, a, _, 2, _, rfl, rfl, SqL.of ha, rfl, _, _, rfl, rfl, _, rfl, a, _, 2, 2, rfl, rfl, ha, rfl, ?_⟩
    refine ⟨_, rfl, a, _, 1, _, rfl, rfl, SqL.of upd_same, rfl, _, _, rfl, rfl, _, rfl, ?_⟩
    refine ite2 (fun _ => ?_) (fun hc => ?_)
    · refine ⟨_, rfl, a, _, 1, _, rfl, rfl, SqL.of upd_same, rfl, .inl ⟨_, rfl, _, rfl, _, _, rfl, rfl, m0, ?_⟩⟩
      refine ⟨_, rfl, a, _, 1, _, rfl, rfl, SqL.of upd_same, rfl, _, rfl, _, _, rfl, rfl, wide_div m0 m1 (by decide) (by decide), ?_⟩
      refine ⟨_, rfl, a, _, 1, 1, rfl, rfl, upd_same, rfl, ?_⟩
      exact ⟨_, rfl, k _ s (d / m) (n + 1) _ (Int.emod_nonneg _ (by omega)) (Int.emod_lt_of_pos _ m0) ⟨s0, s1, Int.ediv_nonneg d0 (by omega)⟩ (by rw [upd_upd] <;> rfl)⟩
    · refine ⟨_, rfl, a, _, 0, _, rfl, rfl, SqL.of upd_same, rfl, .inl ⟨_, rfl, ?_⟩⟩
      have h40 := Int.emod_nonneg s (show (40009 : Int) ≠ 0 by decide)
      have h41 := Int.emod_lt_of_pos s (show (0 : Int) < 40009 by decide)
      refine ⟨_, rfl, _, rfl, _, _, rfl, rfl, (by show (0 : Int) < 40009; decide), _, _, rfl, rfl, _, _, rfl, rfl, .inl ⟨by omega, by omega⟩, ?_⟩
      refine ⟨_, rfl, a, _, 2, _, rfl, rfl, SqL.of upd_same, rfl, _, _, rfl, rfl, .inl ⟨by decide, by decide⟩, _, _, rfl, rfl, .inl ⟨_, rfl, _, _, rfl, rfl, (by show (0 : Int) < 2147483587; decide), ?_⟩⟩
      refine ⟨_, rfl, a, _, 0, 0, rfl, rfl, upd_same, rfl, ?_⟩
      refine ⟨_, rfl, a, _, 0, _, rfl, rfl, SqL.of upd_same, rfl, _, _, rfl, rfl, ⟨by decide, by decide⟩, .inl ⟨_, rfl, _, rfl, _, _, rfl, rfl, m0, ?_⟩⟩
      refine k _ _ d (n + 1) _ (Int.emod_nonneg _ (by omega)) (Int.emod_lt_of_pos _ m0) ?_ upd_upd
      exact ⟨(mod_db _).1, (mod_db _).2, d0⟩
theorem ok_heap {f : Addr} {fd : FuncData} (F : Fun K "_law_heap" "_law_heap" s__law_heap f fd) (T : Blt mg) : FnOk P w K mg base CX0 1 f fd ["_law_number"] spHeap := by
  refine heap_recast rfl (F.ok sc__law_heap (fun vs H Q E h => ?_) (fun cdv A outer s H vs Q E hr h => ?_))
  · obtain ⟨z, rfl, _⟩ := h
    rfl
  · obtain ⟨z, rfl, k⟩ := h
    refine ⟨_, (pss_cons (ps_set (i := 1) sc__law_heap.nd rfl (by first | exact .inl rfl | exact .inr rfl) (pe_mid (pe_ifExp (PW.pt (pw_or (pt_cmpR op_lt (pv 0) pe_int (nomark _)) (pw_or1 (pt_cmpR op_ge (pv 0) (pe_op op_pow pe_int pe_int) (nomark _))))) (pe_callB call_abs (by rfl) T.b_abs (by decide +kernel) (pa_cons (pv 0) pa_nil)) pe_int)))
  (pss_one (ps_ret (pe_lst (pa_cons (pe_op op_mod (pe_callTy call_int1 (by rfl) T.b_int (by decide +kernel) (pa_cons (pe_op op_add (pe_op op_mul (pv 0) pe_int) pe_int) pa_nil)) pe_int) (pa_cons (pv 1) (pa_cons pe_int pa_nil))))))), ?_⟩
    refine ⟨fun v H' => ∃ d : Int, 0 ≤ d ∧ v = .int d ∧ H' = H, ?_, fun v H' ⟨d, d0, ev, eH⟩ => ?_⟩
    · refine ⟨_, rfl, _, _, rfl, rfl, _, rfl, ?_⟩
      have ab : (0 : Int) ≤ if z < 0 then -z else z := by split <;> omega
      refine ite2 (fun _ => ⟨_, rfl, _, rfl, _, ab, rfl, rfl⟩) (fun _ => ?_)
      refine ⟨_, rfl, _, _, rfl, rfl, ⟨by decide, by decide, by decide⟩, _, _, rfl, rfl, _, rfl, ?_⟩
      exact ite2 (fun _ => ⟨_, rfl, _, rfl, _, ab, rfl, rfl⟩) (fun _ => ⟨0, Int.le_refl 0, rfl, rfl⟩)
    · subst ev eH
      refine ⟨_, rfl, _, _, rfl, rfl, .inr ⟨by decide, by decide⟩, _, _, rfl, rfl, .inl ⟨_, rfl, _, _, rfl, rfl, (by show (0 : Int) < 2147483587; decide), ?_⟩⟩
      refine ⟨_, rfl, (by show 3 ≤ sizeLine; decide), fun p hp => k _ d p ⟨(mod_db _).1, (mod_db _).2, d0⟩ hp⟩
theorem ok_cell {f : Addr} {fd : FuncData} (F : Fun K "_law_cell" "_law_cell" s__law_cell f fd) (T : Blt mg) : FnOk P w K mg base CX0 1 f fd ["_law_script", "_law_k"] (spCellI K) := by
  refine F.ok sc__law_cell (fun vs H Q E h => ?_) (fun cdv A outer s H vs Q E hr h => ?_)
  · obtain ⟨a, ns, z, rfl, _⟩ := h
    rfl
  · obtain ⟨a, ns, z, rfl, hS, hl, z0, z1, k⟩ := h
    refine ⟨_, (pss_cons (ps_if (pt_cmpR op_lt (pv 1) (pe_callB call_len_seq (by rfl) T.b_len (by decide +kernel) (pa_cons (pv 0) pa_nil)) (nomark _))
    (pss_one (ps_ret (pe_callTy call_int1 (by rfl) T.b_int (by decide +kernel) (pa_cons (pe_ix ix_list (pv 0) (pv 1) (fun _ _ => rfl)) pa_nil))))
    pss_nil)
  (pss_cons (ps_set (i := 2) sc__law_cell.nd rfl (by first | exact .inl rfl | exact .inr rfl) (pe_op op_add pe_int (pe_op op_mul pe_int (pv 1))))
  (pss_cons (ps_for PassesOwn.never rfl (pi_list (pe_slice sl_list (pv 0) po_none (po_some pe_int))) (pg_name (i := 3) sc__law_cell.nd rfl (by first | exact .inl rfl | exact .inr rfl))
    (pss_one (ps_set (i := 2) sc__law_cell.nd rfl (by first | exact .inl rfl | exact .inr rfl) (pe_op op_mod (pe_callTy call_int1 (by rfl) T.b_int (by decide +kernel) (pa_cons (pe_op op_add (pe_op op_add (pe_op op_mul (pv 2) pe_int) (pe_callTy call_int1 (by rfl) T.b_int (by decide +kernel) (pa_cons (pv 3) pa_nil))) (pe_op op_mul pe_int (pv 1))) pa_nil)) pe_int))))
  (pss_one (ps_ret (pv 2)))))), ?_⟩
    refine ⟨_, rfl, _, rfl, a, _, rfl, .inl hS, _, _, rfl, rfl, _, rfl, ?_⟩
    refine ite2 (fun hc => ?_) (fun _ => ?_)
    · obtain ⟨v, e1, e2⟩ := at_int (xs := ns.map V.int) z0 (of_decide_eq_true hc)
      obtain ⟨y, _, rfl⟩ := List.mem_map.mp e2
      exact ⟨_, rfl, _, rfl, a, _, z, _, rfl, rfl, hS, e1, .inl ⟨_, rfl, k _ _ (Same.refl H)⟩⟩
    · refine ⟨_, rfl, _, _, rfl, rfl, .inl ⟨by decide, by decide⟩, _, _, rfl, rfl, ?_⟩
      refine ⟨_, rfl, _, rfl, a, _, rfl, hS, fun p hp => ?_⟩
      refine ⟨p, rfl, ⟨_, SqL.of upd_same⟩, for_list (K := K) (a := p) (xs := cutV (ns.map V.int) none (some 4)) (fun i σ H2 => H2 = upd H p (.lst (cutV (ns.map V.int) none (some 4))) ∧ ∃ (m : Int) (v : Option V), σ = [some (.ref a), some (.int z), some (.int m), v])
        ⟨rfl, _, _, rfl⟩ (fun i σ H2 _ ⟨e, _⟩ => by rw [e]; exact SqL.of upd_same) ?_ ?_⟩
      · rintro i y σ H2 hi ⟨rfl, m, v, rfl⟩
        obtain ⟨n, _, rfl⟩ := List.mem_map.mp (mem_cutV (List.mem_of_getElem? hi))
        exact ⟨_, rfl, _, _, rfl, rfl, .inr ⟨by decide, by decide⟩, _, rfl, .inl ⟨_, rfl, _, _, rfl, rfl, _, rfl, _, _, rfl, rfl, .inl ⟨by decide, by decide⟩, _, _, rfl, rfl, .inl ⟨_, rfl, _, _, rfl, rfl, (by show (0 : Int) < 2147483587; decide), rfl, _, _, rfl⟩⟩⟩
      · rintro σ H2 ⟨rfl, m, v, rfl⟩
        exact ⟨_, rfl, k _ _ (Same.new hp)⟩
theorem ok_pick {f : Addr} {fd : FuncData} (F : Fun K "_law_pick" "_law_pick" s__law_pick f fd) (T : Blt mg) (c__law_roll : Cal P w K mg base 1 "_law_roll" ["_law_heap_here", "_law_many"] spRoll) : FnG P w K mg base 2 f fd ["_law_heap_here", "_law_things"] (spPick K) := by
  refine okG F sc__law_pick (fun vs H Q E h => ?_) (fun cdv A outer s H vs Q hr h => ?_)
  · obtain ⟨a, x, p, rfl, _⟩ := h
    rfl
  · obtain ⟨a, x, p, rfl, ha, hx, k⟩ := h
    refine ⟨_, (pss_one (ps_ret (pe_ix ix_seq (pv 1) (pe_c c__law_roll hr (by decide) rfl (pa_cons (pv 0) (pa_cons (pe_callB call_lenU (by rfl) T.b_len (by decide +kernel) (pa_cons (pv 1) pa_nil)) pa_nil))) (fun _ _ => rfl)))), ?_⟩
    cases hx with
    | @lst b xs hS h0 hl =>
      have h1 : 0 < xs.length := List.length_pos_iff.mpr h0
      refine ⟨_, rfl, _, rfl, _, rfl, .inl ⟨b, xs, rfl, .inl hS, a, _, rfl, ha, by omega, by omega, fun r r0 r1 => ?_⟩⟩
      obtain ⟨v, e1, e2⟩ := at_int (xs := xs) r0 r1
      exact .inl ⟨b, xs, r, v, rfl, rfl, hS, e1, k v e2⟩
    | @tup b xs hS h0 hl =>
      have h1 : 0 < xs.length := List.length_pos_iff.mpr h0
      refine ⟨_, rfl, _, rfl, _, rfl, .inl ⟨b, xs, rfl, .inr hS, a, _, rfl, ha, by omega, by omega, fun r r0 r1 => ?_⟩⟩
      obtain ⟨v, e1, e2⟩ := at_int (xs := xs) r0 r1
      exact .inr (.inl ⟨b, xs, r, v, rfl, rfl, hS, e1, k v e2⟩)
    | @str z h0 hl =>
      have h1 : 0 < z.cps.toList.length := List.length_pos_iff.mpr h0
      have e0 : z.cps.toList.length = z.length := by simp [Str.length]
      refine ⟨_, rfl, _, rfl, _, rfl, .inr ⟨z, rfl, sz1000 hl, a, _, rfl, ha, by omega, by omega, fun r r0 r1 => ?_⟩⟩
      obtain ⟨c, e1, e2⟩ := at_nat (xs := z.cps.toList) r0 (by rw [e0]; exact r1)
      exact .inr (.inr ⟨z, r, c, rfl, rfl, sz1000 hl, e1, k _ ⟨c, e2, rfl⟩⟩)
end
end Lw

/-! ## FkC -/
set_option maxHeartbeats 4000000
/-! comprehensions by what they give -/
namespace Lw
open PySem PySem.Spec PyProof.Rows L2
theorem list_of_fn {n : Nat} {ys : List V} {f : Nat → V} (hl : ys.length = n) (h : ∀ i y, ys[i]? = some y → y = f i) : ys = (List.range n).map f := by
  apply List.ext_getElem?
  intro i
  by_cases hi : i < n
  · rw [List.getElem?_map, List.getElem?_range hi, List.getElem?_eq_getElem (by omega : i < ys.length)]
    exact congrArg some (h i _ (List.getElem?_eq_getElem (by omega : i < ys.length)))
  · rw [List.getElem?_eq_none (by omega), List.getElem?_eq_none (by simp; omega)]
/-- each turn leaves what was tracked and gives a value of which R holds -/
theorem lc_gen {J : It} {n : Nat} {G : Hp → Prop} {Y : Nat → Hp → V → Hp → Prop} (w : Walk J n G Y) {R : Nat → V → Hp → Prop} {g : TG} {te : TE} {vs : List Nat} {σ : L2.St} {H1 : Hp} {D : Addr} {Qd : Hp → Prop} (hn : n ≤ 1000) (hD : H1 D = none)
    (mono : ∀ i y H H', R i y H → (∀ a o, a ≠ D → H a = some o → H' a = some o) → R i y H') (hG : ∀ H', Same H1 H' → G H')
    (hs : ∀ i x H H' ys (Q' : VK), i < n → Same H1 H → H D = some (.lst ys) → Y i H x H' → (∀ y H4, Same H H4 → R i y H4 → Q' y H4) → g x (wipe σ vs) H' fun σ2 H2 => wipe σ2 vs = wipe σ vs ∧ te σ2 H2 Q')
    (hd : ∀ H' ys, Same H1 H' → H' D = some (.lst ys) → ys.length = n → (∀ i y, ys[i]? = some y → R i y H') → Qd H') :
    ∃ W : Nat → Nat → Hp → Prop, (∃ m, W 0 m (upd H1 D (.lst []))) ∧ ∀ i m H, W i m H →
      (J.stop i H ∧ Qd H) ∨ (J.go i H ∧ ∃ Nx : Hp → Prop, (∀ H', Nx H' → ∃ m', m' < m ∧ W (i + 1) m' H') ∧ ∀ x H', J.yld i H x H' → g x (wipe σ vs) H' fun σ2 H2 => wipe σ2 vs = wipe σ vs ∧ tYes σ2 H2 fun b H3 =>
        if b = true then te σ2 H3 fun y H4 => ∃ acc, H4 D = some (.lst acc) ∧ acc.length < sizeLine ∧ Nx (upd H4 D (.lst (acc ++ [y]))) else Nx H3) := by
  refine lc_it w (tt := tYes) (fun i H => ∃ ys, Same H1 H ∧ H D = some (.lst ys) ∧ ys.length = i ∧ ∀ j y, ys[j]? = some y → R j y H) ⟨[], Same.new hD, upd_same, rfl, fun j y e => by simp at e⟩ (fun i H _ ⟨_, s, _⟩ => hG H s) (fun i x H H' hi ⟨ys, s, d, l, r⟩ y => ?_) fun H ⟨ys, s, d, l, r⟩ => hd H ys s d l r
  show g x (wipe σ vs) H' fun σ2 H2 => wipe σ2 vs = wipe σ vs ∧ te σ2 H2 fun y H4 => _
  refine hs i x H H' ys _ hi s d y fun v H4 s4 r4 => ⟨ys, s4 _ _ d, Nat.lt_of_le_of_lt (show ys.length ≤ 1000 by omega) (by decide), ys ++ [v], fun a u e => ?_, upd_same, by rw [List.length_append, l]; rfl, fun j z e => ?_⟩
  · rw [upd_ne (ne_of_none e hD)]
    exact s4 _ _ (s _ _ e)
  · have k2 : ∀ a o, a ≠ D → H4 a = some o → upd H4 D (.lst (ys ++ [v])) a = some o := fun a o n e => by
      rw [upd_ne n]
      exact e
    by_cases hj : j < ys.length
    · rw [List.getElem?_append_left hj] at e
      exact mono _ _ _ _ (mono _ _ _ _ (r j z e) fun a o _ e => s4 a o e) k2
    · rw [List.getElem?_append_right (by omega)] at e
      have e0 : j - ys.length = 0 := by
        cases q : j - ys.length with
        | zero => rfl
        | succ m =>
          rw [q] at e
          simp at e
      rw [e0] at e
      obtain rfl : v = z := by simpa using e
      obtain rfl : j = i := by omega
      exact mono _ _ _ _ r4 k2
/-- .. of a function of the turn -/
theorem lc_fn {J : It} {n : Nat} {G : Hp → Prop} {Y : Nat → Hp → V → Hp → Prop} (w : Walk J n G Y) (f : Nat → V) {g : TG} {te : TE} {vs : List Nat} {σ : L2.St} {H1 : Hp} {D : Addr} {Qd : Hp → Prop} (hn : n ≤ 1000) (hD : H1 D = none)
    (hG : ∀ H', Same H1 H' → G H')
    (hs : ∀ i x H H' (Q' : VK), i < n → Same H1 H → Y i H x H' → (∀ H4, Same H H4 → Q' (f i) H4) → g x (wipe σ vs) H' fun σ2 H2 => wipe σ2 vs = wipe σ vs ∧ te σ2 H2 Q')
    (hd : ∀ H', Same H1 H' → H' D = some (.lst ((List.range n).map f)) → Qd H') :
    ∃ W : Nat → Nat → Hp → Prop, (∃ m, W 0 m (upd H1 D (.lst []))) ∧ ∀ i m H, W i m H →
      (J.stop i H ∧ Qd H) ∨ (J.go i H ∧ ∃ Nx : Hp → Prop, (∀ H', Nx H' → ∃ m', m' < m ∧ W (i + 1) m' H') ∧ ∀ x H', J.yld i H x H' → g x (wipe σ vs) H' fun σ2 H2 => wipe σ2 vs = wipe σ vs ∧ tYes σ2 H2 fun b H3 =>
        if b = true then te σ2 H3 fun y H4 => ∃ acc, H4 D = some (.lst acc) ∧ acc.length < sizeLine ∧ Nx (upd H4 D (.lst (acc ++ [y]))) else Nx H3) :=
  lc_gen w (R := fun i y _ => y = f i) hn hD (fun _ _ _ _ h _ => h) hG (fun i x H H' ys Q' hi s d y k => hs i x H H' Q' hi s y fun H4 s4 => k _ H4 s4 rfl)
    fun H' ys s d l r => hd H' s (by rw [d, list_of_fn l r])
end Lw

/-! ## FkD -/
set_option maxHeartbeats 8000000
namespace Lw
open PySem PySem.Spec PyProof.Rows L2
abbrev s_is_integer : Stmt := topS 17
abbrev n_is_integer : List Str := ["value"]
theorem sc_is_integer : FnScope n_is_integer ["value"] (defScope s_is_integer) := ⟨rfl, rfl, rfl, by decide +kernel, rfl, by decide +kernel, by decide +kernel⟩
abbrev s_is_name : Stmt := topS 18
abbrev n_is_name : List Str := ["value", "sign"]
theorem sc_is_name : FnScope n_is_name ["value"] (defScope s_is_name) := ⟨rfl, rfl, rfl, by decide +kernel, rfl, by decide +kernel, by decide +kernel⟩
abbrev s_is_symbol : Stmt := topS 19
abbrev n_is_symbol : List Str := ["value"]
theorem sc_is_symbol : FnScope n_is_symbol ["value"] (defScope s_is_symbol) := ⟨rfl, rfl, rfl, by decide +kernel, rfl, by decide +kernel, by decide +kernel⟩
theorem pe_gl {X : Cx} {x : Str} {v : V} {pos : Pos} (hg : Gl X x) (h : ∃ u, X.mg x = some u ∧ RelV v u) (hdb : (x == ("__debug__" : Str)) = false := by decide) : PE X (.Name x pos) (tC v) := by
  obtain ⟨u, h1, h2⟩ := h
  exact pe_glob hg h1 h2 hdb
def lettersS : Str := "abcdefghijklmnopqrstuvwxyz"
def signsS : Str := "abcdefghijklmnopqrstuvwxyz0123456789"
def atS : Str := "@"
/-- what stands at the top -/
structure Ta (mg : Str → Option Value) : Prop extends Blt mg where
  b_isinstance : mg "isinstance" = none
  b_str : mg "str" = none
  b_tuple : mg "tuple" = none
  b_bool : mg "bool" = none
  b_all : mg "all" = none
  b_sorted : mg "sorted" = none
  b_set : mg "set" = none
  b_range : mg "range" = none
  b_max : mg "max" = none
  b_min : mg "min" = none
  b_repr : mg "repr" = none
  b_dict : mg "dict" = none
  b_sum : mg "sum" = none
  b_list : mg "list" = none
  g__LETTERS : ∃ u, mg "_LETTERS" = some u ∧ RelV (.str lettersS) u
  g__SIGNS : ∃ u, mg "_SIGNS" = some u ∧ RelV (.str signsS) u
  g__LONGEST_NAME : ∃ u, mg "_LONGEST_NAME" = some u ∧ RelV (.int 8) u
  g_MIDDLE : ∃ u, mg "MIDDLE" = some u ∧ RelV (.str atS) u
/-- a tuple -/
def Tp (H : Hp) (a : Addr) (xs : List V) : Prop := H a = some (.tup xs) ∨ ∃ o, H a = some (.frz o (.tup xs))
theorem Tp.same {H H' : Hp} {a : Addr} {xs : List V} (h : Tp H a xs) (s : Same H H') : Tp H' a xs := h.elim (fun h => .inl (s _ _ h)) fun ⟨o, h⟩ => .inr ⟨o, s _ _ h⟩
theorem Tp.sq {K : PySem.W.Frag} {H : Hp} {a : Addr} {xs : List V} (h : Tp H a xs) : SqT K H a xs := .inl h
/-- data as a tree, as far as the questions look -/
inductive Tr where
  | non | bl (b : Bool) | int (i : Int) | str (z : Str) | lst | dct | tup (ts : List Tr)
mutual
inductive TrIs (K : PySem.W.Frag) (H : Hp) : V → Tr → Prop
  | non : TrIs K H .non .non
  | bl (b : Bool) : TrIs K H (.bl b) (.bl b)
  | int (i : Int) : TrIs K H (.int i) (.int i)
  | str (z : Str) (h : z.length ≤ 1000) : TrIs K H (.str z) (.str z)
  | lst {a : Addr} {xs : List V} (h : H a = some (.lst xs)) : TrIs K H (.ref a) .lst
  | dct {a : Addr} {kvs : List (Key × V)} (h : H a = some (.dK kvs)) : TrIs K H (.ref a) .dct
  | tup {a : Addr} {xs : List V} {ts : List Tr} (h : Tp H a xs) (l : xs.length ≤ 40) (r : TrAll K H xs ts) : TrIs K H (.ref a) (.tup ts)
inductive TrAll (K : PySem.W.Frag) (H : Hp) : List V → List Tr → Prop
  | nil : TrAll K H [] []
  | cons {x : V} {t : Tr} {xs : List V} {ts : List Tr} (h : TrIs K H x t) (r : TrAll K H xs ts) : TrAll K H (x :: xs) (t :: ts)
end
mutual
theorem TrIs.same {K : PySem.W.Frag} {H H' : Hp} (s : Same H H') : ∀ {v : V} {t : Tr}, TrIs K H v t → TrIs K H' v t
  | _, _, .non => .non
  | _, _, .bl b => .bl b
  | _, _, .int i => .int i
  | _, _, .str z h => .str z h
  | _, _, .lst h => .lst (s _ _ h)
  | _, _, .dct h => .dct (s _ _ h)
  | _, _, .tup h l r => .tup (h.same s) l (TrAll.same s r)
theorem TrAll.same {K : PySem.W.Frag} {H H' : Hp} (s : Same H H') : ∀ {vs : List V} {ts : List Tr}, TrAll K H vs ts → TrAll K H' vs ts
  | _, _, .nil => .nil
  | _, _, .cons h r => .cons (h.same s) (TrAll.same s r)
end
def Tr.ty : Tr → String
  | .non => "NoneType" | .bl _ => "bool" | .int _ => "int" | .str _ => "str" | .lst => "list" | .dct => "dict" | .tup _ => "tuple"
theorem TrIs.tyx {K : PySem.W.Frag} {H : Hp} {v : V} {t : Tr} (h : TrIs K H v t) : TyX K H v (.type t.ty) := by
  cases h with
  | non => exact .base .non
  | bl b => exact .base (.bl b)
  | int i => exact .base (.int i)
  | str z => exact .base (.str z)
  | lst h => exact .base (.lst h)
  | dct h => exact .base (.dK h)
  | tup h => exact h.elim (fun h => .base (.tup h)) fun ⟨o, h⟩ => .fTuple h
def Tr.isStr : Tr → Bool | .str _ => true | _ => false
def Tr.isTup : Tr → Bool | .tup _ => true | _ => false
def Tr.isInt : Tr → Bool | .int _ => true | .bl _ => true | _ => false
def Tr.isBool : Tr → Bool | .bl _ => true | _ => false
theorem kit_str : ∀ t : Tr, kitB t.ty "str" = some t.isStr
  | .non => (by decide +kernel : kitB "NoneType" "str" = some false)
  | .bl _ => (by decide +kernel : kitB "bool" "str" = some false)
  | .int _ => (by decide +kernel : kitB "int" "str" = some false)
  | .str _ => (by decide +kernel : kitB "str" "str" = some true)
  | .lst => (by decide +kernel : kitB "list" "str" = some false)
  | .dct => (by decide +kernel : kitB "dict" "str" = some false)
  | .tup _ => (by decide +kernel : kitB "tuple" "str" = some false)
theorem kit_tup : ∀ t : Tr, kitB t.ty "tuple" = some t.isTup
  | .non => (by decide +kernel : kitB "NoneType" "tuple" = some false)
  | .bl _ => (by decide +kernel : kitB "bool" "tuple" = some false)
  | .int _ => (by decide +kernel : kitB "int" "tuple" = some false)
  | .str _ => (by decide +kernel : kitB "str" "tuple" = some false)
  | .lst => (by decide +kernel : kitB "list" "tuple" = some false)
  | .dct => (by decide +kernel : kitB "dict" "tuple" = some false)
  | .tup _ => (by decide +kernel : kitB "tuple" "tuple" = some true)
theorem kit_int : ∀ t : Tr, kitB t.ty "int" = some t.isInt
  | .non => (by decide +kernel : kitB "NoneType" "int" = some false)
  | .bl _ => (by decide +kernel : kitB "bool" "int" = some true)
  | .int _ => (by decide +kernel : kitB "int" "int" = some true)
  | .str _ => (by decide +kernel : kitB "str" "int" = some false)
  | .lst => (by decide +kernel : kitB "list" "int" = some false)
  | .dct => (by decide +kernel : kitB "dict" "int" = some false)
  | .tup _ => (by decide +kernel : kitB "tuple" "int" = some false)
theorem kit_bool : ∀ t : Tr, kitB t.ty "bool" = some t.isBool
  | .non => (by decide +kernel : kitB "NoneType" "bool" = some false)
  | .bl _ => (by decide +kernel : kitB "bool" "bool" = some true)
  | .int _ => (by decide +kernel : kitB "int" "bool" = some false)
  | .str _ => (by decide +kernel : kitB "str" "bool" = some false)
  | .lst => (by decide +kernel : kitB "list" "bool" = some false)
  | .dct => (by decide +kernel : kitB "dict" "bool" = some false)
  | .tup _ => (by decide +kernel : kitB "tuple" "bool" = some false)
/-- isinstance, asked -/
theorem isi {K : PySem.W.Frag} {H : Hp} {v : V} {t : Tr} {n : String} {b : Bool} {Q : VK} (h : TrIs K H v t) (e : kitB t.ty n = some b) (q : Q (.bl b) H) : rIsi K [v, .ty n] H Q := ⟨v, .ty n, _, _, b, rfl, .ty n, h.tyx, kit_ty e, q⟩
/-- a name's text -/
def firstS (z : Str) : Bool := match z.cps.toList with
  | [] => false
  | c :: _ => decide (c ∈ lettersS.cps.toList)
def allS (z : Str) : Bool := z.cps.toList.all fun c => decide (c ∈ signsS.cps.toList)
def nameS (z : Str) : Bool := !decide (z = ("view" : Str)) && (decide (1 ≤ z.length) && (decide (z.length ≤ 8) && (firstS z && allS z)))
theorem name_view {z : Str} (h : z = ("view" : Str)) : nameS z = false := by
  subst h
  rfl
theorem name_lo {z : Str} (h : ¬ 1 ≤ z.length) : nameS z = false := by
  unfold nameS
  rw [decide_eq_false h]
  simp
theorem name_hi {z : Str} (h : ¬ z.length ≤ 8) : nameS z = false := by
  unfold nameS
  rw [decide_eq_false h]
  simp
theorem name_rest {z : Str} (h1 : ¬ z = ("view" : Str)) (h2 : 1 ≤ z.length) (h3 : z.length ≤ 8) : nameS z = (firstS z && allS z) := by
  unfold nameS
  rw [decide_eq_false h1, decide_eq_true h2, decide_eq_true h3]
  simp
theorem first_of {z : Str} (h : 1 ≤ z.length) : ∃ c, atI z.cps.toList 0 = some c ∧ firstS z = decide (c ∈ lettersS.cps.toList) := by
  obtain ⟨⟨l⟩⟩ := z
  cases l with
  | nil => exact absurd h (by decide)
  | cons c r => exact ⟨c, atI_nat (j := 0) rfl, rfl⟩
/-- what a sign-by-sign look gives -/
def atB (z : Str) (p : Nat → Bool) (i : Nat) : Bool := match z.cps[i]? with
  | some c => p c
  | none => false
theorem atB_some {z : Str} {p : Nat → Bool} {i c : Nat} (h : z.cps[i]? = some c) : atB z p i = p c := by
  unfold atB
  rw [h]
theorem all_at (z : Str) (p : Nat → Bool) : ((List.range z.cps.size).map (atB z p)).all id = z.cps.toList.all p := by
  have e : (List.range z.cps.size).map (atB z p) = z.cps.toList.map p := by
    apply List.ext_getElem?
    intro i
    rw [List.getElem?_map, List.getElem?_map, show z.cps.toList[i]? = z.cps[i]? from Array.getElem?_toList]
    by_cases hi : i < z.cps.size
    · rw [List.getElem?_range hi, Array.getElem?_eq_getElem hi]
      exact congrArg some (atB_some (Array.getElem?_eq_getElem hi))
    · rw [List.getElem?_eq_none (by simp; omega), Array.getElem?_eq_none (by omega)]
      rfl
  rw [e, List.all_map]
  rfl
def Tr.name : Tr → Bool | .str z => nameS z | _ => false
def Tr.sym : Tr → Bool | .str z => nameS z || decide (z = "@") | _ => false
def Tr.whole : Tr → Bool | .int _ => true | _ => false
def spB (K : PySem.W.Frag) (f : Tr → Bool) : Sp := fun vs H Q _ => ∃ v t, vs = [v] ∧ TrIs K H v t ∧ ∀ H', Same H H' → Q (.bl (f t)) H'
section
variable {P : Program} {w : World} {K : PySem.W.Frag} {mg : Str → Option Value} {base : Heap}
theorem ok_is_integer {f : Addr} {fd : FuncData} (F : Fun K "is_integer" "is_integer" s_is_integer f fd) (T : Ta mg) : FnG P w K mg base 1 f fd ["value"] (spB K Tr.whole) := by
  refine okG F sc_is_integer (fun vs H Q E h => ?_) (fun cdv A outer s H vs Q hr h => ?_)
  · obtain ⟨v, t, rfl, _⟩ := h
    rfl
  · obtain ⟨v, t, rfl, h, k⟩ := h
    refine ⟨_, (pss_one (ps_ret (pe_and (pe_callB call_isi (by rfl) T.b_isinstance (by decide +kernel) (pa_cons (pv 0) (pa_cons (pe_bltn (v := .ty "int") rfl T.b_int (by decide +kernel) rfl) pa_nil))) (pe_one (pe_not (pe_callB call_isi (by rfl) T.b_isinstance (by decide +kernel) (pa_cons (pv 0) (pa_cons (pe_bltn (v := .ty "bool") rfl T.b_bool (by decide +kernel) rfl) pa_nil)))))))), ?_⟩
    refine ⟨_, rfl, v, _, _, _, _, rfl, .ty _, h.tyx, kit_ty (kit_int t), _, rfl, ?_⟩
    cases t with
    | int i => exact iteT ⟨_, rfl, v, _, _, _, _, rfl, .ty _, h.tyx, kit_ty (kit_bool _), _, rfl, k H (Same.refl H)⟩
    | bl b => exact iteT ⟨_, rfl, v, _, _, _, _, rfl, .ty _, h.tyx, kit_ty (kit_bool _), _, rfl, k H (Same.refl H)⟩
    | _ => exact iteF (k H (Same.refl H))
theorem ok_is_name {f : Addr} {fd : FuncData} (F : Fun K "is_name" "is_name" s_is_name f fd) (T : Ta mg) : FnG P w K mg base 1 f fd ["value"] (spB K Tr.name) := by
  refine okG F sc_is_name (fun vs H Q E h => ?_) (fun cdv A outer s H vs Q hr h => ?_)
  · obtain ⟨v, t, rfl, _⟩ := h
    rfl
  · obtain ⟨v, t, rfl, h, k⟩ := h
    refine ⟨_, (pss_cons (ps_if (PW.pt (pw_or (pt_not (pt_val (pe_callB call_isi (by rfl) T.b_isinstance (by decide +kernel) (pa_cons (pv 0) (pa_cons (pe_bltn (v := .ty "str") rfl T.b_str (by decide +kernel) rfl) pa_nil))))) (pw_or1 (pt_cmpR op_eq (pv 0) pe_str (nomark _)))))
    (pss_one (ps_ret pe_bl))
    pss_nil)
  (pss_cons (ps_if (pt_not (pt_chain op_le op_le pe_int (pe_callB call_len_str (by rfl) T.b_len (by decide +kernel) (pa_cons (pv 0) pa_nil)) (pe_gl (v := .int 8) rfl T.g__LONGEST_NAME)))
    (pss_one (ps_ret pe_bl))
    pss_nil)
  (pss_one (ps_ret (pe_and (pe_cmpR op_in_sign (pe_ix ix_str (pv 0) pe_int (fun _ _ => rfl)) (pe_gl (v := .str lettersS) rfl T.g__LETTERS) rfl) (pe_one (pe_callB (cr_all (by rfl)) (by rfl) T.b_all (by decide +kernel) (pa_cons (pe_lc (own := [("sign", 1)]) (g := gName 1) (tt := tYes) rfl sc_is_name.nd (pi_str (pv 0)) (blkOk_by (own := [("sign", 1)]) (N := n_is_name) (sc := defScope s_is_name) (by decide +kernel)) (fun _ _ _ _ _ => pg_name (i := 1) sc_is_name.nd rfl (Or.inl rfl)) (fun _ _ _ _ _ => pts_nil) (fun _ _ _ _ _ => (pe_cmpR op_in_sign (pv 1) (pe_gl (v := .str signsS) rfl T.g__SIGNS) rfl))) pa_nil)))))))), ?_⟩
    refine ⟨_, rfl, v, _, _, _, _, rfl, .ty _, h.tyx, kit_ty (kit_str t), _, rfl, ?_⟩
    cases h with
    | str z hz =>
      have kk : ∀ b, nameS z = b → Q (.bl b) H := fun b e => e ▸ k H (Same.refl H)
      refine iteF ⟨_, rfl, rfl, _, rfl, ?_⟩
      refine ite2 (fun hv => kk _ (name_view (by simpa using hv))) fun hv => ?_
      have hv : ¬ z = ("view" : Str) := by simpa using hv
      refine ⟨_, rfl, z, rfl, sz1000 hz, _, _, rfl, rfl, _, rfl, ite2 (fun h1 => ⟨_, _, rfl, rfl, _, rfl, ?_⟩) fun h1 => ⟨_, rfl, iteT (kk _ (name_lo (by simp at h1; omega)))⟩⟩
      refine ite2 (fun h2 => kk _ (name_hi (by simp at h2; omega))) fun h2 => ?_
      have h1 : 1 ≤ z.length := by simp at h1; omega
      have h2 : z.length ≤ 8 := by simp at h2; omega
      obtain ⟨c, hc, hf⟩ := first_of h1
      have kr := name_rest hv h1 h2
      rw [hf] at kr
      refine ⟨_, rfl, z, 0, c, rfl, rfl, sz1000 hz, hc, c, _, rfl, rfl, _, rfl, ite2 (fun h3 => ?_) fun h3 => kk _ (by rw [kr, Bool.eq_false_iff.mpr h3]; rfl)⟩
      rw [h3] at kr
      refine ⟨_, rfl, z, rfl, fun D hD => lc_fn walk_str (fun i => .bl (atB z (fun c => decide (c ∈ signsS.cps.toList)) i)) (by have := hz; exact hz) hD (fun _ _ => True.intro) (fun i x H2 H3 Q' hi s2 y kq => ?_) fun H2 s2 d => ?_⟩
      · obtain ⟨rfl, c, hc, rfl⟩ := y
        refine ⟨rfl, _, rfl, c, _, rfl, rfl, ?_⟩
        have := kq _ (Same.refl _)
        rw [atB_some hc] at this
        exact this
      · refine ⟨D, _, rfl, SqL.of (d.trans (congrArg (fun l => some (HO.lst l)) (List.map_map (f := atB z _) (g := V.bl)).symm)), ?_⟩
        rw [all_at]
        have := k H2 s2
        rw [show (Tr.str z).name = nameS z from rfl, kr] at this
        exact this
    | _ => exact iteT (k H (Same.refl H))
theorem ok_is_symbol {f : Addr} {fd : FuncData} (F : Fun K "is_symbol" "is_symbol" s_is_symbol f fd) (T : Ta mg) (c_is_name : Cal P w K mg base 1 "is_name" ["value"] (spB K Tr.name)) : FnG P w K mg base 2 f fd ["value"] (spB K Tr.sym) := by
  refine okG F sc_is_symbol (fun vs H Q E h => ?_) (fun cdv A outer s H vs Q hr h => ?_)
  · obtain ⟨v, t, rfl, _⟩ := h
    rfl
  · obtain ⟨v, t, rfl, h, k⟩ := h
    refine ⟨_, (pss_one (ps_ret (pe_or (pe_c c_is_name hr (by decide) rfl (pa_cons (pv 0) pa_nil)) (pe_one (pe_and (pe_callB call_isi (by rfl) T.b_isinstance (by decide +kernel) (pa_cons (pv 0) (pa_cons (pe_bltn (v := .ty "str") rfl T.b_str (by decide +kernel) rfl) pa_nil))) (pe_one (pe_cmpR op_eq (pv 0) (pe_gl (v := .str atS) rfl T.g_MIDDLE) (nomark _)))))))), ?_⟩
    refine ⟨_, rfl, v, t, rfl, h, fun H2 s2 => ⟨_, rfl, ite2 (fun hn => ?_) fun hn => ?_⟩⟩
    · have e : t.sym = true := by
        cases t with
        | str z => exact (Bool.or_eq_true _ _).mpr (.inl hn)
        | _ => exact absurd (show false = true from hn) (by decide)
      have := k H2 s2
      rw [e] at this
      exact this
    · refine ⟨_, rfl, v, _, _, _, _, rfl, .ty _, (h.same s2).tyx, kit_ty (kit_str t), _, rfl, ?_⟩
      cases h with
      | str z hz =>
        refine iteT ⟨_, rfl, rfl, ?_⟩
        have := k H2 s2
        rw [show (Tr.str z).sym = decide (V.str z = V.str "@") by
          show (nameS z || decide (z = "@")) = _
          rw [show nameS z = false from Bool.eq_false_iff.mpr hn]
          simp] at this
        exact this
      | _ => exact iteF (k H2 s2)
end
end Lw

/-! ## FkE -/
set_option maxHeartbeats 4000000
/-! texts that rise -/
namespace Lw
open PySem PySem.Spec PyProof.Rows L2
def lt' (a b : Str) : Prop := a.cps.toList < b.cps.toList
instance (a b : Str) : Decidable (lt' a b) := inferInstanceAs (Decidable (a.cps.toList < b.cps.toList))
theorem str_ext {a b : Str} (h : a.cps.toList = b.cps.toList) : a = b := by
  obtain ⟨⟨l⟩⟩ := a
  obtain ⟨⟨m⟩⟩ := b
  cases (show l = m from h)
  rfl
theorem lt'_trans {a b c : Str} (h : lt' a b) (k : lt' b c) : lt' a c := List.lt_trans h k
theorem lt'_irr (a : Str) : ¬ lt' a a := List.lt_irrefl _
theorem lt'_tri {a b : Str} (h : ¬ lt' a b) (k : ¬ lt' b a) : a = b := str_ext (List.le_antisymm (as := a.cps.toList) (bs := b.cps.toList) (List.not_lt.mp k) (List.not_lt.mp h))
theorem asc_head {x : Str} {l : List Str} (h : (x :: l).Pairwise lt') : ∀ y ∈ l, lt' x y := (List.pairwise_cons.mp h).1
theorem asc_unique : ∀ {l m : List Str}, l.Pairwise lt' → m.Pairwise lt' → (∀ y, y ∈ l ↔ y ∈ m) → l = m
  | [], [], _, _, _ => rfl
  | [], y :: m, _, _, h => nomatch (h y).mpr List.mem_cons_self
  | x :: l, [], _, _, h => nomatch (h x).mp List.mem_cons_self
  | x :: l, y :: m, hl, hm, h => by
    have e : x = y := by
      rcases List.mem_cons.mp ((h x).mp List.mem_cons_self) with e | q
      · exact e
      · rcases List.mem_cons.mp ((h y).mpr List.mem_cons_self) with e | r
        · exact e.symm
        · exact absurd (lt'_trans (asc_head hm x q) (asc_head hl y r)) (lt'_irr y)
    subst e
    have nl : x ∉ l := fun q => lt'_irr x (asc_head hl x q)
    have nm : x ∉ m := fun q => lt'_irr x (asc_head hm x q)
    rw [asc_unique (List.pairwise_cons.mp hl).2 (List.pairwise_cons.mp hm).2 fun y => ?_]
    constructor
    · intro q
      rcases List.mem_cons.mp ((h y).mp (List.mem_cons_of_mem _ q)) with e | r
      · exact absurd (e ▸ q) nl
      · exact r
    · intro q
      rcases List.mem_cons.mp ((h y).mpr (List.mem_cons_of_mem _ q)) with e | r
      · exact absurd (e ▸ q) nm
      · exact r
theorem rising_pair : ∀ (r : List Str) (p : Str), risingS p r = true → (p :: r).Pairwise fun a b => ¬ lt' b a
  | [], p, _ => List.pairwise_singleton _ _
  | x :: r, p, h => by
    have h' : (!ltCps x.cps.toList p.cps.toList && risingS x r) = true := h
    obtain ⟨h1, h2⟩ := Bool.and_eq_true_iff.mp h'
    rw [ltCps_eq] at h1
    have h1 : ¬ lt' x p := fun q => by
      rw [decide_eq_true (show x.cps.toList < p.cps.toList from q)] at h1
      cases h1
    have ih := rising_pair r x h2
    refine List.pairwise_cons.mpr ⟨fun y hy => ?_, ih⟩
    rcases List.mem_cons.mp hy with rfl | hy
    · exact h1
    · have h3 := (List.pairwise_cons.mp ih).1 y hy
      intro q
      by_cases c : lt' x y
      · exact h1 (lt'_trans c q)
      · have e := lt'_tri c h3
        subst e
        exact h1 q
theorem sorted_asc {l : List Str} (h : sortedS l = true) (d : l.Nodup) : l.Pairwise lt' := by
  have p : l.Pairwise fun a b => ¬ lt' b a := by
    cases l with
    | nil => exact .nil
    | cons x r => exact rising_pair r x h
  exact (List.Pairwise.and p d).imp fun {a b} ⟨h1, h2⟩ => by
    by_cases c : lt' a b
    · exact c
    · exact absurd (lt'_tri c h1) h2
/-- rises, strictly -/
def ascB : List Str → Bool
  | [] => true
  | [_] => true
  | x :: y :: r => decide (x.cps.toList < y.cps.toList) && ascB (y :: r)
theorem ascB_pair : ∀ {l : List Str}, ascB l = true → l.Pairwise lt'
  | [], _ => .nil
  | [x], _ => List.pairwise_singleton _ _
  | x :: y :: r, h => by
    obtain ⟨h1, h2⟩ := Bool.and_eq_true_iff.mp (show (decide (x.cps.toList < y.cps.toList) && ascB (y :: r)) = true from h)
    have ih := ascB_pair h2
    refine List.pairwise_cons.mpr ⟨fun z hz => ?_, ih⟩
    rcases List.mem_cons.mp hz with rfl | hz
    · exact of_decide_eq_true h1
    · exact lt'_trans (of_decide_eq_true h1) (asc_head ih z hz)
theorem pair_ascB : ∀ {l : List Str}, l.Pairwise lt' → ascB l = true
  | [], _ => rfl
  | [x], _ => rfl
  | x :: y :: r, h => by
    show (decide (x.cps.toList < y.cps.toList) && ascB (y :: r)) = true
    rw [pair_ascB (List.pairwise_cons.mp h).2, decide_eq_true (show x.cps.toList < y.cps.toList from asc_head h y List.mem_cons_self)]
    rfl
/-- a list is what sorted(set(it)) gives just if it rises -/
theorem asc_iff {ks zs xs : List Str} (hz : zs.Perm xs) (hx : xs.Nodup) (hs : sortedS zs = true) (hm : ∀ y, y ∈ xs ↔ y ∈ ks) : decide (ks = zs) = ascB ks := by
  have az := sorted_asc hs (hz.nodup_iff.mpr hx)
  by_cases c : ks = zs
  · rw [decide_eq_true c]
    subst c
    exact (pair_ascB az).symm
  · rw [decide_eq_false c]
    cases e : ascB ks with
    | false => rfl
    | true => exact absurd (asc_unique (ascB_pair e) az fun y => (hm y).symm.trans hz.mem_iff.symm) c
theorem eqvAll_strs : ∀ ks zs : List Str, PyData.eqvAll (ks.map PyData.str) (zs.map PyData.str) = decide (ks = zs)
  | [], [] => rfl
  | [], _ :: _ => rfl
  | _ :: _, [] => rfl
  | k :: ks, z :: zs => by
    show ((k == z) && PyData.eqvAll (ks.map PyData.str) (zs.map PyData.str)) = _
    rw [eqvAll_strs ks zs]
    by_cases e : k = z
    · subst e
      simp
    · simp [e]
theorem eqv_strs (ks zs : List Str) : PyData.eqv (.list (ks.map .str)) (.list (zs.map .str)) = decide (ks = zs) := eqvAll_strs ks zs
theorem dp_strs {K : PySem.W.Frag} {H : Hp} : ∀ ks : List Str, DpAll K H (ks.map V.str) (ks.map PyData.str)
  | [] => .nil
  | k :: ks => .cons (.str k) (dp_strs ks)
theorem lay_strs : ∀ ks : List Str, (∀ k ∈ ks, PyData.strOk k = true) → PyData.canLayAll0 (ks.map PyData.str) = true
  | [], _ => rfl
  | k :: ks, h => by
    show (PyData.canLay0 (.str k) && PyData.canLayAll0 (ks.map PyData.str)) = true
    rw [lay_strs ks fun z hz => h z (List.mem_cons_of_mem _ hz)]
    show (PyData.strOk k && true) = true
    rw [h k List.mem_cons_self]
    rfl
theorem depth_strs : ∀ ks : List Str, PyData.depthAll (ks.map PyData.str) = 0
  | [] => rfl
  | k :: ks => by
    show max 0 (PyData.depthAll (ks.map PyData.str)) = 0
    rw [depth_strs ks]
    rfl
theorem shaped_strs (ks : List Str) (h : ∀ k ∈ ks, PyData.strOk k = true) : SeqAt.shaped (.list (ks.map PyData.str)) = true := by
  show (PyData.canLayAll0 (ks.map PyData.str) && decide (PyData.depthAll (ks.map PyData.str) + 1 ≤ 64)) = true
  rw [lay_strs ks h, depth_strs]
  rfl
theorem name_ok {z : Str} (h : nameS z = true) : PyData.strOk z = true ∧ z.length ≤ 8 ∧ 1 ≤ z.length := by
  unfold nameS at h
  simp only [Bool.and_eq_true, decide_eq_true_eq] at h
  obtain ⟨_, h1, h2, _, h3⟩ := h
  refine ⟨?_, h2, h1⟩
  show z.cps.all (· < 0x110000) = true
  rw [← Array.all_toList]
  refine List.all_eq_true.mpr fun c hc => ?_
  have e := of_decide_eq_true (List.all_eq_true.mp h3 c hc)
  have f : ∀ c ∈ signsS.cps.toList, decide (c < 0x110000) = true := by decide +kernel
  exact f c e
theorem sym_ok {z : Str} (h : (Tr.str z).sym = true) : PyData.strOk z = true ∧ z.length ≤ 8 ∧ 1 ≤ z.length := by
  rcases (Bool.or_eq_true _ _).mp (show (nameS z || decide (z = "@")) = true from h) with h | h
  · exact name_ok h
  · have e := of_decide_eq_true h
    subst e
    decide +kernel
def Tr.pos : Tr → Bool
  | .int i => decide (i ≥ 0)
  | _ => false
def Tr.worth : Tr → Bool
  | .tup [s, w] => s.sym && (w.whole && w.pos)
  | _ => false
def Tr.key : Tr → Str
  | .tup [.str z, _] => z
  | _ => Str.empty
def Tr.vals : Tr → Bool
  | .tup ts => ts.all Tr.worth && ascB (ts.map Tr.key)
  | _ => false
theorem TrAll.len {K : PySem.W.Frag} {H : Hp} : ∀ {xs : List V} {ts : List Tr}, TrAll K H xs ts → xs.length = ts.length
  | _, _, .nil => rfl
  | _, _, .cons _ r => congrArg Nat.succ (TrAll.len r)
theorem TrAll.get {K : PySem.W.Frag} {H : Hp} : ∀ {xs : List V} {ts : List Tr}, TrAll K H xs ts → ∀ {i : Nat} {x : V}, xs[i]? = some x → ∃ t, ts[i]? = some t ∧ TrIs K H x t
  | _, _, .nil, i, x, e => by simp at e
  | _, _, .cons h r, 0, x, e => by
    obtain rfl := Option.some.inj e
    exact ⟨_, rfl, h⟩
  | _, _, .cons h r, i + 1, x, e => TrAll.get r (i := i) (by simpa using e)
theorem worth_at {K : PySem.W.Frag} {H : Hp} {v : V} {t : Tr} (h : TrIs K H v t) (w : t.worth = true) : ∃ a z u, v = .ref a ∧ Tp H a [.str z, u] ∧ t.key = z ∧ PyData.strOk z = true ∧ z.length ≤ 8 ∧ 1 ≤ z.length := by
  cases h with
  | @tup a xs ts h l r =>
    cases r with
    | nil => exact absurd (show false = true from w) Bool.false_ne_true
    | @cons x s xs ts h1 r =>
      cases r with
      | nil => exact absurd (show false = true from w) Bool.false_ne_true
      | @cons y u xs ts h2 r =>
        cases r with
        | cons _ _ => exact absurd (show false = true from w) Bool.false_ne_true
        | nil =>
          have ws : s.sym = true := (Bool.and_eq_true_iff.mp (show (s.sym && (u.whole && u.pos)) = true from w)).1
          cases h1 with
          | str z hz => exact ⟨a, z, y, rfl, h, rfl, sym_ok ws⟩
          | _ => exact absurd (show false = true from ws) Bool.false_ne_true
  | _ => exact absurd (show false = true from w) Bool.false_ne_true
end Lw

/-! ## Fm1 -/
set_option maxHeartbeats 2000000
/-! terms and their texts -/
namespace Fm
open PySem PySem.Spec PyProof.Rows L2 TL
abbrev Tm := List (Str × Int)
def absI (f : Int) : Int := if f < 0 then -f else f
theorem absI_nonneg (f : Int) : 0 ≤ absI f := by unfold absI; split <;> omega
def cf : Tm → Str → Int
  | [], _ => 0
  | (t, f) :: r, s => if t = s then f else cf r s
/-- symbols ascend -/
def Asc : Tm → Prop
  | [] => True
  | p :: r => (∀ q ∈ r, p.1.cps.toList < q.1.cps.toList) ∧ Asc r
theorem cf_none : ∀ {ts : Tm} {s : Str}, (∀ p ∈ ts, p.1 ≠ s) → cf ts s = 0
  | [], _, _ => rfl
  | (t, f) :: r, s, h => by
    show (if t = s then f else cf r s) = 0
    rw [if_neg (h _ List.mem_cons_self), cf_none fun p hp => h p (List.mem_cons_of_mem _ hp)]
theorem lt_irr (l : List Nat) : ¬ l < l := List.lt_irrefl l
theorem lt_tr {a b c : List Nat} (h : a < b) (k : b < c) : a < c := List.lt_trans h k
theorem cf_mem : ∀ {ts : Tm} {s : Str} {f : Int}, Asc ts → (s, f) ∈ ts → cf ts s = f
  | (t, g) :: r, s, f, h, m => by
    show (if t = s then g else cf r s) = f
    rcases List.mem_cons.mp m with e | m
    · cases e
      rw [if_pos rfl]
    · rw [if_neg (fun e => lt_irr _ (e ▸ h.1 _ m)), cf_mem h.2 m]
/-- normal: symbols ascend, no factor 0 -/
structure Nm (ts : Tm) : Prop where
  asc : Asc ts
  nz : ∀ p ∈ ts, p.2 ≠ 0
theorem Nm.tail {p : Str × Int} {r : Tm} (h : Nm (p :: r)) : Nm r := ⟨h.asc.2, fun q m => h.nz q (List.mem_cons_of_mem _ m)⟩
theorem str_ext {a b : Str} (h : a.cps.toList = b.cps.toList) : a = b := by
  obtain ⟨⟨x⟩⟩ := a
  obtain ⟨⟨y⟩⟩ := b
  have h : x = y := h
  rw [h]
theorem list_tri (a b : List Nat) : a < b ∨ a = b ∨ b < a := by
  by_cases h : a < b
  · exact .inl h
  · by_cases k : b < a
    · exact .inr (.inr k)
    · exact .inr (.inl (List.le_antisymm (List.not_lt.mp k) (List.not_lt.mp h)))
/-- normal terms are known by their factors -/
theorem nm_ext : ∀ {ts us : Tm}, Nm ts → Nm us → (∀ s, cf ts s = cf us s) → ts = us
  | [], [], _, _, _ => rfl
  | [], (u, g) :: r, _, k, h => absurd (h u) (by
    show ¬ (0 : Int) = if u = u then g else cf r u
    rw [if_pos rfl]
    exact fun e => k.nz _ List.mem_cons_self e.symm)
  | (t, f) :: r, [], k, _, h => absurd (h t) (by
    show ¬ (if t = t then f else cf r t) = 0
    rw [if_pos rfl]
    exact k.nz _ List.mem_cons_self)
  | (t, f) :: r, (u, g) :: q, hk, hl, h => by
    have out : ∀ {a b : Str × Int} {w : Tm}, Nm (b :: w) → a.1.cps.toList < b.1.cps.toList → cf (b :: w) a.1 = 0 := fun {a b w} n l => cf_none fun p hp => by
      rcases List.mem_cons.mp hp with e | m
      · subst e
        exact fun e => lt_irr _ (e ▸ l)
      · exact fun e => lt_irr _ (lt_tr l (e ▸ n.asc.1 p m))
    rcases list_tri t.cps.toList u.cps.toList with l | e | l
    · have z := h t
      rw [show cf ((t, f) :: r) t = f from if_pos rfl, out (a := (t, f)) hl l] at z
      exact absurd z (hk.nz _ List.mem_cons_self)
    · have e := str_ext e
      subst e
      have z := h t
      rw [show cf ((t, f) :: r) t = f from if_pos rfl, show cf ((t, g) :: q) t = g from if_pos rfl] at z
      subst z
      rw [nm_ext hk.tail hl.tail fun s => ?_]
      by_cases e : t = s
      · subst e
        rw [cf_none fun p hp e => lt_irr _ (e ▸ hk.asc.1 p hp), cf_none fun p hp e => lt_irr _ (e ▸ hl.asc.1 p hp)]
      · have z := h s
        rwa [show cf ((t, f) :: r) s = cf r s from if_neg e, show cf ((t, f) :: q) s = cf q s from if_neg e] at z
    · have z := h u
      rw [show cf ((u, g) :: q) u = g from if_pos rfl, out (a := (u, g)) hk l] at z
      exact absurd z.symm (hl.nz _ List.mem_cons_self)
/-! ### texts -/
def numS (f : Int) : Str := Str.ofString (toString (absI f))
def starS : Str := "*"
/-- a term without its sign -/
def wordS (s : Str) (f : Int) : Str := if absI f = 1 then s else numS f ++ starS ++ s
def sgn1 (f : Int) : Str := if f < 0 then "-" else ""
def sgnM (f : Int) : Str := if f < 0 then " - " else " + "
def lineS : Str → Tm → Str
  | l, [] => l
  | l, (s, f) :: r => lineS (if l = "" then sgn1 f ++ wordS s f else l ++ sgnM f ++ wordS s f) r
def textS (ts : Tm) : Str := if lineS "" ts = "" then "0" else lineS "" ts
/-- the pieces, behind those that are there -/
def pcsS : List Str → Tm → List Str
  | l, [] => l
  | l, (s, f) :: r => pcsS (l ++ (if l = [] then (if f < 0 then ([("-" : Str)] : List Str) else []) else [sgnM f]) ++ [wordS s f]) r
def shownS (ts : Tm) : Str := if ts = [] then "0" else Txt.join "" (pcsS [] ts)
theorem tl_app (a b : Str) : tl (a ++ b) = tl a ++ tl b := tl_append a b
theorem wordS_ne {s : Str} (h : tl s ≠ []) (f : Int) : tl (wordS s f) ≠ [] := by
  unfold wordS
  split
  · exact h
  · rw [tl_app]
    exact fun e => h (List.append_eq_nil_iff.mp e).2
theorem eq_nil_of {a : Str} (h : tl a = []) : a = "" := str_ext h
theorem joinE (a : Str) (zs : List Str) : tl (Txt.join "" zs) = (zs.map tl).flatten := by
  rw [show Txt.join "" zs = Str.join "" zs from StrLaws.glued_eq_join _ _]
  induction zs with
  | nil => rfl
  | cons x r ih =>
    cases r with
    | nil =>
      show tl x = _
      simp
    | cons y q =>
      show tl (x ++ ("" : Str) ++ Str.join "" (y :: q)) = _
      rw [tl_app, tl_app, ih]
      simp [show tl ("" : Str) = [] from rfl]
def Sy (ts : Tm) : Prop := ∀ p ∈ ts, tl p.1 ≠ []
theorem line_pcs : ∀ (ts : Tm) (l : Str) (ps : List Str), Sy ts → tl l = (ps.map tl).flatten → (l = "" ↔ ps = []) → tl (lineS l ts) = ((pcsS ps ts).map tl).flatten
  | [], l, ps, _, h, _ => h
  | (s, f) :: r, l, ps, hs, h, k => by
    have hw := wordS_ne (hs _ List.mem_cons_self) f
    refine line_pcs r _ _ (fun p m => hs p (List.mem_cons_of_mem _ m)) ?_ ⟨fun e => ?_, fun e => absurd e (by simp)⟩
    · by_cases e : l = ""
      · have e2 := k.mp e
        subst e e2
        rw [if_pos rfl, if_pos rfl, tl_app]
        unfold sgn1
        by_cases g : f < 0 <;> simp [g, show tl ("" : Str) = [] from rfl]
      · have e2 : ps ≠ [] := fun q => e (k.mpr q)
        rw [if_neg e, if_neg e2, tl_app, tl_app, h]
        simp
    · exfalso
      split at e
      · have : tl (sgn1 f ++ wordS s f) = [] := by rw [e]; rfl
        rw [tl_app] at this
        exact hw (List.append_eq_nil_iff.mp this).2
      · have : tl (l ++ sgnM f ++ wordS s f) = [] := by rw [e]; rfl
        rw [tl_app] at this
        exact hw (List.append_eq_nil_iff.mp this).2
theorem line_ne : ∀ (ts : Tm) (l : Str), Sy ts → (l ≠ "" ∨ ts ≠ []) → lineS l ts ≠ ""
  | [], l, _, h => h.elim id fun h => absurd rfl h
  | (s, f) :: r, l, hs, _ => line_ne r _ (fun p m => hs p (List.mem_cons_of_mem _ m)) (.inl fun e => by
    have hw := wordS_ne (hs _ List.mem_cons_self) f
    split at e
    · have : tl (sgn1 f ++ wordS s f) = [] := by rw [e]; rfl
      rw [tl_app] at this
      exact hw (List.append_eq_nil_iff.mp this).2
    · have : tl (l ++ sgnM f ++ wordS s f) = [] := by rw [e]; rfl
      rw [tl_app] at this
      exact hw (List.append_eq_nil_iff.mp this).2)
/-- what is shown is the law's text -/
theorem shown_text {ts : Tm} (h : Sy ts) : shownS ts = textS ts := by
  unfold shownS textS
  by_cases e : ts = []
  · subst e
    rfl
  · rw [if_neg e, if_neg (line_ne ts "" h (.inr e))]
    refine str_ext ?_
    have a := line_pcs ts "" [] h rfl (by simp)
    show tl (Txt.join "" (pcsS [] ts)) = tl (lineS "" ts)
    rw [joinE "", a]
end Fm

/-! ## Fm2 -/
set_option maxHeartbeats 2000000
/-! texts of terms, read -/
namespace Fm
open PySem PySem.Spec PyProof.Rows L2 TL
open PySem.Builtin.Str (lastOccurrence strSub)
/-! ### rpartition at one sign -/
theorem at_one {x y : Str} {c i : Nat} (hy : tl y = [c]) (h : StrLaws.At x y x.length i) : (tl x)[i]? = some c := by
  have e := (at_iff (x := x) (y := y) (by rw [hy]; simp) i).mp h
  rw [hy] at e
  cases hd : (tl x).drop i with
  | nil =>
    rw [hd] at e
    rw [pre_nil (by simp)] at e
    cases e
  | cons d r =>
    rw [hd] at e
    have e : ([d] == [c]) = true := e
    have : d = c := by simpa using e
    subst this
    rw [← List.head?_drop, hd]
    rfl
theorem one_at {x y : Str} {c i : Nat} (hy : tl y = [c]) (h : (tl x)[i]? = some c) : StrLaws.At x y x.length i := by
  refine (at_iff (x := x) (y := y) (by rw [hy]; simp) i).mpr ?_
  rw [hy]
  have hd : ((tl x).drop i).head? = some c := by rw [List.head?_drop]; exact h
  cases e : (tl x).drop i with
  | nil => rw [e] at hd; cases hd
  | cons d r =>
    rw [e] at hd
    cases hd
    show ([c] == [c]) = true
    simp
theorem rpart_none {x y : Str} {c : Nat} (hy : tl y = [c]) (h : c ∉ tl x) : Txt.rpartition x y = (Str.empty, Str.empty, x) := by
  unfold Txt.rpartition
  rcases StrLaws.last_spec x y with ⟨h0, _⟩ | ⟨i, h0, hi, _⟩
  · rw [h0]
  · exact absurd (List.mem_of_getElem? (at_one hy hi)) h
theorem rpart_app {a b y : Str} {c : Nat} (hy : tl y = [c]) (h : c ∉ tl b) : Txt.rpartition (a ++ y ++ b) y = (a, y, b) := by
  have ex : tl (a ++ y ++ b) = tl a ++ (c :: tl b) := by rw [tl_append, tl_append, hy, List.append_assoc] <;> rfl
  have hA : StrLaws.At (a ++ y ++ b) y (a ++ y ++ b).length (tl a).length := one_at hy (by rw [ex, List.getElem?_append_right (Nat.le_refl _), Nat.sub_self] <;> rfl)
  have ly : y.length = 1 := by rw [len_tl, hy] <;> rfl
  unfold Txt.rpartition
  rcases StrLaws.last_spec (a ++ y ++ b) y with ⟨_, hn⟩ | ⟨i, h0, hi, hn⟩
  · exact absurd hA (hn _)
  · rw [h0]
    have e : i = (tl a).length := by
      rcases Nat.lt_trichotomy i (tl a).length with l | e | l
      · exact absurd hA (hn _ l)
      · exact e
      · have q := at_one hy hi
        rw [ex, List.getElem?_append_right (by omega)] at q
        obtain ⟨k, hk⟩ : ∃ k, i - (tl a).length = k + 1 := ⟨i - (tl a).length - 1, by omega⟩
        rw [hk, List.getElem?_cons_succ] at q
        exact absurd (List.mem_of_getElem? q) h
    subst e
    have e1 : strSub (a ++ y ++ b) 0 (tl a).length = a := ext_tl (by
      rw [tl_strSub, ex, List.drop_zero, Nat.sub_zero, List.take_left])
    have e2 : strSub (a ++ y ++ b) ((tl a).length + y.length) (a ++ y ++ b).length = b := ext_tl (by
      rw [tl_strSub_end, ex, ly, ← List.drop_drop, List.drop_left] <;> rfl)
    show (strSub (a ++ y ++ b) 0 (tl a).length, y, strSub (a ++ y ++ b) ((tl a).length + y.length) (a ++ y ++ b).length) = _
    rw [e1, e2]
/-! ### the words -/
def wrds : Tm → List Str
  | [] => []
  | (s, f) :: r => (if f < 0 then ("-" : Str) else ("+" : Str)) :: wordS s f :: wrds r
def words : Tm → List Str
  | [] => []
  | (s, f) :: r => (sgn1 f ++ wordS s f) :: wrds r
theorem joinB (w : Str) : ∀ xs : List Str, tl (Str.join " " (w :: xs)) = tl w ++ (xs.map fun x => 32 :: tl x).flatten
  | [] => by
    show tl w = _
    simp
  | x :: r => by
    show tl (w ++ (" " : Str) ++ Str.join " " (x :: r)) = _
    rw [tl_append, tl_append, joinB x r]
    simp [show tl (" " : Str) = [32] from rfl]
theorem line_wrds : ∀ (ts : Tm) (l : Str), Sy ts → l ≠ "" → tl (lineS l ts) = tl l ++ ((wrds ts).map fun x => 32 :: tl x).flatten
  | [], l, _, _ => by
    show tl l = _
    simp [wrds]
  | (s, f) :: r, l, hs, hl => by
    have hw := wordS_ne (hs _ List.mem_cons_self) f
    show tl (lineS (if l = "" then sgn1 f ++ wordS s f else l ++ sgnM f ++ wordS s f) r) = _
    rw [if_neg hl, line_wrds r _ (fun p m => hs p (List.mem_cons_of_mem _ m)) (fun e => hw (by
      have : tl (l ++ sgnM f ++ wordS s f) = [] := by rw [e]; rfl
      rw [tl_append] at this
      exact (List.append_eq_nil_iff.mp this).2)), tl_append, tl_append]
    have e : tl (sgnM f) = 32 :: tl (if f < 0 then ("-" : Str) else ("+" : Str)) ++ [32] := by
      unfold sgnM
      split <;> rfl
    rw [e]
    simp [wrds]
theorem text_words {p : Str × Int} {r : Tm} (hs : Sy (p :: r)) : textS (p :: r) = Txt.join " " (words (p :: r)) := by
  obtain ⟨s, f⟩ := p
  have hw := wordS_ne (hs _ List.mem_cons_self) f
  unfold textS
  rw [if_neg (line_ne _ "" hs (.inr (by simp)))]
  refine str_ext ?_
  show tl (lineS (if ("" : Str) = "" then sgn1 f ++ wordS s f else _) r) = tl (Txt.join " " (words ((s, f) :: r)))
  rw [if_pos rfl, line_wrds r _ (fun p m => hs p (List.mem_cons_of_mem _ m)) (fun e => hw (by
    have : tl (sgn1 f ++ wordS s f) = [] := by rw [e]; rfl
    rw [tl_append] at this
    exact (List.append_eq_nil_iff.mp this).2)), show Txt.join " " (words ((s, f) :: r)) = Str.join " " (words ((s, f) :: r)) from StrLaws.glued_eq_join _ _]
  show _ = tl (Str.join " " ((sgn1 f ++ wordS s f) :: wrds r))
  rw [joinB]
/-- no blank, no star, no minus within a symbol -/
structure SyOk (s : Str) : Prop where
  ne : tl s ≠ []
  b : 32 ∉ tl s
  st : 42 ∉ tl s
  mi : ∀ c, (tl s).head? = some c → c ≠ 45
  no0 : s ≠ "0"
  dg : ∀ c, (tl s).head? = some c → c < 48 ∨ 57 < c
theorem num_free (k : Nat) (hk : k ≠ 45 ∧ (k < 48 ∨ 57 < k)) (f : Int) : k ∉ tl (numS f) := int_text_free' k hk (absI f)
theorem word_blank {s : Str} (h : SyOk s) (f : Int) : 32 ∉ tl (wordS s f) := by
  unfold wordS
  split
  · exact h.b
  · rw [tl_append, tl_append]
    intro m
    rcases List.mem_append.mp m with m | m
    · rcases List.mem_append.mp m with m | m
      · exact num_free 32 ⟨by decide, by decide⟩ f m
      · exact absurd m (by decide)
    · exact h.b m
theorem wrds_blank : ∀ {ts : Tm}, (∀ p ∈ ts, SyOk p.1) → ∀ x ∈ wrds ts, 32 ∉ tl x
  | [], _, x, m => absurd m (by simp [wrds])
  | (s, f) :: r, h, x, m => by
    rcases List.mem_cons.mp m with rfl | m
    · split <;> decide
    · rcases List.mem_cons.mp m with rfl | m
      · exact word_blank (h _ List.mem_cons_self) f
      · exact wrds_blank (fun p q => h p (List.mem_cons_of_mem _ q)) x m
theorem words_blank : ∀ {ts : Tm}, (∀ p ∈ ts, SyOk p.1) → ∀ x ∈ words ts, 32 ∉ tl x
  | [], _, x, m => absurd m (by simp [words])
  | (s, f) :: r, h, x, m => by
    rcases List.mem_cons.mp m with rfl | m
    · rw [tl_append]
      intro q
      rcases List.mem_append.mp q with q | q
      · unfold sgn1 at q
        split at q <;> exact absurd q (by decide)
      · exact word_blank (h _ List.mem_cons_self) f q
    · exact wrds_blank (fun p q => h p (List.mem_cons_of_mem _ q)) x m
theorem sy_of {ts : Tm} (h : ∀ p ∈ ts, SyOk p.1) : Sy ts := fun p m => (h p m).ne
theorem split_words {p : Str × Int} {r : Tm} (h : ∀ q ∈ p :: r, SyOk q.1) : Txt.split (textS (p :: r)) " " = words (p :: r) := by
  rw [text_words (sy_of h)]
  exact split_join (y := " ") (s := 32) (S := []) rfl (by decide +kernel) (by obtain ⟨s, f⟩ := p; simp [words]) (words_blank h)
theorem text_nil : textS [] = "0" := by
  show (if ("" : Str) = "" then ("0" : Str) else _) = _
  rw [if_pos rfl]
theorem text_zero {p : Str × Int} {r : Tm} (h : ∀ q ∈ p :: r, SyOk q.1) : textS (p :: r) ≠ "0" := by
  obtain ⟨s, f⟩ := p
  intro e
  have hs : SyOk s := h _ List.mem_cons_self
  have e1 : Txt.split (textS ((s, f) :: r)) " " = ([("0" : Str)] : List Str) := by
    rw [e]
    decide +kernel
  rw [split_words h] at e1
  have e2 : sgn1 f ++ wordS s f = "0" := (List.cons.inj e1).1
  have e3 : tl (sgn1 f) ++ tl (wordS s f) = [48] := by rw [← tl_append, e2] <;> rfl
  unfold sgn1 at e3
  by_cases g : f < 0
  · rw [if_pos g] at e3
    exact absurd (List.cons.inj e3).1 (by decide)
  · rw [if_neg g] at e3
    have e3 : tl (wordS s f) = [48] := e3
    unfold wordS at e3
    split at e3
    · exact hs.no0 (str_ext e3)
    · rw [tl_append, tl_append] at e3
      have l := congrArg List.length e3
      simp only [List.length_append, List.length_cons, List.length_nil] at l
      have := List.length_pos_iff.mpr hs.ne
      have : (tl starS).length = 1 := rfl
      omega
/-! ### a word, read -/
/-- what a word without its sign is made of -/
theorem word_rpart {s : Str} (h : SyOk s) (f : Int) : Txt.rpartition (wordS s f) "*" = if absI f = 1 then (Str.empty, Str.empty, s) else (numS f, "*", s) := by
  unfold wordS
  split
  · exact rpart_none (c := 42) rfl h.st
  · exact rpart_app (c := 42) rfl h.st
theorem num_read {f : Int} (h : f.natAbs < 10 ^ 10) : PySem.intText? (numS f) = some (absI f) := PySem.W.KIN.num_reads (absI_nonneg f) (by unfold absI; split <;> omega)
theorem starts_iff {x : Str} {c : Nat} {y : Str} (hy : tl y = [c]) : Txt.startswith x y = decide ((tl x).head? = some c) := by
  have ly : y.length = 1 := by rw [len_tl, hy] <;> rfl
  have ey : y.cps = #[c] := by
    have : y.cps.toList = [c] := hy
    exact Array.toList_inj.mp this
  unfold Txt.startswith Builtin.Str.subAt
  rw [ly, ey]
  obtain ⟨⟨l⟩⟩ := x
  cases l with
  | nil => rfl
  | cons d r =>
    have e : ({ toList := d :: r } : Array Nat).extract 0 (0 + 1) = #[d] := Array.toList_inj.mp (by simp)
    show (decide (0 + 1 ≤ (d :: r).length) && (({ toList := d :: r } : Array Nat).extract 0 (0 + 1) == #[c])) = decide (some d = some c)
    rw [e]
    by_cases q : d = c
    · subst q
      simp
    · simp [q]
end Fm

/-! ## FmA -/
set_option maxHeartbeats 1000000
namespace Lw
open PySem PySem.Spec PyProof.Rows L2
open Fm (cf Asc Nm)
abbrev s__terms_of : Stmt := topS 31
abbrev n__terms_of : List Str := ["factors", "symbol"]
theorem sc__terms_of : FnScope n__terms_of ["factors"] (defScope s__terms_of) := ⟨rfl, rfl, rfl, by decide +kernel, rfl, by decide +kernel, by decide +kernel⟩
abbrev s__symbols_of : Stmt := topS 32
abbrev n__symbols_of : List Str := ["terms", "symbol", "_"]
theorem sc__symbols_of : FnScope n__symbols_of ["terms"] (defScope s__symbols_of) := ⟨rfl, rfl, rfl, by decide +kernel, rfl, by decide +kernel, by decide +kernel⟩
abbrev Tms := Fm.Tm
theorem TupF.tp {H : Hp} {a : Addr} {xs : List V} (h : TupF H a xs) : Tp H a xs := by
  obtain ⟨o, _, h⟩ := h
  exact .inr ⟨o, h⟩
/-- a pair (symbol, factor) -/
def PairO (H : Hp) (p : Addr) (q : Str × Int) : Prop := H p = some (.tup [.str q.1, .int q.2])
def Prs (H : Hp) : List Addr → Tms → Prop := Paired (PairO H)
def TermsAt (H : Hp) (t : Addr) (ts : Tms) : Prop := ∃ ps : List Addr, TupF H t (ps.map V.ref) ∧ Prs H ps ts
def SymsAt (H : Hp) (u : Addr) (ts : Tms) : Prop := TupF H u (ts.map fun q => V.str q.1)
/-- the form with these terms -/
def FormAt (C : Addr) (H : Hp) (a : Addr) (ts : Tms) : Prop := ∃ dx t u, H a = some (.ins C dx [("terms", .ref t), ("symbols", .ref u)]) ∧ TermsAt H t ts ∧ SymsAt H u ts
theorem Prs.same {H H' : Hp} (s : Same H H') : ∀ {ps : List Addr} {ts : Tms}, Prs H ps ts → Prs H' ps ts
  | _, _, .nil => .nil
  | _, _, .cons h r => .cons (s _ _ h) (Prs.same s r)
theorem TermsAt.same {H H' : Hp} {t : Addr} {ts : Tms} (s : Same H H') (h : TermsAt H t ts) : TermsAt H' t ts := by
  obtain ⟨ps, h, r⟩ := h
  exact ⟨ps, h.same s, r.same s⟩
theorem FormAt.same {C : Addr} {H H' : Hp} {a : Addr} {ts : Tms} (s : Same H H') (h : FormAt C H a ts) : FormAt C H' a ts := by
  obtain ⟨dx, t, u, h, r, z⟩ := h
  exact ⟨dx, t, u, s _ _ h, r.same s, TupF.same s z⟩
theorem Prs.len {H : Hp} : ∀ {ps : List Addr} {ts : Tms}, Prs H ps ts → ps.length = ts.length
  | _, _, .nil => rfl
  | _, _, .cons _ r => congrArg Nat.succ (Prs.len r)
theorem Prs.get {H : Hp} : ∀ {ps : List Addr} {ts : Tms}, Prs H ps ts → ∀ {i : Nat} {x : V}, (ps.map V.ref)[i]? = some x → ∃ p q, x = .ref p ∧ ts[i]? = some q ∧ H p = some (.tup [.str q.1, .int q.2])
  | _, _, .nil, i, x, e => by simp at e
  | _, _, .cons (a := p) (b := q) h r, 0, x, e => by
    obtain rfl := Option.some.inj e
    exact ⟨p, q, rfl, rfl, h⟩
  | _, _, .cons h r, i + 1, x, e => Prs.get r (i := i) (by simpa using e)
theorem Prs.snoc {H : Hp} {p : Addr} {q : Str × Int} (h : H p = some (.tup [.str q.1, .int q.2])) : ∀ {ps : List Addr} {ts : Tms}, Prs H ps ts → Prs H (ps ++ [p]) (ts ++ [q])
  | _, _, .nil => .cons h .nil
  | _, _, .cons h' r => .cons h' (Prs.snoc h r)
/-- what a dict of texts and ints holds -/
theorem val_cf {kvs : Tms} {s : Str} (h : s ∈ kvs.map (·.1)) : valV (kvs.map entK) (Sum.inr s) = some (.int (cf kvs s)) := by
  induction kvs with
  | nil => cases h
  | cons p r ih =>
    obtain ⟨t, f⟩ := p
    rw [List.map_cons]
    by_cases e : t = s
    · subst e
      rw [valV_pos rfl, show cf ((t, f) :: r) t = f from if_pos rfl]
    · rw [valV_neg (fun z => e (Sum.inr.inj z)), ih ((List.mem_cons.mp h).elim (fun q => absurd q.symm e) id), show cf ((t, f) :: r) s = cf r s from if_neg e]
theorem val_none {kvs : Tms} {s : Str} (h : s ∉ kvs.map (·.1)) : valV (kvs.map entK) (Sum.inr s) = none := by
  induction kvs with
  | nil => rfl
  | cons p r ih =>
    obtain ⟨t, f⟩ := p
    rw [List.map_cons, valV_neg (fun z => h (by rw [← Sum.inr.inj z]; exact List.mem_cons_self)), ih fun q => h (List.mem_cons_of_mem _ q)]
theorem cf_nin {kvs : Tms} {s : Str} (h : s ∉ kvs.map (·.1)) : cf kvs s = 0 := Fm.cf_none fun p hp e => h (e ▸ List.mem_map_of_mem hp)
theorem cf_nodup {kvs : Tms} {s : Str} {f : Int} (hn : (kvs.map (·.1)).Nodup) (h : (s, f) ∈ kvs) : cf kvs s = f := by
  induction kvs with
  | nil => cases h
  | cons p r ih =>
    obtain ⟨t, g⟩ := p
    rw [List.map_cons, List.nodup_cons] at hn
    rcases List.mem_cons.mp h with e | h
    · cases e
      exact if_pos rfl
    · have : t ≠ s := fun e => hn.1 (by rw [e]; exact List.mem_map_of_mem (f := (·.1)) h)
      rw [show cf ((t, g) :: r) s = cf r s from if_neg this, ih hn.2 h]
/-- the terms of the sorted symbols -/
def tmOf (kvs : Tms) (ys : List Str) : Tms := (ys.map fun s => (s, cf kvs s)).filter fun q => !decide (q.2 = 0)
theorem tm_mem {kvs : Tms} {ys : List Str} {q : Str × Int} : q ∈ tmOf kvs ys ↔ q.1 ∈ ys ∧ q.2 = cf kvs q.1 ∧ q.2 ≠ 0 := by
  unfold tmOf
  rw [List.mem_filter, List.mem_map]
  constructor
  · rintro ⟨⟨s, hs, rfl⟩, h⟩
    exact ⟨hs, rfl, by simpa using h⟩
  · rintro ⟨h1, h2, h3⟩
    exact ⟨⟨q.1, h1, by rw [← h2]⟩, by simpa using h3⟩
theorem asc_of : ∀ {ts : Tms}, (ts.map (·.1)).Pairwise lt' → Asc ts
  | [], _ => trivial
  | p :: r, h => by
    rw [List.map_cons, List.pairwise_cons] at h
    exact ⟨fun q hq => h.1 _ (List.mem_map_of_mem hq), asc_of h.2⟩
theorem tm_asc {kvs : Tms} {ys : List Str} (h : ys.Pairwise lt') : ((tmOf kvs ys).map (·.1)).Pairwise lt' := by
  have e : (ys.map fun s => (s, cf kvs s)).map (·.1) = ys := by
    rw [List.map_map]
    exact (List.map_congr_left fun _ _ => rfl).trans (List.map_id ys)
  unfold tmOf
  have := (List.filter_sublist (p := fun q : Str × Int => !decide (q.2 = 0)) (l := ys.map fun s => (s, cf kvs s))).map (·.1)
  rw [e] at this
  exact h.sublist this
theorem tm_nm {kvs : Tms} {ys : List Str} (hp : ys.Perm (kvs.map (·.1))) (hs : sortedS ys = true) (hn : (kvs.map (·.1)).Nodup) : Nm (tmOf kvs ys) ∧ (∀ s, cf (tmOf kvs ys) s = cf kvs s) ∧ ∀ q ∈ tmOf kvs ys, q ∈ kvs := by
  have ha := sorted_asc hs (hp.nodup_iff.mpr hn)
  have nm : Nm (tmOf kvs ys) := ⟨asc_of (tm_asc ha), fun q hq => (tm_mem.mp hq).2.2⟩
  refine ⟨nm, fun s => ?_, fun q hq => ?_⟩
  · by_cases h : s ∈ kvs.map (·.1)
    · by_cases z : cf kvs s = 0
      · rw [z]
        exact Fm.cf_none fun p hp' e => by
          have := tm_mem.mp hp'
          rw [e, z] at this
          exact this.2.2 this.2.1
      · exact Fm.cf_mem nm.asc (tm_mem.mpr ⟨hp.mem_iff.mpr h, rfl, z⟩)
    · rw [cf_nin h]
      exact Fm.cf_none fun p hp' e => h (hp.mem_iff.mp (e ▸ (tm_mem.mp hp').1))
  · obtain ⟨h1, h2, h3⟩ := tm_mem.mp hq
    obtain ⟨⟨t, f⟩, hm, e⟩ := List.mem_map.mp (hp.mem_iff.mp h1)
    have := cf_nodup hn hm
    obtain ⟨s, g⟩ := q
    cases (show t = s from e)
    rw [show g = cf kvs t from h2, this]
    exact hm
def spTermsOf : Sp := fun vs H Q _ => ∃ (d : Addr) (kvs : Tms), vs = [.ref d] ∧ H d = some (.dK (kvs.map entK)) ∧ (kvs.map (·.1)).Nodup ∧ kvs.length < 64 ∧
  ∀ p H' ts, Same H H' → H p = none → TermsAt H' p ts → Nm ts → (∀ s, cf ts s = cf kvs s) → (∀ q ∈ ts, q ∈ kvs) → Q (.ref p) H'
def spSymsOf : Sp := fun vs H Q _ => ∃ (t : Addr) (ts : Tms), vs = [.ref t] ∧ TermsAt H t ts ∧ ts.length < 1000 ∧ ∀ p H', Same H H' → H p = none → SymsAt H' p ts → Q (.ref p) H'
section
variable {P : Program} {w : World} {K : PySem.W.Frag} {mg : Str → Option Value} {base : Heap}
theorem ok_terms_of {f : Addr} {fd : FuncData} (F : Fun K "_terms_of" "_terms_of" s__terms_of f fd) (T : Ta mg) : FnG P w K mg base 1 f fd ["factors"] spTermsOf := by
  refine okG F sc__terms_of (fun vs H Q E h => ?_) (fun cdv A outer s H vs Q hr h => ?_)
  · obtain ⟨d, kvs, rfl, _⟩ := h
    rfl
  · obtain ⟨d, kvs, rfl, hd, hn, hl, k⟩ := h
    refine ⟨_, (pss_one (ps_ret (pe_callTy call_tupleF (by rfl) T.b_tuple (by decide +kernel) (pa_cons (pe_lc (own := [("symbol", 1)]) (g := gName 1) rfl sc__terms_of.nd (pi_list (pe_callB (call_sortedD (by rfl)) (by rfl) T.b_sorted (by decide +kernel) (pa_cons (pv 0) pa_nil))) (blkOk_by (own := [("symbol", 1)]) (N := n__terms_of) (sc := defScope s__terms_of) (by decide +kernel)) (fun _ _ _ _ _ => pg_name (i := 1) sc__terms_of.nd rfl (Or.inl rfl)) (fun _ _ _ _ _ => (pts_one (pt_cmpR op_ne (pe_dget (hu_of hr.rm) (pv 0) (pv 1) (fun _ _ => rfl)) pe_int (nomark _)))) (fun _ _ _ _ _ => (pe_tupS (pa_cons (pv 1) (pa_cons (pe_dget (hu_of hr.rm) (pv 0) (pv 1) (fun _ _ => rfl)) pa_nil))))) pa_nil)))), ?_⟩
    refine ⟨_, rfl, d, kvs.map entK, kvs.map (·.1), rfl, .inl hd, by rw [List.map_map, List.map_map] <;> rfl, by rw [List.length_map]; exact hl, fun ys p hp hs hnp => ?_⟩
    have s1 : Same H (upd H p (.lst (ys.map V.str))) := Same.new hnp
    generalize h1 : upd H p (.lst (ys.map V.str)) = H1 at s1 ⊢
    have hp1 : H1 p = some (.lst (ys.map V.str)) := by rw [← h1]; exact upd_same
    have hd1 := s1 _ _ hd
    have ly : ys.length < 64 := by rw [hp.length_eq, List.length_map]; exact hl
    refine ⟨p, rfl, ⟨_, SqL.of hp1⟩, fun D hD => lc_it walk_list (fun j H' => Same H1 H' ∧ ∃ ps, H' D = some (.lst (ps.map V.ref)) ∧ Prs H' ps (tmOf kvs (ys.take j))) ⟨Same.new hD, [], upd_same, .nil⟩ (fun j H' _ ⟨s', _⟩ => SqL.of (s' _ _ hp1)) (fun j x H2 H3 hj inv y => ?_) fun H2 inv => ?_⟩
    · obtain ⟨s2, ps, hD2, hps⟩ := inv
      obtain ⟨rfl, hx⟩ := y
      rw [List.getElem?_map] at hx
      obtain ⟨e, he, rfl⟩ := Option.map_eq_some_iff.mp hx
      have tk : ys.take (j + 1) = ys.take j ++ [e] := by
        rw [List.take_add_one, he]
        rfl
      have hd2 := s2 _ _ hd1
      have mem : e ∈ kvs.map (·.1) := hp.mem_iff.mp (List.mem_of_getElem? he)
      have vg := val_cf mem
      have lps : ps.length ≤ j := by
        rw [hps.len]
        exact Nat.le_trans (List.length_filter_le _ _) (by rw [List.length_map]; exact List.length_take_le _ _)
      have jl : j < 64 := by
        rw [List.length_map] at hj
        omega
      refine ⟨rfl, _, rfl, _, rfl, d, .int (cf kvs e), rfl, ?_, rfl, _, rfl, ?_⟩
      · rw [← vg]
        exact DGet.k (k := Sum.inr e) hd2
      · refine ite2 (fun hb => ?_) fun hb => ⟨s2, ps, hD2, ?_⟩
        · have nz : cf kvs e ≠ 0 := by simpa using hb
          refine ⟨_, rfl, _, rfl, _, rfl, d, .int (cf kvs e), rfl, ?_, (by show 2 ≤ sizeLine; decide), fun p H4 n4 s4 h4 => ⟨_, s4 _ _ hD2, ?_, fun b o q => ?_, ps ++ [p], ?_, ?_⟩⟩
          · rw [← vg]
            exact DGet.k (k := Sum.inr e) hd2
          · rw [List.length_map]
            exact Nat.lt_of_le_of_lt (show ps.length ≤ 1000 by omega) (by decide)
          · rw [upd_ne (ne_of_none q hD)]
            exact s4 _ _ (s2 _ _ q)
          · rw [upd_same, List.map_append]
            rfl
          · have nD : ∀ b z, H4 b = some (.tup z) → upd H4 D (.lst (ps.map V.ref ++ [V.ref p])) b = some (.tup z) := fun b z q => by
              rw [upd_ne (fun e => by rw [e, s4 _ _ hD2] at q; cases q)]
              exact q
            have up2 : ∀ {qs : List Addr} {ts : Tms}, Prs H3 qs ts → Prs (upd H4 D (.lst (ps.map V.ref ++ [V.ref p]))) qs ts := by
              intro qs ts r
              induction r with
              | nil => exact .nil
              | cons h r ih => exact .cons (nD _ _ (s4 _ _ h)) ih
            have e2 : tmOf kvs (ys.take (j + 1)) = tmOf kvs (ys.take j) ++ [(e, cf kvs e)] := by
              unfold tmOf
              rw [tk, List.map_append, List.filter_append, List.map_cons, List.map_nil, List.filter_cons_of_pos (by simpa using nz)]
              rfl
            rw [e2]
            exact (up2 hps).snoc (nD _ _ h4)
        · have z : cf kvs e = 0 := by simpa using hb
          have e2 : tmOf kvs (ys.take (j + 1)) = tmOf kvs (ys.take j) := by
            unfold tmOf
            rw [tk, List.map_append, List.filter_append, List.map_cons, List.map_nil, List.filter_cons_of_neg (by simpa using z), List.filter_nil, List.append_nil]
          rw [e2]
          exact hps
    · obtain ⟨s2, ps, hD2, hps⟩ := inv
      rw [List.length_map, List.take_length] at hps
      obtain ⟨nm, hc, hq⟩ := tm_nm hp hs hn
      refine ⟨D, _, rfl, SqL.of hD2, fun l H' hl' s' ht => ?_⟩
      exact k l H' _ (s1.trans (s2.trans s')) ((s1.trans s2).free hl') ⟨ps, ht, hps.same s'⟩ nm hc hq
theorem ok_symbols_of {f : Addr} {fd : FuncData} (F : Fun K "_symbols_of" "_symbols_of" s__symbols_of f fd) (T : Ta mg) : FnG P w K mg base 1 f fd ["terms"] spSymsOf := by
  refine okG F sc__symbols_of (fun vs H Q E h => ?_) (fun cdv A outer s H vs Q hr h => ?_)
  · obtain ⟨t, ts, rfl, _⟩ := h
    rfl
  · obtain ⟨t, ts, rfl, ⟨ps, ht, hp⟩, hl, k⟩ := h
    refine ⟨_, (pss_one (ps_ret (pe_callTy call_tupleF (by rfl) T.b_tuple (by decide +kernel) (pa_cons (pe_lc (own := [("symbol", 1), ("_", 2)]) (g := gTup K 2 (gCons (gName 1) (gCons (gName 2) gNil))) (tt := tYes) rfl sc__symbols_of.nd (pi_tup (pv 0)) (blkOk_by (own := [("symbol", 1), ("_", 2)]) (N := n__symbols_of) (sc := defScope s__symbols_of) (by decide +kernel)) (fun _ _ _ _ _ => pg_tup rfl (pgs_cons (pg_name (i := 1) sc__symbols_of.nd rfl (Or.inl rfl) (Or.inr rfl)) (pgs_cons (pg_name (i := 2) sc__symbols_of.nd rfl (Or.inl rfl) (Or.inr rfl)) pgs_nil))) (fun _ _ _ _ _ => pts_nil) (fun _ _ _ _ _ => (pv 1))) pa_nil)))), ?_⟩
    have lps := hp.len
    refine ⟨_, rfl, t, rfl, ⟨_, ht.sq⟩, fun D hD => lc_fn walk_tup (fun i => .str ((ts.map (·.1)).getD i Str.empty)) (by rw [List.length_map]; omega) hD (fun H' s' => (ht.same s').sq) (fun i x H2 H3 Q' hi s2 y kq => ?_) fun H2 s2 d => ?_⟩
    · obtain ⟨rfl, hx⟩ := y
      obtain ⟨p, q, rfl, hq, hpq⟩ := hp.get hx
      have := kq _ (Same.refl _)
      have e : (ts.map (·.1)).getD i Str.empty = q.1 := by rw [List.getD_eq_getElem?_getD, List.getElem?_map, hq] <;> rfl
      rw [e] at this
      exact ⟨p, _, rfl, SqT.of (s2 _ _ hpq), rfl, _, _, rfl, _, _, rfl, rfl, rfl, _, rfl, this⟩
    · have e : (List.range (ps.map V.ref).length).map (fun i => V.str ((ts.map (·.1)).getD i Str.empty)) = ts.map fun q => V.str q.1 := by
        rw [List.length_map, lps]
        apply List.ext_getElem?
        intro i
        rw [List.getElem?_map, List.getElem?_map]
        by_cases hi : i < ts.length
        · rw [List.getElem?_range hi, List.getElem?_eq_getElem hi]
          simp [List.getD_eq_getElem?_getD, hi]
        · rw [List.getElem?_eq_none (by simp; omega), List.getElem?_eq_none (by omega)]
          rfl
      rw [e] at d
      exact ⟨D, _, rfl, SqL.of d, fun l H' hl' s' hf => k l H' (s2.trans s') (s2.free hl') hf⟩
end
end Lw

/-! ## FmB -/
set_option maxHeartbeats 1000000
namespace Lw
open PySem PySem.Spec PyProof.Rows L2
open Fm (cf Asc Nm)
abbrev s_Form_init : Stmt := inClass (topS 23) 0
abbrev n_Form_init : List Str := ["self", "factors", "symbol"]
theorem sc_Form_init : FnScope n_Form_init ["self", "factors"] (defScope s_Form_init) := ⟨rfl, rfl, rfl, by decide +kernel, rfl, by decide +kernel, by decide +kernel⟩
abbrev s_form_of : Stmt := topS 27
abbrev n_form_of : List Str := ["factors", "form"]
theorem sc_form_of : FnScope n_form_of ["factors"] (defScope s_form_of) := ⟨rfl, rfl, rfl, by decide +kernel, rfl, by decide +kernel, by decide +kernel⟩
abbrev s__sum_of : Stmt := topS 33
abbrev n__sum_of : List Str := ["first", "second", "number", "factors", "symbol", "factor"]
theorem sc__sum_of : FnScope n__sum_of ["first", "second", "number"] (defScope s__sum_of) := ⟨rfl, rfl, rfl, by decide +kernel, rfl, by decide +kernel, by decide +kernel⟩
abbrev s__multiple_of : Stmt := topS 34
abbrev n__multiple_of : List Str := ["form", "number", "symbol", "factor"]
theorem sc__multiple_of : FnScope n__multiple_of ["form", "number"] (defScope s__multiple_of) := ⟨rfl, rfl, rfl, by decide +kernel, rfl, by decide +kernel, by decide +kernel⟩
/-- what of the text the class must have -/
structure Fc (K : PySem.W.Frag) (mg : Str → Option Value) (C : Addr) : Prop where
  isc : C8.InsC K C
  nT : NoAttr K C "terms"
  nS : NoAttr K C "symbols"
  g_Form : ∃ u, mg "Form" = some u ∧ RelV (.ref C) u
theorem Fc.cls {K : PySem.W.Frag} {mg : Str → Option Value} {C : Addr} (c : Fc K mg C) : Cls K C := c.isc.cl
theorem nil_terms {H : Hp} {t : Addr} {ts : Tms} (h : TermsAt H t ts) (c : ∀ q ∈ ts, q ∈ ([] : Tms)) : ts = [] := by
  cases ts with
  | nil => rfl
  | cons q r => exact nomatch c q List.mem_cons_self
theorem nodup_le' {α : Type} [DecidableEq α] : ∀ {l m : List α}, l.Nodup → (∀ x ∈ l, x ∈ m) → l.length ≤ m.length
  | [], _, _, _ => Nat.zero_le _
  | x :: r, m, hn, h => by
    have hx := h x List.mem_cons_self
    have := nodup_le' (l := r) (m := m.erase x) (List.nodup_cons.mp hn).2 fun y hy => (List.mem_erase_of_ne (fun e => (List.nodup_cons.mp hn).1 (by rw [← e]; exact hy))).mpr (h y (List.mem_cons_of_mem _ hy))
    rw [List.length_erase_of_mem hx] at this
    have := List.length_pos_of_mem hx
    simp only [List.length_cons]
    omega
theorem Prs.tups {H H' : Hp} (k : ∀ b z, H b = some (.tup z) → H' b = some (.tup z)) : ∀ {ps : List Addr} {ts : Tms}, Prs H ps ts → Prs H' ps ts
  | _, _, .nil => .nil
  | _, _, .cons h r => .cons (k _ _ h) (Prs.tups k r)
theorem TermsAt.put {H : Hp} {x C dx t : Addr} {fs gs : List (Str × V)} {ts : Tms} (hx : H x = some (.ins C dx fs)) (h : TermsAt H t ts) : TermsAt (upd H x (.ins C dx gs)) t ts := by
  obtain ⟨ps, ⟨o, hd, hf⟩, hp⟩ := h
  refine ⟨ps, ⟨o, hd, ?_⟩, hp.tups fun b z q => ?_⟩
  · rw [upd_ne fun e => by rw [e, hx] at hf; cases hf]
    exact hf
  · rw [upd_ne fun e => by rw [e, hx] at q; cases q]
    exact q
theorem SymsAt.put {H : Hp} {x C dx t : Addr} {fs gs : List (Str × V)} {ts : Tms} (hx : H x = some (.ins C dx fs)) (h : SymsAt H t ts) : SymsAt (upd H x (.ins C dx gs)) t ts := by
  obtain ⟨o, hd, hf⟩ := h
  refine ⟨o, hd, ?_⟩
  rw [upd_ne fun e => by rw [e, hx] at hf; cases hf]
  exact hf
theorem tms_len {ts kvs : Tms} (n : Nm ts) (h : ∀ q ∈ ts, q ∈ kvs) : ts.length ≤ kvs.length := by
  have nd : ts.Nodup := by
    have : ∀ {ts : Tms}, Asc ts → ts.Nodup := by
      intro ts
      induction ts with
      | nil => exact fun _ => List.nodup_nil
      | cons p r ih => exact fun h => List.nodup_cons.mpr ⟨fun m => Fm.lt_irr _ (h.1 p m), ih h.2⟩
    exact this n.asc
  exact nodup_le' nd h
/-- an object, to be a form -/
def spInitK (C : Addr) : Sp := fun vs H Q _ => ∃ (x d dx : Addr) (kvs : Tms), vs = [.ref x, .ref d] ∧ H d = some (.dK (kvs.map entK)) ∧ H x = some (.ins C dx []) ∧ (kvs.map (·.1)).Nodup ∧ kvs.length < 64 ∧ (∀ q ∈ kvs, (Tr.str q.1).sym = true ∧ q.1.length ≤ 1000) ∧
  ∀ H' t u ts, (∀ b o, b ≠ x → H b = some o → H' b = some o) → H' x = some (.ins C dx [("terms", .ref t), ("symbols", .ref u)]) → TermsAt H' t ts → SymsAt H' u ts → Nm ts → (∀ s, cf ts s = cf kvs s) → (∀ q ∈ ts, q ∈ kvs) → Q .non H'
section
variable {P : Program} {w : World} {K : PySem.W.Frag} {mg : Str → Option Value} {base : Heap} {C : Addr}
set_option maxHeartbeats 4000000 in
theorem init_body {f : Addr} (T : Ta mg) (C0 : Fc K mg C) (c_is_symbol : Cal P w K mg base 2 "is_symbol" ["value"] (spB K Tr.sym)) (c_is_integer : Cal P w K mg base 1 "is_integer" ["value"] (spB K Tr.whole))
    (c__terms_of : Cal P w K mg base 1 "_terms_of" ["factors"] spTermsOf) (c__symbols_of : Cal P w K mg base 1 "_symbols_of" ["terms"] spSymsOf)
    (cdv : Value) (A : Around) (outer : List Env) (s : Shared) (H : Hp) (vs : List V) (Q : VK) (hr : RoomG 2 (A.deeper (envOfC "Form.__init__" (defScope s_Form_init) s.heap.objs.size f cdv))) (h : spInitK C vs H Q E0) :
      ∃ t, PSs (cxOf CX0 P w K mg base n_Form_init "Form.__init__" (defScope s_Form_init) f cdv A outer s H E0).nox (defBody s_Form_init) t ∧ t { nx := fun _ H' => Q .non H', rt := Q } (start n_Form_init vs) H := by
  obtain ⟨x, d, dx, kvs, rfl, hd, hx, hn, hl, hsy, k⟩ := h
  refine ⟨_, (pss_cons (ps_lock (ps_for PassesOwn.never rfl (pi_keys (pv 1)) (pg_name (i := 2) sc_Form_init.nd rfl (by first | exact .inl rfl | exact .inr rfl))
    (pss_one (ps_if (pt_not (pt_val (pe_c c_is_symbol hr (by decide) rfl (pa_cons (pv 2) pa_nil))))
    (pss_one ps_dead)
    pss_nil))))
  (pss_cons (ps_lock (ps_for PassesOwn.never rfl (pi_keys (pv 1)) (pg_name (i := 2) sc_Form_init.nd rfl (by first | exact .inl rfl | exact .inr rfl))
    (pss_one (ps_if (pt_not (pt_val (pe_c c_is_integer hr (by decide) rfl (pa_cons (pe_dget (hu_of hr.rm) (pv 1) (pv 2) (fun _ _ => rfl)) pa_nil))))
    (pss_one ps_dead)
    pss_nil))))
  (pss_cons (ps_fld (pv 0) (pe_c c__terms_of hr (by decide) rfl (pa_cons (pv 1) pa_nil)) rfl)
  (pss_one (ps_fld (pv 0) (pe_c c__symbols_of hr (by decide) rfl (pa_cons (pe_fld (pv 0) rfl) pa_nil)) rfl))))), ?_⟩
  have ne : d ≠ x := fun e => by rw [e, hx] at hd; cases hd
  have back : ∀ {od : Obj} {H1 : Hp}, Same (upd H d (.frz od (.dK (kvs.map entK)))) H1 → Same H (upd H1 d (.dK (kvs.map entK))) := fun s1 b o e => by
    by_cases hb : b = d
    · rw [hb, upd_same]
      rw [hb, hd] at e
      exact e
    · rw [upd_ne hb]
      exact s1 _ _ (by rw [upd_ne hb]; exact e)
  refine ⟨d, .dK (kvs.map entK), hd, True.intro, fun od => ⟨_, rfl, d, od, rfl, .inl ⟨kvs.map entK, upd_same, for_it (walk_keys (kvs := kvs.map entK)) (fun i σ H' => (∃ z, σ = [some (.ref x), some (.ref d), z]) ∧ Same (upd H d (.frz od (.dK (kvs.map entK)))) H') ⟨⟨_, rfl⟩, Same.refl _⟩ (fun i σ H' _ ⟨_, e⟩ => e _ _ upd_same) (fun i y σ H1 H2 hi inv yy => ?_) ?_⟩⟩⟩
  · obtain ⟨⟨z, rfl⟩, s1⟩ := inv
    obtain ⟨rfl, k0, v0, hk, rfl⟩ := yy
    rw [List.getElem?_map] at hk
    obtain ⟨q, hq, e⟩ := Option.map_eq_some_iff.mp hk
    cases e
    have mq := List.mem_of_getElem? hq
    obtain ⟨q1, q2⟩ := hsy _ mq
    refine ⟨_, rfl, .str q.1, .str q.1, rfl, .str _ q2, fun H3 s3 => ?_⟩
    rw [q1]
    exact ⟨_, rfl, iteF ⟨⟨_, rfl⟩, s1.trans s3⟩⟩
  · rintro σ H1 ⟨⟨z, rfl⟩, s1⟩
    refine ⟨s1 _ _ upd_same, ?_⟩
    have s2 := back s1
    generalize upd H1 d (.dK (kvs.map entK)) = H2 at s2 ⊢
    have hd2 := s2 _ _ hd
    clear s1
    have back2 : ∀ {od : Obj} {H1 : Hp}, Same (upd H2 d (.frz od (.dK (kvs.map entK)))) H1 → Same H2 (upd H1 d (.dK (kvs.map entK))) := fun s1 b o e => by
      by_cases hb : b = d
      · rw [hb, upd_same]
        rw [hb, hd2] at e
        exact e
      · rw [upd_ne hb]
        exact s1 _ _ (by rw [upd_ne hb]; exact e)
    refine ⟨d, .dK (kvs.map entK), hd2, True.intro, fun od => ⟨_, rfl, d, od, rfl, .inl ⟨kvs.map entK, upd_same, for_it (walk_keys (kvs := kvs.map entK)) (fun i σ H' => (∃ z, σ = [some (.ref x), some (.ref d), z]) ∧ Same (upd H2 d (.frz od (.dK (kvs.map entK)))) H') ⟨⟨_, rfl⟩, Same.refl _⟩ (fun i σ H' _ ⟨_, e⟩ => e _ _ upd_same) (fun i y σ H1 H3 hi inv yy => ?_) ?_⟩⟩⟩
    · obtain ⟨⟨z, rfl⟩, s1⟩ := inv
      obtain ⟨rfl, k0, v0, hk, rfl⟩ := yy
      rw [List.getElem?_map] at hk
      obtain ⟨q, hq, e⟩ := Option.map_eq_some_iff.mp hk
      cases e
      have mq := List.mem_of_getElem? hq
      have vg := val_cf (kvs := kvs) (s := q.1) (List.mem_map_of_mem mq)
      have g : DGet H3 d (V.str q.1) (some (.int (cf kvs q.1))) := .inl ⟨kvs.map entK, Sum.inr q.1, .inr ⟨_, s1 _ _ upd_same⟩, rfl, vg.symm⟩
      refine ⟨_, rfl, _, rfl, d, _, rfl, g, _, .int (cf kvs q.1), rfl, .int _, fun H4 s4 => ?_⟩
      exact ⟨_, rfl, iteF ⟨⟨_, rfl⟩, s1.trans s4⟩⟩
    · rintro σ H1 ⟨⟨z, rfl⟩, s1⟩
      refine ⟨s1 _ _ upd_same, ?_⟩
      have s3 := s2.trans (back2 s1)
      generalize upd H1 d (.dK (kvs.map entK)) = H3 at s3 ⊢
      have hd3 := s3 _ _ hd
      have hx3 := s3 _ _ hx
      refine ⟨_, rfl, d, kvs, rfl, hd3, hn, hl, fun t H4 ts s4 nt ht nm hc hq => ?_⟩
      have hx4 := s4 _ _ hx3
      refine ⟨_, rfl, x, C, dx, [], rfl, hx4, C0.cls, C0.nT, by simp, ?_⟩
      have l1 : putF "terms" (.ref t) [] = [(("terms" : Str), V.ref t)] := rfl
      have l2 : ∀ u, putF "symbols" (.ref u) [(("terms" : Str), V.ref t)] = [(("terms" : Str), V.ref t), ("symbols", .ref u)] := fun u => by
        show (if ("terms" : Str) = "symbols" then _ else _) = _
        rw [if_neg (by decide)]
        rfl
      rw [l1]
      have up : ∀ {b o}, H4 b = some o → b ≠ x → upd H4 x (.ins C dx [("terms", .ref t)]) b = some o := fun e n => by
        rw [upd_ne n]
        exact e
      have ht2 : TermsAt (upd H4 x (.ins C dx [("terms", .ref t)])) t ts := ht.put hx4
      have lts : ts.length < 64 := Nat.lt_of_le_of_lt (tms_len nm hq) hl
      refine ⟨_, rfl, x, C, dx, _, _, rfl, upd_same, C0.cls, C0.nT, rfl, t, ts, rfl, ht2, by omega, fun u H5 s5 hu hs => ?_⟩
      refine ⟨_, rfl, x, C, dx, _, rfl, s5 _ _ upd_same, C0.cls, C0.nS, by simp, ?_⟩
      rw [l2]
      have hx5 := s5 _ _ (upd_same (H := H4) (a := x) (o := .ins C dx [("terms", .ref t)]))
      refine k _ t u ts (fun b o n e => ?_) upd_same ((ht2.same s5).put hx5) (hs.put hx5) nm hc hq
      rw [upd_ne n]
      exact s5 _ _ (up (s4 _ _ (s3 _ _ e)) n)
def spInit0 (C : Addr) : Sp := fun vs H Q _ => ∃ x d dx, vs = [.ref x, .ref d] ∧ H d = some (.dK []) ∧ H x = some (.ins C dx []) ∧
  ∀ H' t u, (∀ b o, b ≠ x → H b = some o → H' b = some o) → H' x = some (.ins C dx [("terms", .ref t), ("symbols", .ref u)]) → TermsAt H' t [] → SymsAt H' u [] → Q .non H'
theorem ok_Form_init {f : Addr} {fd : FuncData} (F : Fun K "__init__" "Form.__init__" s_Form_init f fd) (T : Ta mg) (C0 : Fc K mg C) (c_is_symbol : Cal P w K mg base 2 "is_symbol" ["value"] (spB K Tr.sym)) (c_is_integer : Cal P w K mg base 1 "is_integer" ["value"] (spB K Tr.whole))
    (c__terms_of : Cal P w K mg base 1 "_terms_of" ["factors"] spTermsOf) (c__symbols_of : Cal P w K mg base 1 "_symbols_of" ["terms"] spSymsOf)
    (hb : ∀ us : List Value, us.length = ["self"].length → bindArgs fd ⟨us, []⟩ = ((alloc ({ cls := .type "dict", data := .dict #[] } : Obj) : Sem Addr) >>= fun d => pure ((["self"] : List Str).zip us ++ ([("factors", Value.ref d)] : List (Str × Value))))) :
    FnN P w K mg base 3 f (fun vs H Q E => vs.length = ["self"].length ∧ ∀ d, H d = none → spInit0 C (vs ++ [V.ref d]) (upd H d (.dK [])) Q E0) := by
  refine fn_kw0 (pd := "factors") (ps := ["self"]) F sc_Form_init hb (fun cdv A outer s H vs Q hr h => init_body T C0 c_is_symbol c_is_integer c__terms_of c__symbols_of cdv A outer s H vs Q hr ?_)
  obtain ⟨x, d, dx, rfl, hd, hx, k⟩ := h
  exact ⟨x, d, dx, [], rfl, hd, hx, List.nodup_nil, by decide, fun q hq => (nomatch hq), fun H' t u ts a b c e _ _ g => by
    have z : ts = [] := nil_terms c g
    subst z
    exact k H' t u a b c e⟩
/-- a form made by keywords -/
def spNewK (C : Addr) (ks : List Str) : V → List Int → Hp → VK → Prop := fun x ns H Q => ∃ a dx, x = .ref a ∧ H a = some (.ins C dx []) ∧ ns.length = ks.length ∧
  ∀ H' ts, (∀ b o, b ≠ a → H b = some o → H' b = some o) → FormAt C H' a ts → Nm ts → (∀ s, cf ts s = cf (ks.zip ns) s) → (∀ q ∈ ts, q ∈ ks.zip ns) → Q .non H'
theorem ok_Form_initK {f : Addr} {fd : FuncData} {ks : List Str} (F : Fun K "__init__" "Form.__init__" s_Form_init f fd) (T : Ta mg) (C0 : Fc K mg C) (c_is_symbol : Cal P w K mg base 2 "is_symbol" ["value"] (spB K Tr.sym)) (c_is_integer : Cal P w K mg base 1 "is_integer" ["value"] (spB K Tr.whole))
    (c__terms_of : Cal P w K mg base 1 "_terms_of" ["factors"] spTermsOf) (c__symbols_of : Cal P w K mg base 1 "_symbols_of" ["terms"] spSymsOf) (hn : ks.Nodup) (hl : ks.length ≤ 60) (hs : ∀ z ∈ ks, (Tr.str z).sym = true ∧ z.length ≤ 1000)
    (hb : ∀ (u : Value) (us : List Value), us.length = ks.length → bindArgs fd ⟨[u], ks.zip us⟩ = ((alloc ({ cls := .type "dict", data := .dict #[] } : Obj) : Sem Addr) >>= fun d =>
      (forIn (ks.zip us) PUnit.unit (fun x _ => (nsSet d x.1 x.2 >>= fun _ => pure (ForInStep.yield PUnit.unit))) >>= fun _ => pure ([("self", u), ("factors", Value.ref d)] : List (Str × Value))))) :
    FnKw P w K mg base 3 f ks (spNewK C ks) := by
  have z := fn_kwn (p1 := "self") (pd := "factors") (sp := spInitK C) (k := 2) F sc_Form_init hn hl hb (fun cdv A outer s H vs Q hr h => init_body T C0 c_is_symbol c_is_integer c__terms_of c__symbols_of cdv A outer s H vs Q hr h)
  intro A outer s H x u ns us Q hr e0 rx r l hq
  refine z A outer s H x u ns us Q hr e0 rx r l fun d hd => ?_
  obtain ⟨a, dx, rfl, ha, l2, k⟩ := hq
  have ne : a ≠ d := fun e => by rw [e, hd] at ha; cases ha
  have hz : (ks.zip ns).map (·.1) = ks := List.map_fst_zip (by omega)
  refine ⟨a, d, dx, ks.zip ns, rfl, upd_same, by rw [upd_ne ne]; exact ha, by rw [hz]; exact hn, by rw [List.length_zip]; omega, fun q hq => hs _ (by rw [← hz]; exact List.mem_map_of_mem hq), fun H' t u ts s1 h1 h2 h3 nm hc hm => k H' ts (fun b o n e => s1 b o n (by rw [upd_ne (ne_of_none e hd)]; exact e)) ⟨dx, t, u, h1, h2, h3⟩ nm hc hm⟩
end
section
variable {P : Program} {w : World} {K : PySem.W.Frag} {mg : Str → Option Value} {base : Heap} {C : Addr}
/-- few terms, of factors that are not too great -/
structure Bd (k b : Nat) (ts : Tms) : Prop where
  len : ts.length ≤ k
  lt : ∀ q ∈ ts, q.2.natAbs < 2 ^ b
/-- a form, new -/
def spFormOf (C : Addr) : Sp := fun vs H Q _ => ∃ (d : Addr) (kvs : Tms), vs = [.ref d] ∧ H d = some (.dK (kvs.map entK)) ∧ (kvs.map (·.1)).Nodup ∧ kvs.length < 64 ∧
  ∀ a H' ts, Same H H' → FormAt C H' a ts → Nm ts → (∀ s, cf ts s = cf kvs s) → (∀ q ∈ ts, q ∈ kvs) → Q (.ref a) H'
theorem ok_form_of {f : Addr} {fd : FuncData} (F : Fun K "form_of" "form_of" s_form_of f fd) (C0 : Fc K mg C) (M_new : Mk0 P w K mg base 3 "Form" C (fun vs H Q E => vs.length = ["self"].length ∧ ∀ d, H d = none → spInit0 C (vs ++ [V.ref d]) (upd H d (.dK [])) Q E0))
    (c__terms_of : Cal P w K mg base 1 "_terms_of" ["factors"] spTermsOf) (c__symbols_of : Cal P w K mg base 1 "_symbols_of" ["terms"] spSymsOf) : FnG P w K mg base 5 f fd ["factors"] (spFormOf C) := by
  refine okG F sc_form_of (fun vs H Q E h => ?_) (fun cdv A outer s H vs Q hr h => ?_)
  · obtain ⟨d, kvs, rfl, _⟩ := h
    rfl
  · obtain ⟨d, kvs, rfl, hd, hn, hl, k⟩ := h
    refine ⟨_, (pss_cons (ps_set (i := 1) sc_form_of.nd rfl (by first | exact .inl rfl | exact .inr rfl) (pe_new0 M_new hr (by decide) rfl))
  (pss_cons (ps_fld (pv 1) (pe_c c__terms_of hr (by decide) rfl (pa_cons (pv 0) pa_nil)) rfl)
  (pss_cons (ps_fld (pv 1) (pe_c c__symbols_of hr (by decide) rfl (pa_cons (pe_fld (pv 1) rfl) pa_nil)) rfl)
  (pss_one (ps_ret (pv 1)))))), ?_⟩
    refine fun x dx hx hdx hne => ⟨rfl, fun d0 hd0 => ⟨x, d0, dx, rfl, upd_same, ?_, fun H1 t0 u0 s0 hx1 ht0 hu0 => ⟨rfl, ?_⟩⟩⟩
    · have : x ≠ d0 := fun e => by rw [← e, upd_same] at hd0; cases hd0
      rw [upd_ne this, upd_same]
    · have sH : Same H H1 := fun b o e => by
        have n1 : b ≠ x := ne_of_none e hx
        have n2 : b ≠ dx := ne_of_none e hdx
        have e2 : upd (upd H dx (.own x)) x (.ins C dx []) b = some o := by rw [upd_ne n1, upd_ne n2]; exact e
        have n3 : b ≠ d0 := ne_of_none e2 hd0
        exact s0 b o n1 (by rw [upd_ne n3]; exact e2)
      refine ⟨_, rfl, d, kvs, rfl, sH _ _ hd, hn, hl, fun t H2 ts s2 nt ht nm hc hq => ?_⟩
      have hx2 := s2 _ _ hx1
      have l1 : putF "terms" (.ref t) [(("terms" : Str), V.ref t0), ("symbols", .ref u0)] = [(("terms" : Str), V.ref t), ("symbols", .ref u0)] := by
        show (if ("terms" : Str) = "terms" then _ else _) = _
        rw [if_pos rfl]
      have l2 : ∀ u, putF "symbols" (.ref u) [(("terms" : Str), V.ref t), ("symbols", .ref u0)] = [(("terms" : Str), V.ref t), ("symbols", .ref u)] := fun u => by
        show (if ("terms" : Str) = "symbols" then _ else (("terms" : Str), V.ref t) :: (if ("symbols" : Str) = "symbols" then _ else _)) = _
        rw [if_neg (by decide), if_pos rfl]
      refine ⟨_, rfl, x, C, dx, _, rfl, hx2, C0.cls, C0.nT, by simp, ?_⟩
      rw [l1]
      have up : ∀ {b o}, H2 b = some o → b ≠ x → upd H2 x (.ins C dx [("terms", .ref t), ("symbols", .ref u0)]) b = some o := fun e n => by
        rw [upd_ne n]
        exact e
      have ht2 : TermsAt (upd H2 x (.ins C dx [("terms", .ref t), ("symbols", .ref u0)])) t ts := ht.put hx2
      have lts : ts.length < 64 := Nat.lt_of_le_of_lt (tms_len nm hq) hl
      refine ⟨_, rfl, x, C, dx, _, _, rfl, upd_same, C0.cls, C0.nT, rfl, t, ts, rfl, ht2, by omega, fun u H3 s3 hu hs => ?_⟩
      have hx3 := s3 _ _ (upd_same (H := H2) (a := x) (o := .ins C dx [("terms", .ref t), ("symbols", .ref u0)]))
      refine ⟨_, rfl, x, C, dx, _, rfl, hx3, C0.cls, C0.nS, by simp, ?_⟩
      rw [l2]
      refine ⟨_, rfl, k x _ ts (fun b o e => ?_) ⟨dx, t, u, upd_same, (ht2.same s3).put hx3, hs.put hx3⟩ nm hc hq⟩
      have n1 : b ≠ x := ne_of_none e hx
      rw [upd_ne n1]
      refine s3 _ _ ?_
      rw [upd_ne n1]
      exact s2 _ _ (sH _ _ e)
def spSumOf (C : Addr) : Sp := fun vs H Q _ => ∃ (a b : Addr) (n : Int) (ts us : Tms), vs = [.ref a, .ref b, .int n] ∧ FormAt C H a ts ∧ FormAt C H b us ∧ Bd 20 200 ts ∧ Bd 20 200 us ∧ Nm ts ∧ Nm us ∧ n.natAbs < 2 ^ 200 ∧
  ∀ c H' rs, Same H H' → FormAt C H' c rs → Nm rs → (∀ s, cf rs s = cf ts s + cf us s * n) → (∀ q ∈ rs, q.1 ∈ ts.map (·.1) ∨ q.1 ∈ us.map (·.1)) → Q (.ref c) H'
end
end Lw

/-! ## Sx6 -/
set_option maxHeartbeats 4000000
/-! {y for x in a for y in b}, a a tuple, each b a tuple of texts -/
namespace Lw
open PySem PySem.Spec PyProof.Rows L2
theorem txo_tup {K : PySem.W.Frag} {H : Hp} {w : World} {D b : Addr} {us : List Str} {xs : List V} {v : HO} (hD : H D = some (Lt.TxO w D us)) (h : SqT K H b xs) : SqT K (upd H D v) b xs := by
  rcases h with h | h
  · refine .inl ?_
    rcases h with h | ⟨o, h⟩
    · refine .inl ?_
      rw [upd_ne fun e => by rw [e, hD] at h; cases h]
      exact h
    · refine .inr ⟨o, ?_⟩
      rw [upd_ne fun e => by rw [e, hD] at h; cases h]
      exact h
  · exact .inr h
theorem same_upd {H1 H : Hp} {D : Addr} {v : HO} (hD : H1 D = none) (s : Same H1 H) : Same H1 (upd H D v) := fun b o e => by
  rw [upd_ne (ne_of_none e hD)]
  exact s _ _ e
theorem sqT_same {K : PySem.W.Frag} {H H' : Hp} {b : Addr} {xs : List V} (s : Same H H') (h : SqT K H b xs) : SqT K H' b xs := h.imp (fun h => h.imp (fun h => s _ _ h) fun ⟨o, h⟩ => ⟨o, s _ _ h⟩) id
theorem sx_tt {w : World} {K : PySem.W.Frag} {a D : Addr} {xs : List V} {g g1 : TG} {wi1 : TI} {te : TE} {vs vs1 : List Nat} {σ : L2.St} {H1 : Hp} {Qd : Hp → Prop} (zf : Nat → List Str) (Wd : List Str) (hW : Wd.length ≤ 200) (hz : ∀ i z, i < xs.length → z ∈ zf i → z ∈ Wd) (hD : H1 D = none) (hx : SqT K H1 a xs)
    (hs : ∀ i x H (P : L2.St → It → Hp → Prop), xs[i]? = some x → Same H1 H → (∀ σ2 b, SqT K H b ((zf i).map V.str) → (∀ z H' (Q : VK), Q (.str z) H' → g1 (.str z) (wipe σ2 vs1) H' fun σ3 H5 => wipe σ3 vs1 = wipe σ2 vs1 ∧ te σ3 H5 Q) → P σ2 (Itt K b) H) →
      g x (wipe σ vs) H fun σ2 H2 => wipe σ2 vs = wipe σ vs ∧ wi1 σ2 H2 (P σ2))
    (hd : ∀ H' us, Same H1 H' → H' D = some (Lt.TxO w D us) → us.Nodup → us.length ≤ Wd.length → (∀ z, z ∈ us ↔ ∃ i, i < xs.length ∧ z ∈ zf i) → Qd H') :
    ∃ W : Nat → Nat → Hp → Prop, (∃ m, W 0 m (upd H1 D (Lt.TxO w D []))) ∧ ∀ i m H, W i m H →
      ((Itt K a).stop i H ∧ Qd H) ∨ ((Itt K a).go i H ∧ ∃ Nx : Hp → Prop, (∀ H', Nx H' → ∃ m', m' < m ∧ W (i + 1) m' H') ∧ ∀ x H', (Itt K a).yld i H x H' → g x (wipe σ vs) H' fun σ2 H2 => wipe σ2 vs = wipe σ vs ∧
        wi1 σ2 H2 fun J1 H4 => ∃ W1 : Nat → Nat → Hp → Prop, (∃ m, W1 0 m H4) ∧ ∀ j k H, W1 j k H →
          (J1.stop j H ∧ Nx H) ∨ (J1.go j H ∧ ∃ Nx1 : Hp → Prop, (∀ H', Nx1 H' → ∃ k', k' < k ∧ W1 (j + 1) k' H') ∧ ∀ x H', J1.yld j H x H' → g1 x (wipe σ2 vs1) H' fun σ3 H5 => wipe σ3 vs1 = wipe σ2 vs1 ∧
            te σ3 H5 fun y H7 => ∃ z xs, y = .str z ∧ H7 D = some (Lt.TxO w D xs) ∧ xs.length + 1 < scanBound ∧ Nx1 (upd H7 D (Lt.TxO w D (Lt.ins z xs))))) := by
  refine ⟨fun i m H => m = xs.length - i ∧ i ≤ xs.length ∧ Same H1 H ∧ ∃ us, H D = some (Lt.TxO w D us) ∧ us.Nodup ∧ ∀ z, z ∈ us ↔ ∃ j, j < i ∧ z ∈ zf j,
    ⟨xs.length, by simp, Nat.zero_le _, same_upd hD (Same.refl _), [], upd_same, List.nodup_nil, fun z => ⟨(fun h => nomatch h), fun ⟨j, h, _⟩ => absurd h (Nat.not_lt_zero j)⟩⟩, ?_⟩
  rintro i m H ⟨rfl, hi, sm, us, hu, nd, mem⟩
  have inW : ∀ {i : Nat} {us : List Str}, i ≤ xs.length → us.Nodup → (∀ z, z ∈ us → ∃ j, j < i ∧ z ∈ zf j) → us.length ≤ Wd.length := fun {i us} hi nd h => nodup_le' nd fun z hz' => by
    obtain ⟨j, h1, h2⟩ := h z hz'
    exact hz j z (by omega) h2
  by_cases hlt : i < xs.length
  · refine .inr ⟨⟨xs, xs[i], sqT_same sm hx, by simp [hlt]⟩, fun H => Same H1 H ∧ ∃ us, H D = some (Lt.TxO w D us) ∧ us.Nodup ∧ ∀ z, z ∈ us ↔ ∃ j, j < i + 1 ∧ z ∈ zf j, fun H' p' => ⟨xs.length - (i + 1), by omega, rfl, hlt, p'⟩, fun x H' y => ?_⟩
    obtain ⟨rfl, y⟩ := y
    refine hs i x H' _ (y xs (sqT_same sm hx)) sm fun σ2 b hb inner => ?_
    refine ⟨fun j k H => k = (zf i).length - j ∧ j ≤ (zf i).length ∧ Same H1 H ∧ SqT K H b ((zf i).map V.str) ∧ ∃ us, H D = some (Lt.TxO w D us) ∧ us.Nodup ∧ ∀ z, z ∈ us ↔ (∃ j, j < i ∧ z ∈ zf j) ∨ z ∈ (zf i).take j,
      ⟨(zf i).length, by simp, Nat.zero_le _, sm, hb, us, hu, nd, fun z => by simp [mem z]⟩, ?_⟩
    rintro j k H ⟨rfl, hj, sm2, hb2, us2, hu2, nd2, mem2⟩
    by_cases hlt2 : j < (zf i).length
    · refine .inr ⟨⟨_, ((zf i).map V.str)[j]'(by simpa using hlt2), hb2, by simp [hlt2]⟩, fun H => Same H1 H ∧ SqT K H b ((zf i).map V.str) ∧ ∃ us, H D = some (Lt.TxO w D us) ∧ us.Nodup ∧ ∀ z, z ∈ us ↔ (∃ j, j < i ∧ z ∈ zf j) ∨ z ∈ (zf i).take (j + 1), fun H' p' => ⟨(zf i).length - (j + 1), by omega, rfl, hlt2, p'⟩, fun x H' y => ?_⟩
      obtain ⟨rfl, y⟩ := y
      have hx2 := y _ hb2
      rw [List.getElem?_map] at hx2
      obtain ⟨z, hz2, rfl⟩ := Option.map_eq_some_iff.mp hx2
      have l2 : us2.length ≤ Wd.length := inW (i := i + 1) hlt nd2 fun z h => ((mem2 z).mp h).elim (fun ⟨j, a, b⟩ => ⟨j, by omega, b⟩) fun h => ⟨i, by omega, List.mem_of_mem_take h⟩
      refine inner z H' _ ⟨z, us2, rfl, hu2, by unfold scanBound; omega, same_upd hD sm2, txo_tup hu2 hb2, Lt.ins z us2, upd_same, Lt.ins_nodup nd2, fun q => ?_⟩
      rw [Lt.mem_ins', mem2, List.take_add_one, hz2, List.mem_append]
      constructor
      · rintro (rfl | h | h)
        · exact .inr (.inr List.mem_cons_self)
        · exact .inl h
        · exact .inr (.inl h)
      · rintro (h | h | h)
        · exact .inr (.inl h)
        · exact .inr (.inr h)
        · exact .inl (List.mem_singleton.mp h)
    · have ej : j = (zf i).length := by omega
      subst ej
      refine .inl ⟨⟨_, hb2, by simp⟩, sm2, us2, hu2, nd2, fun z => ?_⟩
      rw [mem2, List.take_length]
      constructor
      · rintro (⟨j, a, b⟩ | h)
        · exact ⟨j, by omega, b⟩
        · exact ⟨i, by omega, h⟩
      · rintro ⟨j, a, b⟩
        by_cases e : j = i
        · exact .inr (e ▸ b)
        · exact .inl ⟨j, by omega, b⟩
  · have e : i = xs.length := by omega
    subst e
    exact .inl ⟨⟨xs, sqT_same sm hx, Nat.le_refl _⟩, hd H us sm hu nd (inW (Nat.le_refl _) nd fun z h => (mem z).mp h) mem⟩
end Lw

/-! ## FmC -/
set_option maxHeartbeats 1000000
namespace Lw
open PySem PySem.Spec PyProof.Rows L2
open Fm (cf Asc Nm)
/-- a value put under a symbol -/
def putE (kvs : Tms) (s : Str) (f : Int) : Tms := if s ∈ kvs.map (·.1) then kvs.map (fun q => if q.1 = s then (q.1, f) else q) else kvs ++ [(s, f)]
theorem put_ent (kvs : Tms) (s : Str) (f : Int) : putK (kvs.map entK) (Sum.inr s) (.int f) = (putE kvs s f).map entK := by
  have ha : ((kvs.map entK).any fun kv => decide (kv.1 = (Sum.inr s : Key))) = decide (s ∈ kvs.map (·.1)) := by
    rw [valV_any]
    by_cases h : s ∈ kvs.map (·.1)
    · rw [val_cf h, decide_eq_true h]
      rfl
    · rw [val_none h, decide_eq_false h]
      rfl
  unfold putK putE
  rw [ha]
  by_cases h : s ∈ kvs.map (·.1)
  · rw [if_pos (decide_eq_true h), if_pos h, List.map_map, List.map_map]
    refine List.map_congr_left fun q _ => ?_
    show (if (Sum.inr q.1 : Key) = Sum.inr s then ((Sum.inr q.1 : Key), V.int f) else entK q) = entK (if q.1 = s then (q.1, f) else q)
    by_cases e : q.1 = s
    · rw [if_pos (by rw [e]), if_pos e]
    · rw [if_neg (fun z => e (Sum.inr.inj z)), if_neg e]
  · rw [if_neg (by simpa using h), if_neg h, List.map_append]
    rfl
theorem put_keys (kvs : Tms) (s : Str) (f : Int) : (putE kvs s f).map (·.1) = if s ∈ kvs.map (·.1) then kvs.map (·.1) else kvs.map (·.1) ++ [s] := by
  unfold putE
  by_cases h : s ∈ kvs.map (·.1)
  · rw [if_pos h, if_pos h, List.map_map]
    refine List.map_congr_left fun q _ => ?_
    show (if q.1 = s then (q.1, f) else q).1 = q.1
    split <;> rfl
  · rw [if_neg h, if_neg h, List.map_append]
    rfl
theorem put_nodup {kvs : Tms} (h : (kvs.map (·.1)).Nodup) (s : Str) (f : Int) : ((putE kvs s f).map (·.1)).Nodup := by
  rw [put_keys]
  split
  · exact h
  · rename_i n
    exact List.nodup_append.mpr ⟨h, by simp, fun a ha b hb e => n (by rw [List.mem_singleton.mp hb] at e; exact e ▸ ha)⟩
theorem put_len (kvs : Tms) (s : Str) (f : Int) : (putE kvs s f).length ≤ kvs.length + 1 := by
  have := congrArg List.length (put_keys kvs s f)
  rw [List.length_map] at this
  rw [this]
  split <;> simp
theorem cf_map {kvs : Tms} {s t : Str} {f : Int} (h : s ∈ kvs.map (·.1)) : cf (kvs.map fun q => if q.1 = s then (q.1, f) else q) t = if t = s then f else cf kvs t := by
  induction kvs with
  | nil => cases h
  | cons p r ih =>
    obtain ⟨u, g⟩ := p
    by_cases e : u = s
    · subst e
      have e1 : ((u, g) :: r).map (fun q : Str × Int => if q.1 = u then (q.1, f) else q) = (u, f) :: r.map (fun q : Str × Int => if q.1 = u then (q.1, f) else q) := by
        rw [List.map_cons, if_pos rfl]
      rw [e1]
      show (if u = t then f else cf (r.map _) t) = if t = u then f else (if u = t then g else cf r t)
      by_cases q : u = t
      · rw [if_pos q, if_pos q.symm]
      · rw [if_neg q, if_neg (fun z => q z.symm), if_neg q]
        by_cases hr : u ∈ r.map (·.1)
        · rw [ih hr, if_neg (fun z => q z.symm)]
        · rw [show r.map (fun q : Str × Int => if q.1 = u then (q.1, f) else q) = r from (List.map_congr_left fun q hq => if_neg fun z => hr (by rw [← z]; exact List.mem_map_of_mem hq)).trans (List.map_id r)]
    · have e1 : ((u, g) :: r).map (fun q : Str × Int => if q.1 = s then (q.1, f) else q) = (u, g) :: r.map (fun q : Str × Int => if q.1 = s then (q.1, f) else q) := by
        rw [List.map_cons, if_neg e]
      rw [e1]
      show (if u = t then g else cf (r.map _) t) = if t = s then f else (if u = t then g else cf r t)
      by_cases q : u = t
      · rw [if_pos q, if_neg (fun z => e (q.trans z)), if_pos q]
      · rw [if_neg q, ih ((List.mem_cons.mp h).elim (fun z => absurd z.symm e) id), if_neg q]
theorem cf_app {kvs : Tms} {s t : Str} {f : Int} (h : s ∉ kvs.map (·.1)) : cf (kvs ++ [(s, f)]) t = if t = s then f else cf kvs t := by
  induction kvs with
  | nil =>
    show (if s = t then f else 0) = if t = s then f else 0
    by_cases e : s = t
    · rw [if_pos e, if_pos e.symm]
    · rw [if_neg e, if_neg fun z => e z.symm]
  | cons p r ih =>
    obtain ⟨u, g⟩ := p
    have hu : u ≠ s := fun z => h (by rw [← z]; exact List.mem_cons_self)
    show (if u = t then g else cf (r ++ [(s, f)]) t) = if t = s then f else (if u = t then g else cf r t)
    by_cases q : u = t
    · rw [if_pos q, if_neg (fun z => hu (q.trans z)), if_pos q]
    · rw [if_neg q, ih fun z => h (List.mem_cons_of_mem _ z), if_neg q]
theorem cf_put (kvs : Tms) (s t : Str) (f : Int) : cf (putE kvs s f) t = if t = s then f else cf kvs t := by
  unfold putE
  by_cases h : s ∈ kvs.map (·.1)
  · rw [if_pos h, cf_map h]
  · rw [if_neg h, cf_app h]
theorem merge_app : ∀ (more acc : Tms), ((acc ++ more).map (·.1)).Nodup → mergeK (acc.map entK) (more.map entK) = (acc ++ more).map entK
  | [], acc, _ => by
    rw [List.append_nil]
    rfl
  | (s, f) :: r, acc, h => by
    have n : s ∉ acc.map (·.1) := by
      rw [List.map_append, List.map_cons, List.nodup_append] at h
      exact fun m => h.2.2 s m s List.mem_cons_self rfl
    show mergeK (putK (acc.map entK) (Sum.inr s) (.int f)) (r.map entK) = _
    rw [put_ent, show putE acc s f = acc ++ [(s, f)] from if_neg n, merge_app r (acc ++ [(s, f)]) (by rw [List.append_assoc]; exact h), List.append_assoc]
    rfl
theorem asc_nodup {ts : Tms} (h : Asc ts) : (ts.map (·.1)).Nodup := by
  induction ts with
  | nil => exact List.nodup_nil
  | cons p r ih =>
    rw [List.map_cons, List.nodup_cons]
    refine ⟨fun m => ?_, ih h.2⟩
    obtain ⟨q, hq, e⟩ := List.mem_map.mp m
    exact Fm.lt_irr _ (e ▸ h.1 q hq)
theorem pairs_ent {K : PySem.W.Frag} {H : Hp} : ∀ {ps : List Addr} {ts : Tms}, Prs H ps ts → Paired (fun p (kv : Key × V) => SqT K H p [kV kv.1, kv.2]) ps (ts.map entK)
  | _, _, .nil => .nil
  | _, _, .cons h r => .cons (SqT.of h) (pairs_ent r)
/-- d.get(s, 0) -/
theorem get0 {H : Hp} {d : Addr} {kvs : Tms} {s : Str} (h : H d = some (.dK (kvs.map entK))) : ∃ o, DGet H d (.str s) o ∧ o.getD (.int 0) = .int (cf kvs s) := by
  refine ⟨_, DGet.k (k := Sum.inr s) h, ?_⟩
  by_cases m : s ∈ kvs.map (·.1)
  · rw [val_cf m]
    rfl
  · rw [val_none m, cf_nin m]
    rfl
theorem cf_take {us : Tms} (hn : (us.map (·.1)).Nodup) {i : Nat} {s : Str} {f : Int} (h : us[i]? = some (s, f)) (t : Str) : cf (us.take (i + 1)) t = if t = s then f else cf (us.take i) t := by
  have tk : us.take (i + 1) = us.take i ++ [(s, f)] := by
    rw [List.take_add_one, h]
    rfl
  rw [tk]
  refine cf_app fun m => ?_
  have hi := (List.getElem?_eq_some_iff.mp h).1
  have : us = us.take i ++ (s, f) :: us.drop (i + 1) := by
    rw [← (List.getElem?_eq_some_iff.mp h).2, ← List.drop_eq_getElem_cons hi, List.take_append_drop]
  rw [this, List.map_append, List.map_cons, List.nodup_append] at hn
  exact hn.2.2 s m s List.mem_cons_self rfl
theorem cf_take0 {us : Tms} (hn : (us.map (·.1)).Nodup) {i : Nat} {s : Str} {f : Int} (h : us[i]? = some (s, f)) : cf (us.take i) s = 0 := by
  refine cf_nin fun m => ?_
  have hi := (List.getElem?_eq_some_iff.mp h).1
  have : us = us.take i ++ (s, f) :: us.drop (i + 1) := by
    rw [← (List.getElem?_eq_some_iff.mp h).2, ← List.drop_eq_getElem_cons hi, List.take_append_drop]
  rw [this, List.map_append, List.map_cons, List.nodup_append] at hn
  exact hn.2.2 s m s List.mem_cons_self rfl
section
variable {P : Program} {w : World} {K : PySem.W.Frag} {mg : Str → Option Value} {base : Heap} {C : Addr}
theorem ok_sum_of {f : Addr} {fd : FuncData} (F : Fun K "_sum_of" "_sum_of" s__sum_of f fd) (T : Ta mg) (C0 : Fc K mg C) (c_form_of : Cal P w K mg base 5 "form_of" ["factors"] (spFormOf C)) : FnG P w K mg base 6 f fd ["first", "second", "number"] (spSumOf C) := by
  refine okG F sc__sum_of (fun vs H Q E h => ?_) (fun cdv A outer s H vs Q hr h => ?_)
  · obtain ⟨a, b, n, ts, us, rfl, _⟩ := h
    rfl
  · obtain ⟨a, b, n, ts, us, rfl, ⟨dx, t, u, ha, ⟨ps, ht, hp⟩, hu⟩, ⟨dy, t2, u2, hb, ⟨qs, ht2, hq⟩, hu2⟩, ⟨l1, b1⟩, ⟨l2, b2⟩, n1, n2, hn, k⟩ := h
    refine ⟨_, (pss_cons (ps_set (i := 3) sc__sum_of.nd rfl (by first | exact .inl rfl | exact .inr rfl) (pe_callTy (call_dictPT (by rfl)) (by rfl) T.b_dict (by decide +kernel) (pa_cons (pe_fld (pv 0) rfl) pa_nil)))
  (pss_cons (ps_for PassesOwn.never rfl (pi_tup (pe_fld (pv 1) rfl)) (pg_tup rfl (pgs_cons (pg_name (i := 4) sc__sum_of.nd rfl (by first | exact .inl rfl | exact .inr rfl)) (pgs_cons (pg_name (i := 5) sc__sum_of.nd rfl (by first | exact .inl rfl | exact .inr rfl)) pgs_nil)))
    (pss_one (ps_dput (hu_of hr.rm) (pv 3) (pv 4) (pe_op op_add (pe_dget2 (hu_of hr.rm) (pv 3) (pv 4) pe_int ⟨rfl, rfl, rfl, rfl⟩) (pe_op op_mulW (pv 5) (pv 2))) rfl)))
  (pss_one (ps_ret (pe_c c_form_of hr (by decide) rfl (pa_cons (pv 3) pa_nil)))))), ?_⟩
    have nd1 := asc_nodup n1.asc
    have nd2 := asc_nodup n2.asc
    refine ⟨_, rfl, a, C, dx, _, _, rfl, ha, C0.cls, C0.nT, rfl, t, ps, ts.map entK, rfl, ht, pairs_ent hp, fun d hd => ?_⟩
    have em : mergeK [] (ts.map entK) = ts.map entK := merge_app ts [] nd1
    rw [em]
    have s1 : Same H (upd H d (.dK (ts.map entK))) := Same.new hd
    have fr : ∀ b o, H b = some o → b ≠ d := fun b o e => ne_of_none e hd
    have hq2 := hq.len
    refine ⟨_, rfl, b, C, dy, _, _, rfl, s1 _ _ hb, C0.cls, C0.nT, rfl, t2, rfl, ⟨_, (ht2.same s1).sq⟩, for_tup (K := K) (a := t2) (xs := qs.map V.ref) (fun i σ H' => ∃ (x4 x5 : Option V) (kvs : Tms), σ = [some (.ref a), some (.ref b), some (.int n), some (.ref d), x4, x5] ∧ (∀ b o, H b = some o → H' b = some o) ∧ H' d = some (.dK (kvs.map entK)) ∧ (kvs.map (·.1)).Nodup ∧
        kvs.length ≤ ts.length + i ∧ (∀ s, cf kvs s = cf ts s + cf (us.take i) s * n) ∧ (∀ q ∈ kvs, q.1 ∈ ts.map (·.1) ∨ q.1 ∈ us.map (·.1)))
      ⟨_, _, ts, rfl, s1, upd_same, nd1, by omega, fun s => by rw [List.take_zero]; show _ = _ + 0 * n; omega, fun q m => .inl (List.mem_map_of_mem m)⟩ (fun i σ H' _ ⟨_, _, _, _, s', _⟩ => (ht2.same s').sq) ?_ ?_⟩
    · rintro i x σ H2 hi ⟨x4, x5, kvs, rfl, s2, hd2, nd, lk, hc, hm⟩
      obtain ⟨p, q, rfl, hiq, hpq⟩ := hq.get hi
      obtain ⟨s, g⟩ := q
      obtain ⟨o, hg, eo⟩ := get0 (s := s) hd2
      have gb := b2 _ (List.mem_of_getElem? hiq)
      have li : i < us.length := (List.getElem?_eq_some_iff.mp hiq).1
      refine ⟨p, _, rfl, SqT.of (s2 _ _ hpq), rfl, _, _, rfl, _, _, rfl, rfl, ?_⟩
      refine ⟨_, rfl, d, rfl, .inl ⟨_, .inl hd2⟩, _, rfl, o, hg, ?_⟩
      rw [eo]
      refine ⟨_, rfl, _, rfl, _, _, rfl, rfl, wide_mul gb hn (by decide) (by decide) (by decide), _, _, rfl, rfl, _, rfl, _, rfl, d, _, rfl, DPut.k (k := Sum.inr s) hd2 ?_, _, _, putE kvs s (cf kvs s + g * n), rfl, fun b o e => ?_, ?_, put_nodup nd _ _, ?_, fun t => ?_, fun q hqm => ?_⟩
      · rw [List.length_map]
        exact Nat.lt_of_le_of_lt (show kvs.length ≤ 1000 by omega) (by decide)
      · rw [upd_ne (fr b o e)]
        exact s2 _ _ e
      · rw [upd_same, put_ent]
      · have := put_len kvs s (cf kvs s + g * n)
        omega
      · rw [cf_put, cf_take nd2 hiq]
        by_cases e : t = s
        · subst e
          rw [if_pos rfl, if_pos rfl, hc t, cf_take0 nd2 hiq]
          show _ + 0 * n + _ = _
          omega
        · rw [if_neg e, if_neg e, hc t]
      · have : q.1 ∈ (putE kvs s (cf kvs s + g * n)).map (·.1) := List.mem_map_of_mem hqm
        rw [put_keys] at this
        split at this
        · obtain ⟨q', hq', e⟩ := List.mem_map.mp this
          rw [← e]
          exact hm q' hq'
        · rcases List.mem_append.mp this with this | this
          · obtain ⟨q', hq', e⟩ := List.mem_map.mp this
            rw [← e]
            exact hm q' hq'
          · rw [List.mem_singleton.mp this]
            exact .inr (List.mem_map_of_mem (f := (·.1)) (List.mem_of_getElem? hiq))
    · rintro σ H2 ⟨x4, x5, kvs, rfl, s2, hd2, nd, lk, hc, hm⟩
      rw [List.length_map, hq2, List.take_length] at hc
      rw [List.length_map, hq2] at lk
      refine ⟨_, rfl, d, kvs, rfl, hd2, nd, by omega, fun c H3 rs s3 hf nm hcf hmem => k c H3 rs (fun b o e => s3 _ _ (s2 _ _ e)) hf nm (fun s => by rw [hcf, hc]) fun q m => hm q (hmem q m)⟩
end
end Lw

/-! ## FmD -/
set_option maxHeartbeats 1000000
namespace Lw
open PySem PySem.Spec PyProof.Rows L2
open Fm (cf Asc Nm)
abbrev s_check_form : Stmt := topS 25
abbrev n_check_form : List Str := ["value"]
theorem sc_check_form : FnScope n_check_form ["value"] (defScope s_check_form) := ⟨rfl, rfl, rfl, by decide +kernel, rfl, by decide +kernel, by decide +kernel⟩
abbrev s_Form_add : Stmt := inClass (topS 23) 4
abbrev n_Form_add : List Str := ["self", "other"]
theorem sc_Form_add : FnScope n_Form_add ["self", "other"] (defScope s_Form_add) := ⟨rfl, rfl, rfl, by decide +kernel, rfl, by decide +kernel, by decide +kernel⟩
abbrev s_Form_sub : Stmt := inClass (topS 23) 5
abbrev n_Form_sub : List Str := ["self", "other"]
theorem sc_Form_sub : FnScope n_Form_sub ["self", "other"] (defScope s_Form_sub) := ⟨rfl, rfl, rfl, by decide +kernel, rfl, by decide +kernel, by decide +kernel⟩
abbrev s_Form_neg : Stmt := inClass (topS 23) 6
abbrev n_Form_neg : List Str := ["self"]
theorem sc_Form_neg : FnScope n_Form_neg ["self"] (defScope s_Form_neg) := ⟨rfl, rfl, rfl, by decide +kernel, rfl, by decide +kernel, by decide +kernel⟩
abbrev s_Form_mul : Stmt := inClass (topS 23) 7
abbrev n_Form_mul : List Str := ["self", "other"]
theorem sc_Form_mul : FnScope n_Form_mul ["self", "other"] (defScope s_Form_mul) := ⟨rfl, rfl, rfl, by decide +kernel, rfl, by decide +kernel, by decide +kernel⟩
def spMultOf (C : Addr) : Sp := fun vs H Q _ => ∃ (a : Addr) (n : Int) (ts : Tms), vs = [.ref a, .int n] ∧ FormAt C H a ts ∧ Bd 40 200 ts ∧ Nm ts ∧ n.natAbs < 2 ^ 200 ∧
  ∀ c H' rs, Same H H' → FormAt C H' c rs → Nm rs → (∀ s, cf rs s = cf ts s * n) → (∀ q ∈ rs, q.1 ∈ ts.map (·.1)) → Q (.ref c) H'
/-- times a number -/
def mulE (ts : Tms) (n : Int) : Tms := ts.map fun q => (q.1, q.2 * n)
theorem mul_keys (ts : Tms) (n : Int) : (mulE ts n).map (·.1) = ts.map (·.1) := by
  unfold mulE
  rw [List.map_map]
  rfl
theorem cf_mul : ∀ (ts : Tms) (n : Int) (s : Str), cf (mulE ts n) s = cf ts s * n
  | [], n, s => by
    show 0 = 0 * n
    omega
  | (t, f) :: r, n, s => by
    show (if t = s then f * n else cf (mulE r n) s) = (if t = s then f else cf r s) * n
    split
    · rfl
    · exact cf_mul r n s
theorem mul_take {ts : Tms} {n : Int} {i : Nat} {s : Str} {f : Int} (h : ts[i]? = some (s, f)) : mulE (ts.take (i + 1)) n = mulE (ts.take i) n ++ [(s, f * n)] := by
  unfold mulE
  rw [List.take_add_one, h, List.map_append]
  rfl
theorem take_nin {us : Tms} (hn : (us.map (·.1)).Nodup) {i : Nat} {s : Str} {f : Int} (h : us[i]? = some (s, f)) : s ∉ (us.take i).map (·.1) := by
  intro m
  have hi := (List.getElem?_eq_some_iff.mp h).1
  have : us = us.take i ++ (s, f) :: us.drop (i + 1) := by
    rw [← (List.getElem?_eq_some_iff.mp h).2, ← List.drop_eq_getElem_cons hi, List.take_append_drop]
  rw [this, List.map_append, List.map_cons, List.nodup_append] at hn
  exact hn.2.2 s m s List.mem_cons_self rfl
def spUnit (C : Addr) : Sp := fun vs H Q _ => ∃ a, vs = [.ref a] ∧ Is C H a ∧ Q .non H
theorem FormAt.is {C : Addr} {H : Hp} {a : Addr} {ts : Tms} (h : FormAt C H a ts) : Is C H a := by
  obtain ⟨dx, t, u, h, _⟩ := h
  exact ⟨dx, _, h⟩
/-- a + b, a - b -/
def spOpOf (C : Addr) (n : Int) : Sp := fun vs H Q _ => ∃ (a b : Addr) (ts us : Tms), vs = [.ref a, .ref b] ∧ FormAt C H a ts ∧ FormAt C H b us ∧ Bd 20 200 ts ∧ Bd 20 200 us ∧ Nm ts ∧ Nm us ∧
  ∀ c H' rs, Same H H' → FormAt C H' c rs → Nm rs → (∀ s, cf rs s = cf ts s + cf us s * n) → (∀ q ∈ rs, q.1 ∈ ts.map (·.1) ∨ q.1 ∈ us.map (·.1)) → Q (.ref c) H'
def spNegOf (C : Addr) : Sp := fun vs H Q _ => ∃ (a : Addr) (ts : Tms), vs = [.ref a] ∧ FormAt C H a ts ∧ Bd 40 200 ts ∧ Nm ts ∧
  ∀ c H' rs, Same H H' → FormAt C H' c rs → Nm rs → (∀ s, cf rs s = cf ts s * (-1)) → (∀ q ∈ rs, q.1 ∈ ts.map (·.1)) → Q (.ref c) H'
section
variable {P : Program} {w : World} {K : PySem.W.Frag} {mg : Str → Option Value} {base : Heap} {C : Addr}
theorem ok_multiple_of {f : Addr} {fd : FuncData} (F : Fun K "_multiple_of" "_multiple_of" s__multiple_of f fd) (T : Ta mg) (C0 : Fc K mg C) (c_form_of : Cal P w K mg base 5 "form_of" ["factors"] (spFormOf C)) : FnG P w K mg base 6 f fd ["form", "number"] (spMultOf C) := by
  refine okG F sc__multiple_of (fun vs H Q E h => ?_) (fun cdv A outer s H vs Q hr h => ?_)
  · obtain ⟨a, n, ts, rfl, _⟩ := h
    rfl
  · obtain ⟨a, n, ts, rfl, ⟨dx, t, u, ha, ⟨ps, ht, hp⟩, hu⟩, ⟨l1, b1⟩, n1, hn, k⟩ := h
    refine ⟨_, (pss_one (ps_ret (pe_c c_form_of hr (by decide) rfl (pa_cons (pe_dc (own := [("symbol", 2), ("factor", 3)]) (g := gTup K 2 (gCons (gName 2) (gCons (gName 3) gNil))) (tt := tYes) rfl sc__multiple_of.nd (pi_tup (pe_fld (pv 0) rfl)) (blkOk_by (own := [("symbol", 2), ("factor", 3)]) (N := n__multiple_of) (sc := defScope s__multiple_of) (by decide +kernel)) (fun _ _ _ _ _ => pg_tup rfl (pgs_cons (pg_name (i := 2) sc__multiple_of.nd rfl (Or.inl rfl)) (pgs_cons (pg_name (i := 3) sc__multiple_of.nd rfl (Or.inl rfl)) pgs_nil))) (fun _ _ _ _ _ => pts_nil) (fun _ _ _ _ _ => (pv 2)) (fun _ _ _ _ _ => (pe_op op_mulW (pv 3) (pv 1)))) pa_nil)))), ?_⟩
    have nd1 := asc_nodup n1.asc
    have lps := hp.len
    refine ⟨_, rfl, a, C, dx, _, _, rfl, ha, C0.cls, C0.nT, rfl, t, rfl, ⟨_, ht.sq⟩, fun D hD => dc_tup (K := K) (a := t) (xs := ps.map V.ref) (fun i H' => (∀ b o, H b = some o → H' b = some o) ∧ H' D = some (.dK ((mulE (ts.take i) n).map entK))) ⟨Same.new hD, upd_same⟩ (fun i H' _ ⟨s', _⟩ => (ht.same s').sq) (fun i x H2 hi ⟨s2, hd2⟩ => ?_) fun H2 ⟨s2, hd2⟩ => ?_⟩
    · obtain ⟨p, q, rfl, hiq, hpq⟩ := hp.get hi
      obtain ⟨s, g⟩ := q
      have gb := b1 _ (List.mem_of_getElem? hiq)
      have li : i < ts.length := (List.getElem?_eq_some_iff.mp hiq).1
      have nin := take_nin nd1 hiq
      rw [← mul_keys (ts.take i) n] at nin
      refine ⟨p, _, rfl, SqT.of (s2 _ _ hpq), rfl, _, _, rfl, _, _, rfl, rfl, rfl, _, rfl, _, rfl, _, rfl, _, _, rfl, rfl, wide_mul gb hn (by decide) (by decide) (by decide), _, Sum.inr s, rfl, hd2, ?_, fun b o e => ?_, ?_⟩
      · unfold mulE
        rw [List.length_map, List.length_map]
        exact Nat.lt_of_le_of_lt (Nat.le_trans (List.length_take_le _ _) (show i ≤ 1000 by omega)) (by decide)
      · rw [upd_ne (ne_of_none e hD)]
        exact s2 _ _ e
      · rw [upd_same, put_ent, mul_take hiq, show putE (mulE (ts.take i) n) s (g * n) = _ from if_neg nin]
    · rw [List.length_map, lps, List.take_length] at hd2
      refine ⟨D, mulE ts n, rfl, hd2, by rw [mul_keys]; exact nd1, by unfold mulE; rw [List.length_map]; omega, fun c H3 rs s3 hf nm hcf hmem => k c H3 rs (fun b o e => s3 _ _ (s2 _ _ e)) hf nm (fun s => by rw [hcf, cf_mul]) fun q m => ?_⟩
      have : q.1 ∈ (mulE ts n).map (·.1) := List.mem_map_of_mem (hmem q m)
      rwa [mul_keys] at this
theorem ok_check_form {f : Addr} {fd : FuncData} (F : Fun K "check_form" "check_form" s_check_form f fd) (T : Ta mg) (C0 : Fc K mg C) : FnG P w K mg base 1 f fd ["value"] (spUnit C) := by
  refine okG F sc_check_form (fun vs H Q E h => ?_) (fun cdv A outer s H vs Q hr h => ?_)
  · obtain ⟨a, rfl, _⟩ := h
    rfl
  · obtain ⟨a, rfl, ⟨dx, fs, ha⟩, k⟩ := h
    refine ⟨_, (pss_one (ps_if (pt_not (pt_val (pe_callB (C8.call_isC C0.isc) (by rfl) T.b_isinstance (by decide +kernel) (pa_cons (pv 0) (pa_cons (pe_gl (v := .ref C) rfl C0.g_Form) pa_nil)))))
    (pss_one ps_dead)
    pss_nil)), ?_⟩
    exact ⟨_, rfl, a, dx, fs, rfl, ha, _, rfl, iteF k⟩
variable (c_check_form : Cal P w K mg base 1 "check_form" ["value"] (spUnit C)) (c__sum_of : Cal P w K mg base 6 "_sum_of" ["first", "second", "number"] (spSumOf C)) (c__multiple_of : Cal P w K mg base 6 "_multiple_of" ["form", "number"] (spMultOf C))
include c_check_form c__sum_of in
theorem ok_add {f : Addr} {fd : FuncData} (F : Fun K "__add__" "Form.__add__" s_Form_add f fd) : FnG P w K mg base 7 f fd ["self", "other"] (spOpOf C 1) := by
  refine okG F sc_Form_add (fun vs H Q E h => ?_) (fun cdv A outer s H vs Q hr h => ?_)
  · obtain ⟨a, b, ts, us, rfl, _⟩ := h
    rfl
  · obtain ⟨a, b, ts, us, rfl, ha, hb, b1, b2, n1, n2, k⟩ := h
    refine ⟨_, (pss_cons (ps_expr (pe_c c_check_form hr (by decide) rfl (pa_cons (pv 1) pa_nil)))
  (pss_one (ps_ret (pe_c c__sum_of hr (by decide) rfl (pa_cons (pv 0) (pa_cons (pv 1) (pa_cons pe_int pa_nil))))))), ?_⟩
    exact ⟨_, rfl, b, rfl, hb.is, _, rfl, _, rfl, a, b, 1, ts, us, rfl, ha, hb, b1, b2, n1, n2, by decide, k⟩
include c_check_form c__sum_of in
theorem ok_sub {f : Addr} {fd : FuncData} (F : Fun K "__sub__" "Form.__sub__" s_Form_sub f fd) : FnG P w K mg base 7 f fd ["self", "other"] (spOpOf C (-1)) := by
  refine okG F sc_Form_sub (fun vs H Q E h => ?_) (fun cdv A outer s H vs Q hr h => ?_)
  · obtain ⟨a, b, ts, us, rfl, _⟩ := h
    rfl
  · obtain ⟨a, b, ts, us, rfl, ha, hb, b1, b2, n1, n2, k⟩ := h
    refine ⟨_, (pss_cons (ps_expr (pe_c c_check_form hr (by decide) rfl (pa_cons (pv 1) pa_nil)))
  (pss_one (ps_ret (pe_c c__sum_of hr (by decide) rfl (pa_cons (pv 0) (pa_cons (pv 1) (pa_cons (pe_un un_neg pe_int) pa_nil))))))), ?_⟩
    exact ⟨_, rfl, b, rfl, hb.is, _, rfl, _, rfl, _, rfl, a, b, -1, ts, us, rfl, ha, hb, b1, b2, n1, n2, by decide, k⟩
include c__multiple_of in
theorem ok_neg {f : Addr} {fd : FuncData} (F : Fun K "__neg__" "Form.__neg__" s_Form_neg f fd) : FnG P w K mg base 7 f fd ["self"] (spNegOf C) := by
  refine okG F sc_Form_neg (fun vs H Q E h => ?_) (fun cdv A outer s H vs Q hr h => ?_)
  · obtain ⟨a, ts, rfl, _⟩ := h
    rfl
  · obtain ⟨a, ts, rfl, ha, b1, n1, k⟩ := h
    refine ⟨_, (pss_one (ps_ret (pe_c c__multiple_of hr (by decide) rfl (pa_cons (pv 0) (pa_cons (pe_un un_neg pe_int) pa_nil))))), ?_⟩
    exact ⟨_, rfl, _, rfl, a, -1, ts, rfl, ha, b1, n1, by decide, k⟩
include c__multiple_of in
theorem ok_mul {f : Addr} {fd : FuncData} (F : Fun K "__mul__" "Form.__mul__" s_Form_mul f fd) (c_is_integer : Cal P w K mg base 1 "is_integer" ["value"] (spB K Tr.whole)) : FnG P w K mg base 7 f fd ["self", "other"] (spMultOf C) := by
  refine okG F sc_Form_mul (fun vs H Q E h => ?_) (fun cdv A outer s H vs Q hr h => ?_)
  · obtain ⟨a, n, ts, rfl, _⟩ := h
    rfl
  · obtain ⟨a, n, ts, rfl, ha, b1, n1, hn, k⟩ := h
    refine ⟨_, (pss_cons (ps_if (pt_not (pt_val (pe_c c_is_integer hr (by decide) rfl (pa_cons (pv 1) pa_nil))))
    (pss_one ps_dead)
    pss_nil)
  (pss_one (ps_ret (pe_c c__multiple_of hr (by decide) rfl (pa_cons (pv 0) (pa_cons (pv 1) pa_nil)))))), ?_⟩
    refine ⟨_, rfl, .int n, .int n, rfl, .int n, fun H1 s1 => ⟨_, rfl, iteF ⟨_, rfl, _, rfl, a, n, ts, rfl, ha.same s1, b1, n1, hn, fun c H' rs s2 => k c H' rs (s1.trans s2)⟩⟩⟩
end
end Lw

/-! ## FmE -/
set_option maxHeartbeats 1000000
namespace Lw
open PySem PySem.Spec PyProof.Rows L2
open Fm (cf Asc Nm)
abbrev s__pieces_of : Stmt := topS 35
abbrev n__pieces_of : List Str := ["terms", "pieces", "symbol", "factor"]
theorem sc__pieces_of : FnScope n__pieces_of ["terms"] (defScope s__pieces_of) := ⟨rfl, rfl, rfl, by decide +kernel, rfl, by decide +kernel, by decide +kernel⟩
abbrev s_Form_str : Stmt := inClass (topS 23) 9
abbrev n_Form_str : List Str := ["self"]
theorem sc_Form_str : FnScope n_Form_str ["self"] (defScope s_Form_str) := ⟨rfl, rfl, rfl, by decide +kernel, rfl, by decide +kernel, by decide +kernel⟩
def tMidS (t : TS) : TS := fun (D : Ends) (σ : L2.St) (H : Hp) => ∃ R : L2.St → Hp → Prop, t { D with nx := R } σ H ∧ ∀ σ' H', R σ' H' → D.nx σ' H'
/-- a statement whose ways are joined -/
theorem ps_mid {X : Cx} {st : Stmt} {t : TS} (h : PS X st t) : PS X st (tMidS t) := ⟨fun pins s σ H D I q => by
  obtain ⟨R, h1, h2⟩ := q
  refine wpAny_mono (h.run pins s σ H { D with nx := R } I h1) (fun fl s' z => ?_) fun _ _ z => z
  cases fl with
  | next =>
    obtain ⟨σ', H', J, r⟩ := z
    exact ⟨σ', H', J, h2 _ _ r⟩
  | brk => exact z
  | cont => exact z
  | ret u => exact z⟩
/-! ### the pieces of a text -/
def pcStep (l : List Str) (q : Str × Int) : List Str := l ++ (if l = [] then (if q.2 < 0 then [("-" : Str)] else []) else [Fm.sgnM q.2]) ++ [Fm.wordS q.1 q.2]
theorem pcs_snoc : ∀ (ts : Tms) (l : List Str) (q : Str × Int), Fm.pcsS l (ts ++ [q]) = pcStep (Fm.pcsS l ts) q
  | [], l, q => rfl
  | (s, f) :: r, l, q => pcs_snoc r _ q
theorem pcs_take {ts : Tms} {i : Nat} {q : Str × Int} (h : ts[i]? = some q) : Fm.pcsS [] (ts.take (i + 1)) = pcStep (Fm.pcsS [] (ts.take i)) q := by
  rw [List.take_add_one, h]
  exact pcs_snoc _ _ _
theorem pcs_len : ∀ (ts : Tms) (l : List Str), (Fm.pcsS l ts).length ≤ l.length + 2 * ts.length
  | [], l => by simp [Fm.pcsS]
  | (s, f) :: r, l => by
    have h := pcs_len r (l ++ (if l = [] then (if f < 0 then [("-" : Str)] else []) else [Fm.sgnM f]) ++ [Fm.wordS s f])
    have : (if l = [] then (if f < 0 then [("-" : Str)] else []) else [Fm.sgnM f]).length ≤ 1 := by
      split
      · split <;> simp
      · simp
    simp only [List.length_append, List.length_cons, List.length_nil] at h ⊢
    show (Fm.pcsS _ r).length ≤ _
    omega
theorem pcs_mem {z : Str} : ∀ (ts : Tms) (l : List Str), z ∈ Fm.pcsS l ts → z ∈ l ∨ z = "-" ∨ (∃ f, z = Fm.sgnM f) ∨ ∃ q ∈ ts, z = Fm.wordS q.1 q.2
  | [], l, h => .inl h
  | (s, f) :: r, l, h => by
    rcases pcs_mem r _ h with h | h | h | ⟨q, hq, e⟩
    · rcases List.mem_append.mp h with h | h
      · rcases List.mem_append.mp h with h | h
        · exact .inl h
        · split at h
          · split at h
            · exact .inr (.inl (List.mem_singleton.mp h))
            · cases h
          · exact .inr (.inr (.inl ⟨f, List.mem_singleton.mp h⟩))
      · exact .inr (.inr (.inr ⟨(s, f), List.mem_cons_self, List.mem_singleton.mp h⟩))
    · exact .inr (.inl h)
    · exact .inr (.inr (.inl h))
    · exact .inr (.inr (.inr ⟨q, List.mem_cons_of_mem _ hq, e⟩))
theorem log_of {f : Int} (h : f.natAbs < 2 ^ 1000) : (if f < 0 then -f else f).natAbs.log2 < 1920 := by
  have e : (if f < 0 then -f else f).natAbs = f.natAbs := by split <;> omega
  rw [e]
  exact Nat.lt_of_lt_of_le (PySem.Flt.log2_lt_of (by decide) h) (by decide)
theorem num_len {f : Int} (h : f.natAbs < 2 ^ 1000) : (Fm.numS f).length ≤ 1921 := int_text_len_1921 (log_of h)
theorem empty_app (x : Str) : Str.empty ++ x = x := Fm.str_ext (by
  show (Str.empty.cps ++ x.cps).toList = x.cps.toList
  rw [Array.toList_append]
  rfl)
theorem word_len {s : Str} {f : Int} (hs : s.length ≤ 8) (h : f.natAbs < 2 ^ 1000) : (Fm.wordS s f).length ≤ 1930 := by
  unfold Fm.wordS
  split
  · omega
  · have h1 := num_len h
    have e : (Fm.numS f ++ Fm.starS ++ s).length = (Fm.numS f).length + 1 + s.length := by
      show ((_ ++ _ : Array Nat) ++ _).size = _
      rw [Array.size_append, Array.size_append]
      rfl
    omega
/-- symbols of at most eight signs, of those that are read -/
def SyB (ts : Tms) : Prop := ∀ q ∈ ts, q.1.length ≤ 8 ∧ Fm.SyOk q.1
def spPieces : Sp := fun vs H Q _ => ∃ (t : Addr) (ts : Tms), vs = [.ref t] ∧ TermsAt H t ts ∧ Bd 60 1000 ts ∧ SyB ts ∧ ∀ p H', Same H H' → H p = none → H' p = some (.lst ((Fm.pcsS [] ts).map V.str)) → Q (.ref p) H'
section
variable {P : Program} {w : World} {K : PySem.W.Frag} {mg : Str → Option Value} {base : Heap} {C : Addr}
theorem ok_pieces_of {f : Addr} {fd : FuncData} (F : Fun K "_pieces_of" "_pieces_of" s__pieces_of f fd) (T : Ta mg) : FnG P w K mg base 1 f fd ["terms"] spPieces := by
  refine okG F sc__pieces_of (fun vs H Q E h => ?_) (fun cdv A outer s H vs Q hr h => ?_)
  · obtain ⟨t, ts, rfl, _⟩ := h
    rfl
  · obtain ⟨t, ts, rfl, ⟨ps, ht, hp⟩, ⟨bl, bb⟩, sy, k⟩ := h
    refine ⟨_, (pss_cons (ps_set (i := 1) sc__pieces_of.nd rfl (by first | exact .inl rfl | exact .inr rfl) (pe_lstS pa_nil))
  (pss_cons (ps_for PassesOwn.never rfl (pi_tup (pv 0)) (pg_tup rfl (pgs_cons (pg_name (i := 2) sc__pieces_of.nd rfl (by first | exact .inl rfl | exact .inr rfl)) (pgs_cons (pg_name (i := 3) sc__pieces_of.nd rfl (by first | exact .inl rfl | exact .inr rfl)) pgs_nil)))
    (pss_cons (ps_mid (ps_if (pt_truth (pv 1) (by intro _; rfl))
    (pss_one (ps_expr (pe_bm PySem.F.plainAttrs_list PySem.F.slot_list_append PySem.F.type_list_append mt_append (pv 1) (pa_cons (pe_mid (pe_ifExp (pt_cmpR op_lt (pv 3) pe_int (nomark _)) pe_str pe_str)) pa_nil))))
    (pss_one (ps_mid (ps_if (pt_cmpR op_lt (pv 3) pe_int (nomark _))
    (pss_one (ps_expr (pe_bm PySem.F.plainAttrs_list PySem.F.slot_list_append PySem.F.type_list_append mt_append (pv 1) (pa_cons pe_str pa_nil))))
    pss_nil)))))
  (pss_one (ps_expr (pe_bm PySem.F.plainAttrs_list PySem.F.slot_list_append PySem.F.type_list_append mt_append (pv 1) (pa_cons (pe_mid (pe_ifExp (pt_cmpR op_eq (pe_callB call_abs (by rfl) T.b_abs (by decide +kernel) (pa_cons (pv 3) pa_nil)) pe_int (nomark _)) (pv 2) (pe_joined (PJ.cons (pe_fmt (pe_callB call_abs (by rfl) T.b_abs (by decide +kernel) (pa_cons (pv 3) pa_nil))) (PJ.cons pe_str (PJ.cons (pe_fmt (pv 2)) PJ.nil)))))) pa_nil))))))
  (pss_one (ps_ret (pv 1))))), ?_⟩
    have lps := hp.len
    refine ⟨Nat.zero_le _, fun L H1 nL s1 h1 => ?_⟩
    refine ⟨_, rfl, t, rfl, ⟨_, (ht.same s1).sq⟩, for_tup (K := K) (a := t) (xs := ps.map V.ref) (fun i σ H' => ∃ (x2 x3 : Option V), σ = [some (.ref t), some (.ref L), x2, x3] ∧ Same H H' ∧ H' L = some (.lst ((Fm.pcsS [] (ts.take i)).map V.str)))
      ⟨_, _, rfl, s1, h1⟩ (fun i σ H' _ ⟨_, _, _, s', _⟩ => (ht.same s').sq) ?_ ?_⟩
    · rintro i x σ H2 hi ⟨x2, x3, rfl, s2, hL⟩
      obtain ⟨p, q, rfl, hiq, hpq⟩ := hp.get hi
      obtain ⟨sy1, g⟩ := q
      have li : i < ts.length := (List.getElem?_eq_some_iff.mp hiq).1
      have gb : g.natAbs < 2 ^ 1000 := bb _ (List.mem_of_getElem? hiq)
      have sl : sy1.length ≤ 8 := (sy _ (List.mem_of_getElem? hiq)).1
      have lp := pcs_len (ts.take i) []
      have lt2 : (ts.take i).length ≤ 60 := Nat.le_trans (List.length_take_le _ _) (by omega)
      have lp : (Fm.pcsS [] (ts.take i)).length ≤ 120 := by simp only [List.length_nil] at lp; omega
      generalize hl : Fm.pcsS [] (ts.take i) = l at hL lp
      have big : ∀ {n : Nat}, n ≤ 1000 → n ≤ sizeLine := fun h => Nat.le_trans h (by decide)
      have st2 : ∀ (H' : Hp), (∀ b o, b ≠ L → H2 b = some o → H' b = some o) → Same H H' := fun H' k b o e => k b o (ne_of_none e nL) (s2 _ _ e)
      refine ⟨p, _, rfl, SqT.of (s2 _ _ hpq), rfl, _, _, rfl, _, _, rfl, rfl, ?_⟩
      refine ⟨fun σ' H' => σ' = [some (.ref t), some (.ref L), some (.str sy1), some (.int g)] ∧ (∀ b o, b ≠ L → H2 b = some o → H' b = some o) ∧ H' L = some (.lst ((l ++ (if l = [] then (if g < 0 then [("-" : Str)] else []) else [Fm.sgnM g])).map V.str)), ?_, ?_⟩
      · refine ⟨_, rfl, !(l.map V.str).isEmpty, .inl ⟨_, SqL.of hL, rfl⟩, ite2 (fun hne => ?_) fun he => ?_⟩
        · have ne : l ≠ [] := fun e => by rw [e] at hne; exact absurd hne (by decide)
          rw [if_neg ne]
          refine ⟨_, rfl, .inl ⟨rfl, _, SqL.of hL⟩, fun v H' => v = .str (Fm.sgnM g) ∧ H' = H2, ⟨_, rfl, _, _, rfl, rfl, _, rfl, ite2 (fun hg => ?_) fun hg => ?_⟩, ?_⟩
          · rw [show Fm.sgnM g = " - " from if_pos (of_decide_eq_true hg)]
            exact ⟨rfl, rfl⟩
          · rw [show Fm.sgnM g = " + " from if_neg (fun q => hg (decide_eq_true q))]
            exact ⟨rfl, rfl⟩
          · rintro v H' ⟨rfl, rfl⟩
            refine ⟨L, _, _, rfl, rfl, hL, ?_, rfl, fun b o n e => ?_, ?_⟩
            · rw [List.length_map]
              exact Nat.lt_of_le_of_lt (show l.length ≤ 1000 by omega) (by decide)
            · rw [upd_ne n]
              exact e
            · rw [upd_same, List.map_append]
              rfl
        · have em : l = [] := by
            cases l with
            | nil => rfl
            | cons a b => exact absurd (show (!(List.map V.str (a :: b)).isEmpty) = true from rfl) he
          rw [if_pos em]
          refine ⟨fun σ' H' => σ' = [some (.ref t), some (.ref L), some (.str sy1), some (.int g)] ∧ (∀ b o, b ≠ L → H2 b = some o → H' b = some o) ∧ H' L = some (.lst ((l ++ (if g < 0 then [("-" : Str)] else [])).map V.str)), ⟨_, rfl, _, _, rfl, rfl, _, rfl, ite2 (fun hg => ?_) fun hg => ?_⟩, fun σ' H' z => z⟩
          · rw [if_pos (of_decide_eq_true hg)]
            refine ⟨_, rfl, .inl ⟨rfl, _, SqL.of hL⟩, L, _, _, rfl, rfl, hL, ?_, rfl, fun b o n e => ?_, ?_⟩
            · rw [List.length_map]
              exact Nat.lt_of_le_of_lt (show l.length ≤ 1000 by omega) (by decide)
            · rw [upd_ne n]
              exact e
            · rw [upd_same, List.map_append]
              rfl
          · rw [if_neg (fun q => hg (decide_eq_true q)), List.append_nil]
            exact ⟨rfl, fun _ _ _ e => e, hL⟩
      · rintro σ' H3 ⟨rfl, s3, hL3⟩
        have wl := word_len sl gb
        have l3 : (l ++ (if l = [] then (if g < 0 then [("-" : Str)] else []) else [Fm.sgnM g])).length ≤ 200 := by
          have : (if l = [] then (if g < 0 then [("-" : Str)] else []) else [Fm.sgnM g]).length ≤ 1 := by
            split
            · split <;> simp
            · simp
          rw [List.length_append]
          omega
        refine ⟨_, rfl, .inl ⟨rfl, _, SqL.of hL3⟩, fun v H' => v = .str (Fm.wordS sy1 g) ∧ H' = H3, ⟨_, rfl, g, rfl, rfl, _, rfl, ite2 (fun h1 => ?_) fun h1 => ?_⟩, ?_⟩
        · have e : Fm.absI g = 1 := by simpa [Fm.absI] using h1
          exact ⟨_, rfl, by rw [show Fm.wordS sy1 g = sy1 from if_pos e], rfl⟩
        · have e : ¬ Fm.absI g = 1 := by simpa [Fm.absI] using h1
          have ew : Str.empty ++ Fm.numS g ++ ("*" : Str) ++ sy1 = Fm.wordS sy1 g := by
            rw [empty_app]
            exact (if_neg e).symm
          have lw : ∀ {a b : Str}, (a ++ b).length = a.length + b.length := fun {a b} => by
            show (_ ++ _ : Array Nat).size = _
            rw [Array.size_append]
            rfl
          have ln := num_len gb
          refine ⟨_, rfl, g, rfl, .inr ⟨_, rfl, log_of gb, Fm.numS g, rfl, ?_, "*", rfl, ?_, _, rfl, .inl ⟨sy1, rfl, big (by omega), sy1, rfl, ?_, ?_⟩⟩⟩
          · rw [empty_app]
            exact Nat.le_trans ln (by decide)
          · rw [empty_app, lw]
            exact Nat.le_trans (show (Fm.numS g).length + 1 ≤ 2000 by omega) (by decide)
          · rw [ew]
            exact Nat.le_trans wl (by decide)
          · exact ⟨congrArg V.str ew, rfl⟩
        · rintro v H' ⟨rfl, rfl⟩
          refine ⟨L, _, _, rfl, rfl, hL3, ?_, _, _, rfl, st2 _ fun b o n e => ?_, ?_⟩
          · rw [List.length_map]
            exact Nat.lt_of_le_of_lt (show _ ≤ 1000 by omega) (by decide)
          · rw [upd_ne n]
            exact s3 _ _ n e
          · rw [upd_same, pcs_take hiq, hl]
            show _ = some (HO.lst (((l ++ (if l = [] then (if g < 0 then [("-" : Str)] else []) else [Fm.sgnM g])) ++ [Fm.wordS sy1 g]).map V.str))
            generalize l ++ (if l = [] then (if g < 0 then [("-" : Str)] else []) else [Fm.sgnM g]) = m
            rw [List.map_append]
            rfl
    · rintro σ H2 ⟨x2, x3, rfl, s2, hL⟩
      rw [List.length_map, lps, List.take_length] at hL
      exact ⟨_, rfl, k L H2 s2 nL hL⟩
/-- the text of a form -/
def spStr (C : Addr) : Sp := fun vs H Q _ => ∃ (a : Addr) (ts : Tms), vs = [.ref a] ∧ FormAt C H a ts ∧ Bd 60 1000 ts ∧ SyB ts ∧ ∀ H', Same H H' → Q (.str (Fm.textS ts)) H'
theorem pcs_sum {ts : Tms} (b : Bd 60 1000 ts) (sy : SyB ts) : ((Fm.pcsS [] ts).map (·.length)).sum ≤ 1930 * 120 := by
  have h1 : ∀ z ∈ Fm.pcsS [] ts, z.length ≤ 1930 := fun z hz => by
    rcases pcs_mem ts [] hz with h | h | ⟨f, h⟩ | ⟨q, hq, h⟩
    · cases h
    · rw [h]
      decide
    · rw [h]
      unfold Fm.sgnM
      split <;> decide
    · rw [h]
      exact word_len (sy q hq).1 (b.lt q hq)
  have h2 : ∀ l : List Str, (∀ z ∈ l, z.length ≤ 1930) → (l.map (·.length)).sum ≤ 1930 * l.length := by
    intro l
    induction l with
    | nil => exact fun _ => Nat.le_refl 0
    | cons x r ih =>
      intro h
      have := ih fun z m => h z (List.mem_cons_of_mem _ m)
      have := h x List.mem_cons_self
      simp only [List.map_cons, List.sum_cons, List.length_cons]
      omega
  have h3 := h2 _ h1
  have h4 := pcs_len ts []
  have h5 := b.len
  simp only [List.length_nil] at h4
  omega
theorem ok_str {f : Addr} {fd : FuncData} (F : Fun K "__str__" "Form.__str__" s_Form_str f fd) (C0 : Fc K mg C) (c__pieces_of : Cal P w K mg base 1 "_pieces_of" ["terms"] spPieces) : FnG P w K mg base 2 f fd ["self"] (spStr C) := by
  refine okG F sc_Form_str (fun vs H Q E h => ?_) (fun cdv A outer s H vs Q hr h => ?_)
  · obtain ⟨a, ts, rfl, _⟩ := h
    rfl
  · obtain ⟨a, ts, rfl, ⟨dx, t, u, ha, ht, hu⟩, b, sy, k⟩ := h
    refine ⟨_, (pss_cons (ps_if (pt_not (pt_truth (pe_fld (pv 0) rfl) (by intro _; rfl)))
    (pss_one (ps_ret pe_str))
    pss_nil)
  (pss_one (ps_ret (pe_bm PySem.F.plainAttrs_str PySem.F.slot_str_join PySem.F.type_str_join mt_join pe_str (pa_cons (pe_c c__pieces_of hr (by decide) rfl (pa_cons (pe_fld (pv 0) rfl) pa_nil)) pa_nil))))), ?_⟩
    have sh := Fm.shown_text (ts := ts) fun q m => (sy q m).2.ne
    obtain ⟨ps, hf, hp⟩ := id ht
    refine ⟨_, rfl, a, C, dx, _, _, rfl, ha, C0.cls, C0.nT, rfl, !(ps.map V.ref).isEmpty, .inr (.inl ⟨_, hf.sq, rfl⟩), ?_⟩
    cases hts : ts with
    | nil =>
      subst hts
      cases hp
      refine iteT ?_
      have := k H (Same.refl H)
      rw [← sh] at this
      exact this
    | cons q r =>
      rw [hts] at hp
      cases hp with
      | cons h1 h2 =>
        refine iteF ?_
        refine ⟨rfl, _, rfl, a, C, dx, _, _, rfl, ha, C0.cls, C0.nT, rfl, t, ts, rfl, ht, b, sy, fun p H1 s1 np hp1 => ⟨_, p, _, rfl, rfl, .inl (SqL.of hp1), ?_, ?_⟩⟩
        · have := pcs_sum b sy
          show _ + _ * 0 ≤ _
          omega
        · have := k H1 s1
          rw [← sh, Fm.shownS, if_neg (by rw [hts]; simp)] at this
          exact this
end
end Lw

/-! ## FmF -/
set_option maxHeartbeats 1000000
namespace Lw
open PySem PySem.Spec PyProof.Rows L2
open Fm (cf Asc Nm)
abbrev s_number_in_text : Stmt := topS 29
abbrev n_number_in_text : List Str := ["digits"]
theorem sc_number_in_text : FnScope n_number_in_text ["digits"] (defScope s_number_in_text) := ⟨rfl, rfl, rfl, by decide +kernel, rfl, by decide +kernel, by decide +kernel⟩
abbrev s__term_in_text : Stmt := topS 30
abbrev n__term_in_text : List Str := ["word", "sign", "digits", "star", "symbol", "number"]
theorem sc__term_in_text : FnScope n__term_in_text ["word"] (defScope s__term_in_text) := ⟨rfl, rfl, rfl, by decide +kernel, rfl, by decide +kernel, by decide +kernel⟩
def spNum : Sp := fun vs H Q _ => ∃ (z : Str) (n : Int), vs = [.str z] ∧ PySem.intText? z = some n ∧ z.length ≤ 640 ∧ Q (.int n) H
/-- a factor that is read -/
structure Fa99 (f : Int) : Prop where
  nz : f ≠ 0
  le : f.natAbs < 2 ^ 110
/-- terms that are read -/
def Rd99 (ts : Tms) : Prop := ∀ q ∈ ts, (q.1.length ≤ 8 ∧ Fm.SyOk q.1) ∧ (Tr.str q.1).sym = true ∧ Fa99 q.2
theorem num_head {f : Int} : ∃ c r, TL.tl (Fm.numS f) = c :: r ∧ 48 ≤ c ∧ c ≤ 57 := by
  unfold Fm.numS
  obtain ⟨n, hn⟩ := Int.eq_ofNat_of_zero_le (Fm.absI_nonneg f)
  rw [hn, TL.tl_num]
  unfold TL.numL
  cases e : Nat.toDigits 10 n with
  | nil => exact absurd e (by
      have := Nat.length_toDigits_pos (b := 10) (n := n)
      intro z
      rw [z] at this
      exact absurd this (by decide))
  | cons ch r =>
    refine ⟨ch.toNat, _, rfl, ?_⟩
    have : ch.isDigit = true := Nat.isDigit_of_mem_toDigits (b := 10) (n := n) (by decide) (by decide) (by rw [e]; exact List.mem_cons_self)
    exact PyProof.Rows.digit_range this
theorem word_head {s : Str} (h : Fm.SyOk s) (f : Int) : ∃ c, (TL.tl (Fm.wordS s f)).head? = some c ∧ c ≠ 45 := by
  unfold Fm.wordS
  split
  · cases e : TL.tl s with
    | nil => exact absurd e h.ne
    | cons c r => exact ⟨c, rfl, h.mi c (by rw [e]; rfl)⟩
  · obtain ⟨c, r, e, h1, h2⟩ := num_head (f := f)
    rw [TL.tl_append, TL.tl_append, e]
    exact ⟨c, rfl, by omega⟩
theorem starts_word {s : Str} (h : Fm.SyOk s) (f : Int) : Txt.startswith (Fm.wordS s f) "-" = false := by
  rw [Fm.starts_iff (c := 45) rfl]
  obtain ⟨c, e, n⟩ := word_head h f
  rw [e]
  exact decide_eq_false fun z => n (Option.some.inj z)
theorem starts_sgn {s : Str} (h : Fm.SyOk s) (f : Int) : Txt.startswith (Fm.sgn1 f ++ Fm.wordS s f) "-" = decide (f < 0) := by
  rw [Fm.starts_iff (c := 45) rfl]
  unfold Fm.sgn1
  by_cases g : f < 0
  · rw [if_pos g, decide_eq_true g, TL.tl_append]
    exact decide_eq_true rfl
  · rw [if_neg g, decide_eq_false g, TL.tl_append]
    obtain ⟨c, e, n⟩ := word_head h f
    show decide ((TL.tl (Fm.wordS s f)).head? = some 45) = false
    rw [e]
    exact decide_eq_false fun z => n (Option.some.inj z)
theorem cut1 (z : Str) : cutS (("-" : Str) ++ z) (some 1) none = z := by
  refine Fm.str_ext ?_
  show (((("-" : Str) ++ z).cps.toList.drop (HT.sIx (("-" : Str) ++ z).length 0 (some 1))).take (HT.sIx (("-" : Str) ++ z).length (("-" : Str) ++ z).length none - HT.sIx (("-" : Str) ++ z).length 0 (some 1))).toArray.toList = _
  have l : (("-" : Str) ++ z).length = z.length + 1 := by
    show (_ ++ _ : Array Nat).size = _
    rw [Array.size_append]
    exact Nat.add_comm 1 z.cps.size
  have e1 : HT.sIx (("-" : Str) ++ z).length 0 (some 1) = 1 := by
    rw [l, show (1 : Int) = ((1 : Nat) : Int) from rfl, HT.sIx_nat]
    omega
  have e2 : HT.sIx (("-" : Str) ++ z).length (("-" : Str) ++ z).length none = z.length + 1 := by
    rw [l]
    rfl
  rw [e1, e2, List.toList_toArray]
  have e3 : (("-" : Str) ++ z).cps.toList = 45 :: z.cps.toList := TL.tl_append _ _
  rw [e3, List.drop_one, List.tail_cons, List.take_of_length_le]
  have a1 : z.cps.toList.length = z.cps.size := Array.length_toList
  exact Nat.le_of_eq a1
theorem fa_word {s : Str} {f : Int} (hs : s.length ≤ 8) (h : Fa99 f) : (Fm.wordS s f).length ≤ 1930 := word_len hs (Nat.lt_of_lt_of_le h.le (Nat.pow_le_pow_right (by decide) (by decide)))
theorem big110 : (2 : Nat) ^ 110 < 10 ^ 34 := by decide +kernel
theorem abs110 {f : Int} (h : f.natAbs < 2 ^ 110) : Fm.absI f < 10 ^ 34 := by
  have k := Nat.lt_trans h big110
  have e : Fm.absI f = (f.natAbs : Int) := by
    unfold Fm.absI
    split <;> omega
  rw [e]
  exact_mod_cast k
theorem fa_num {f : Int} (h : Fa99 f) : (Fm.numS f).length ≤ 640 := Nat.le_trans (toString_length_le (v := Fm.absI f) (k := 34) (Fm.absI_nonneg f) (by decide) (abs110 h.le)) (by decide)
open PySem.NumText in
theorem num_readB {f : Int} (h : Fa99 f) : PySem.intText? (Fm.numS f) = some (Fm.absI f) := by
  have ll := fa_num h
  unfold Fm.numS at ll ⊢
  obtain ⟨m, em⟩ := Int.eq_ofNat_of_zero_le (Fm.absI_nonneg f)
  rw [em] at ll ⊢
  have sg := PySem.W.KIN.signs_num m
  have dg : AllDigits (Str.ofString (toString ((m : Nat) : Int))).cps.toList := fun c hc => by
    rw [sg] at hc
    obtain ⟨d, hd, rfl⟩ := List.mem_map.mp hc
    exact digit_range (Nat.isDigit_of_mem_toDigits (by decide) (by decide) hd)
  have ne : (Str.ofString (toString ((m : Nat) : Int))).cps.toList ≠ [] := fun e => by
    rw [sg] at e
    have := Nat.length_toDigits_pos (b := 10) (n := m)
    rw [List.map_eq_nil_iff.mp e] at this
    exact absurd this (by decide)
  rw [intText_digits dg ne (Nat.le_trans ll (by decide)), sg, PySem.W.KIN.val_back]
/-- the word with its sign if b -/
def wrdB (b : Bool) (s : Str) (f : Int) : Str := if b = true then Fm.sgn1 f ++ Fm.wordS s f else Fm.wordS s f
theorem wrd_starts {s : Str} (h : Fm.SyOk s) (b : Bool) (f : Int) : Txt.startswith (wrdB b s f) "-" = (b && decide (f < 0)) := by
  cases b with
  | true => exact starts_sgn h f
  | false => exact starts_word h f
theorem wrd_neg {s : Str} {b : Bool} {f : Int} (h : (b && decide (f < 0)) = true) : wrdB b s f = ("-" : Str) ++ Fm.wordS s f := by
  obtain ⟨h1, h2⟩ := Bool.and_eq_true_iff.mp h
  have h2 := of_decide_eq_true h2
  subst h1
  show Fm.sgn1 f ++ Fm.wordS s f = _
  rw [show Fm.sgn1 f = "-" from if_pos h2]
theorem wrd_pos {s : Str} {b : Bool} {f : Int} (h : (b && decide (f < 0)) = false) : wrdB b s f = Fm.wordS s f := by
  cases b with
  | false => rfl
  | true =>
    have h2 : ¬ f < 0 := of_decide_eq_false h
    show Fm.sgn1 f ++ Fm.wordS s f = _
    rw [show Fm.sgn1 f = "" from if_neg h2]
    exact empty_app _
theorem lenapp {a b : Str} : (a ++ b).length = a.length + b.length := by
  show (_ ++ _ : Array Nat).size = _
  rw [Array.size_append]
  rfl
theorem wrd_len {s : Str} {f : Int} (b : Bool) (hs : s.length ≤ 8) (h : Fa99 f) : (wrdB b s f).length ≤ 1931 := by
  have := fa_word hs h
  unfold wrdB
  split
  · rw [lenapp]
    have : (Fm.sgn1 f).length ≤ 1 := by
      unfold Fm.sgn1
      split <;> decide
    omega
  · omega
/-- the word of a term, with or without its sign -/
def spTerm : Sp := fun vs H Q _ => ∃ (s : Str) (f : Int) (b : Bool), vs = [.str (wrdB b s f)] ∧ s.length ≤ 8 ∧ Fm.SyOk s ∧ (Tr.str s).sym = true ∧ Fa99 f ∧
  ∀ p H', Same H H' → H' p = some (.tup [.str s, .int (if b = true then f else Fm.absI f)]) → Q (.ref p) H'
section
variable {P : Program} {w : World} {K : PySem.W.Frag} {mg : Str → Option Value} {base : Heap} {C : Addr}
theorem ok_number {f : Addr} {fd : FuncData} (F : Fun K "number_in_text" "number_in_text" s_number_in_text f fd) (T : Ta mg) : FnG P w K mg base 1 f fd ["digits"] spNum := by
  refine okG F sc_number_in_text (fun vs H Q E h => ?_) (fun cdv A outer s H vs Q hr h => ?_)
  · obtain ⟨z, n, rfl, _⟩ := h
    rfl
  · obtain ⟨z, n, rfl, hz, hl, k⟩ := h
    refine ⟨_, (pss_one (ps_try_thru0 (pss_one (ps_ret (pe_callTy call_int_str (by rfl) T.b_int (by decide +kernel) (pa_cons (pv 0) pa_nil)))))), ?_⟩
    exact ⟨_, rfl, z, n, rfl, hz, hl, k⟩
theorem ok_term {f : Addr} {fd : FuncData} (F : Fun K "_term_in_text" "_term_in_text" s__term_in_text f fd) (T : Ta mg) (c_number_in_text : Cal P w K mg base 1 "number_in_text" ["digits"] spNum) (c_is_symbol : Cal P w K mg base 2 "is_symbol" ["value"] (spB K Tr.sym)) : FnG P w K mg base 3 f fd ["word"] spTerm := by
  refine okG F sc__term_in_text (fun vs H Q E h => ?_) (fun cdv A outer s H vs Q hr h => ?_)
  · obtain ⟨z, f, b, rfl, _⟩ := h
    rfl
  · obtain ⟨z, f, b, rfl, hl, ok, sy, fa, k⟩ := h
    refine ⟨_, (pss_cons (ps_set (i := 1) sc__term_in_text.nd rfl (by first | exact .inl rfl | exact .inr rfl) pe_int)
  (pss_cons (ps_mid (ps_if (pt_val (pe_bm PySem.F.plainAttrs_str PySem.F.slot_str_startswith PySem.F.type_str_startswith mt_startswith (pv 0) (pa_cons pe_str pa_nil)))
    (pss_cons (ps_set (i := 1) sc__term_in_text.nd rfl (by first | exact .inl rfl | exact .inr rfl) (pe_un un_neg pe_int))
  (pss_one (ps_set (i := 0) sc__term_in_text.nd rfl (by first | exact .inl rfl | exact .inr rfl) (pe_slice sl_str (pv 0) (po_some pe_int) po_none))))
    pss_nil))
  (pss_cons (ps_asg (pe_rpartition (pv 0) pe_str) (pg_tup rfl (pgs_cons (pg_name (i := 2) sc__term_in_text.nd rfl (by first | exact .inl rfl | exact .inr rfl)) (pgs_cons (pg_name (i := 3) sc__term_in_text.nd rfl (by first | exact .inl rfl | exact .inr rfl)) (pgs_cons (pg_name (i := 4) sc__term_in_text.nd rfl (by first | exact .inl rfl | exact .inr rfl)) pgs_nil)))))
  (pss_cons (ps_set (i := 5) sc__term_in_text.nd rfl (by first | exact .inl rfl | exact .inr rfl) (pe_mid (pe_ifExp (pt_truth (pv 3) (by intro _; rfl)) (pe_c c_number_in_text hr (by decide) rfl (pa_cons (pv 2) pa_nil)) pe_int)))
  (pss_cons (ps_if (PW.pt (pw_or (pt_cmpR op_isN (pv 5) pe_non (nomark _)) (pw_or1 (pt_not (pt_val (pe_c c_is_symbol hr (by decide) rfl (pa_cons (pv 4) pa_nil)))))))
    (pss_one (ps_ret (pe_tupS (pa_cons pe_non (pa_cons pe_int pa_nil)))))
    pss_nil)
  (pss_one (ps_ret (pe_tupS (pa_cons (pv 4) (pa_cons (pe_op op_mulW (pv 1) (pv 5)) pa_nil)))))))))), ?_⟩
    have wl := fa_word hl fa
    have ww := wrd_len b hl fa
    have st := wrd_starts ok b f
    have big : ∀ {n : Nat}, n ≤ 2000 → n ≤ sizeLine := fun h => Nat.le_trans h (by decide)
    obtain ⟨c, hc⟩ : ∃ c, c = (b && decide (f < 0)) := ⟨_, rfl⟩
    rw [← hc] at st
    have hval : (if c = true then (-1 : Int) else 1) * Fm.absI f = if b = true then f else Fm.absI f := by
      rw [hc]
      unfold Fm.absI
      cases b <;> by_cases g : f < 0 <;> simp [g] <;> omega
    -- behind the sign
    refine ⟨fun σ' H' => H' = H ∧ σ' = [some (.str (Fm.wordS z f)), some (.int (if c = true then -1 else 1)), none, none, none, none], ?_, ?_⟩
    · refine ⟨_, rfl, rfl, _, _, rfl, rfl, _, rfl, ?_⟩
      rw [st]
      cases c with
      | true =>
        rw [wrd_neg hc.symm]
        refine iteT ⟨_, rfl, _, rfl, _, rfl, _, rfl, big ?_, rfl, ?_⟩
        · rw [lenapp]
          show 1 + _ ≤ _
          omega
        · rw [cut1]
          rfl
      | false =>
        rw [wrd_pos hc.symm]
        exact iteF ⟨rfl, rfl⟩
    · rintro σ' H' ⟨rfl, rfl⟩
      refine ⟨_, rfl, ⟨_, rfl⟩, _, _, rfl, rfl, rfl, big (by omega), fun p np => ?_⟩
      have s1 : Same H' (upd H' p (.tup [.str (Txt.rpartition (Fm.wordS z f) "*").1, .str (Txt.rpartition (Fm.wordS z f) "*").2.1, .str (Txt.rpartition (Fm.wordS z f) "*").2.2])) := Same.new np
      refine ⟨p, _, rfl, SqT.of upd_same, rfl, _, _, rfl, _, _, rfl, _, _, rfl, rfl, ?_⟩
      generalize upd H' p (.tup [.str (Txt.rpartition (Fm.wordS z f) "*").1, .str (Txt.rpartition (Fm.wordS z f) "*").2.1, .str (Txt.rpartition (Fm.wordS z f) "*").2.2]) = H1 at s1 ⊢
      rw [Fm.word_rpart ok f]
      have hz : z.length ≤ 1000 := by omega
      refine ⟨fun v H2 => v = .int (Fm.absI f) ∧ H2 = H1, ?_, ?_⟩
      · by_cases g : Fm.absI f = 1
        · rw [if_pos g, g]
          exact ⟨_, rfl, false, ⟨Nat.zero_le _, rfl⟩, iteF ⟨rfl, rfl⟩⟩
        · rw [if_neg g]
          exact ⟨_, rfl, true, ⟨(show (("*" : Str).length ≤ sizeLine) by decide), rfl⟩, iteT ⟨_, rfl, Fm.numS f, Fm.absI f, rfl, num_readB fa, fa_num fa, rfl, rfl⟩⟩
      · rintro v H2 ⟨rfl, rfl⟩
        have e3 : (if Fm.absI f = 1 then ((Str.empty, Str.empty, z) : Str × Str × Str) else (Fm.numS f, "*", z)).2.2 = z := by split <;> rfl
        rw [e3]
        refine ⟨_, rfl, rfl, _, rfl, ite2 (fun h => absurd (of_decide_eq_true h) (by simp)) fun _ => ⟨_, rfl, .str z, .str z, rfl, .str z hz, fun H3 s3 => ⟨_, rfl, ?_⟩⟩⟩
        rw [sy]
        refine iteF ⟨_, rfl, _, rfl, _, rfl, _, _, rfl, rfl, ?_, (by show 2 ≤ sizeLine; decide), fun q H4 n4 s4 h4 => k q H4 (s1.trans (s3.trans s4)) ?_⟩
        · refine wide_mul (a := 2) (b := 110) ?_ ?_ (by decide) (by decide) (by decide)
          · split <;> decide
          · have := fa.le
            have e : (Fm.absI f).natAbs = f.natAbs := by
              unfold Fm.absI
              split <;> omega
            rw [e]
            exact this
        · rw [← hval]
          exact h4
end
end Lw

/-! ## FmG -/
set_option maxHeartbeats 1000000
namespace Lw
open PySem PySem.Spec PyProof.Rows L2
open Fm (cf Asc Nm)
abbrev s_form_in_text : Stmt := topS 28
abbrev n_form_in_text : List Str := ["text", "words", "factors", "at", "symbol", "factor", "minus"]
theorem sc_form_in_text : FnScope n_form_in_text ["text"] (defScope s_form_in_text) := ⟨rfl, rfl, rfl, by decide +kernel, rfl, by decide +kernel, by decide +kernel⟩
theorem wrds_get : ∀ (ts : Tms) (i : Nat) (q : Str × Int), ts[i]? = some q → (Fm.wrds ts)[2 * i]? = some (if q.2 < 0 then ("-" : Str) else "+") ∧ (Fm.wrds ts)[2 * i + 1]? = some (Fm.wordS q.1 q.2)
  | [], _, _, h => nomatch h
  | p :: r, 0, q, h => by
    cases h
    exact ⟨rfl, rfl⟩
  | p :: r, i + 1, q, h => wrds_get r i q h
theorem wrds_len : ∀ ts : Tms, (Fm.wrds ts).length = 2 * ts.length
  | [] => rfl
  | p :: r => by
    show (Fm.wrds r).length + 1 + 1 = _
    rw [wrds_len r, List.length_cons]
    omega
theorem words_len {p : Str × Int} {r : Tms} : (Fm.words (p :: r)).length = 2 * (p :: r).length - 1 := by
  show (Fm.wrds r).length + 1 = _
  rw [wrds_len, List.length_cons]
  omega
theorem words_get {p : Str × Int} {r : Tms} {i : Nat} {q : Str × Int} (h : (p :: r)[i]? = some q) : (Fm.words (p :: r))[2 * i]? = some (wrdB (decide (i = 0)) q.1 q.2) ∧ (0 < i → (Fm.words (p :: r))[2 * i - 1]? = some (if q.2 < 0 then ("-" : Str) else "+")) := by
  cases i with
  | zero =>
    cases h
    exact ⟨rfl, fun h => absurd h (by decide)⟩
  | succ i =>
    obtain ⟨h1, h2⟩ := wrds_get r i q h
    exact ⟨h2, fun _ => h1⟩
theorem sumlen : ∀ zs : List Str, ((zs.map TL.tl).flatten).length = (zs.map (·.length)).sum
  | [] => rfl
  | z :: r => by
    rw [List.map_cons, List.flatten_cons, List.length_append, sumlen r]
    rfl
theorem text_len {ts : Tms} (b : Bd 60 1000 ts) (sy : SyB ts) : (Fm.textS ts).length ≤ 231601 := by
  rw [← Fm.shown_text (ts := ts) fun q m => (sy q m).2.ne, Fm.shownS]
  split
  · decide
  · have h := pcs_sum b sy
    rw [← sumlen, ← Fm.joinE ""] at h
    exact Nat.le_trans h (by decide)
theorem atI_nat {α : Type} {xs : List α} {i : Nat} {x : α} (h : xs[i]? = some x) : atI xs (i : Int) = some x := by
  have hi := (List.getElem?_eq_some_iff.mp h).1
  unfold atI ixN
  rw [if_pos (by omega), if_pos (by omega)]
  exact h
theorem rg2 {n : Nat} (h0 : 0 < n) (h : n < 1000) : RgC 0 ((2 * n - 1 : Nat) : Int) 2 n := by
  refine ⟨by decide, by decide, ?_, ?_⟩
  · exact (by decide : ∀ n : Fin 1000, 0 < n.val → Builtin.Range.small 0 ((2 * n.val - 1 : Nat) : Int) 2 = true) ⟨n, h⟩ h0
  · unfold Builtin.Range.rangeSize
    rw [if_pos (by decide), if_pos (by omega)]
    omega
theorem take_put {us : Tms} (hn : (us.map (·.1)).Nodup) {i : Nat} {q : Str × Int} (h : us[i]? = some q) : putE (us.take i) q.1 q.2 = us.take (i + 1) := by
  unfold putE
  rw [if_neg (take_nin (s := q.1) (f := q.2) hn h), List.take_add_one, h]
  rfl
theorem Rd99.bd {ts : Tms} (h : Rd99 ts) {k : Nat} (l : ts.length ≤ k) : Bd k 1000 ts := ⟨l, fun q m => Nat.lt_of_lt_of_le (h q m).2.2.le (Nat.pow_le_pow_right (by decide) (by decide))⟩
theorem Rd99.sy {ts : Tms} (h : Rd99 ts) : SyB ts := fun q m => (h q m).1
/-- the text of a form, read -/
def spIn (C : Addr) : Sp := fun vs H Q _ => ∃ (ts : Tms), vs = [.str (Fm.textS ts)] ∧ Nm ts ∧ Rd99 ts ∧ ts.length ≤ 20 ∧ ∀ a H', Same H H' → FormAt C H' a ts → Q (.ref a) H'
section
variable {P : Program} {w : World} {K : PySem.W.Frag} {mg : Str → Option Value} {base : Heap} {C : Addr}
theorem ok_form_in_text {f : Addr} {fd : FuncData} (F : Fun K "form_in_text" "form_in_text" s_form_in_text f fd) (T : Ta mg) (C0 : Fc K mg C) (M_new : Mk0 P w K mg base 3 "Form" C (fun vs H Q E => vs.length = ["self"].length ∧ ∀ d, H d = none → spInit0 C (vs ++ [V.ref d]) (upd H d (.dK [])) Q E0))
    (c__term_in_text : Cal P w K mg base 3 "_term_in_text" ["word"] spTerm) (c_form_of : Cal P w K mg base 5 "form_of" ["factors"] (spFormOf C)) : FnG P w K mg base 6 f fd ["text"] (spIn C) := by
  refine okG F sc_form_in_text (fun vs H Q E h => ?_) (fun cdv A outer s H vs Q hr h => ?_)
  · obtain ⟨ts, rfl, _⟩ := h
    rfl
  · obtain ⟨ts, rfl, nm, rd, lt, k⟩ := h
    refine ⟨_, (pss_cons (ps_if (pt_cmpR op_eq (pv 0) pe_str (nomark _))
    (pss_one (ps_ret (pe_new0 M_new hr (by decide) rfl)))
    pss_nil)
  (pss_cons (ps_set (i := 1) sc_form_in_text.nd rfl (by first | exact .inl rfl | exact .inr rfl) (pe_split (pv 0) pe_str))
  (pss_cons (ps_set (i := 2) sc_form_in_text.nd rfl (by first | exact .inl rfl | exact .inr rfl) pe_dnewK)
  (pss_cons (ps_for PassesOwn.never rfl (pi_range3 rfl T.b_range (pa_cons pe_int (pa_cons (pe_callB call_len_seq (by rfl) T.b_len (by decide +kernel) (pa_cons (pv 1) pa_nil)) (pa_cons pe_int pa_nil)))) (pg_name (i := 3) sc_form_in_text.nd rfl (by first | exact .inl rfl | exact .inr rfl))
    (pss_cons (ps_asg (pe_c c__term_in_text hr (by decide) rfl (pa_cons (pe_ix ix_list (pv 1) (pv 3) (fun _ _ => rfl)) pa_nil)) (pg_tup rfl (pgs_cons (pg_name (i := 4) sc_form_in_text.nd rfl (by first | exact .inl rfl | exact .inr rfl)) (pgs_cons (pg_name (i := 5) sc_form_in_text.nd rfl (by first | exact .inl rfl | exact .inr rfl)) pgs_nil))))
  (pss_cons (ps_if (pt_cmpR op_isN (pv 4) pe_non (nomark _))
    (pss_one (ps_ret pe_non))
    pss_nil)
  (pss_cons (ps_set (i := 6) sc_form_in_text.nd rfl (by first | exact .inl rfl | exact .inr rfl) (pe_mid (pe_and (pe_cmpR op_gt (pv 3) pe_int (nomark _)) (pe_one (pe_cmpR op_eq (pe_ix ix_list (pv 1) (pe_op op_sub (pv 3) pe_int) (fun _ _ => rfl)) pe_str (nomark _))))))
  (pss_one (ps_dput (hu_of hr.rm) (pv 2) (pv 4) (pe_mid (pe_ifExp (pt_val (pv 6)) (pe_un un_neg (pv 5)) (pv 5))) rfl))))))
  (pss_one (ps_ret (pe_c c_form_of hr (by decide) rfl (pa_cons (pv 2) pa_nil)))))))), ?_⟩
    have tlen := text_len (rd.bd (k := 60) (by omega)) rd.sy
    have nd := asc_nodup nm.asc
    cases hts : ts with
    | nil =>
      subst hts
      rw [Fm.text_nil]
      refine ⟨_, rfl, rfl, _, rfl, iteT ?_⟩
      refine fun x dx hx hdx hne => ⟨rfl, fun d0 hd0 => ⟨x, d0, dx, rfl, upd_same, ?_, fun H1 t0 u0 s0 hx1 ht0 hu0 => ⟨rfl, ?_⟩⟩⟩
      · have : x ≠ d0 := fun e => by rw [← e, upd_same] at hd0; cases hd0
        rw [upd_ne this, upd_same]
      · have sH : Same H H1 := fun b o e => by
          have n1 : b ≠ x := ne_of_none e hx
          have n2 : b ≠ dx := ne_of_none e hdx
          have e2 : upd (upd H dx (.own x)) x (.ins C dx []) b = some o := by rw [upd_ne n1, upd_ne n2]; exact e
          have n3 : b ≠ d0 := ne_of_none e2 hd0
          exact s0 b o n1 (by rw [upd_ne n3]; exact e2)
        exact k x H1 sH ⟨dx, t0, u0, hx1, ht0, hu0⟩
    | cons q0 r =>
      subst hts
      have ok : ∀ q ∈ q0 :: r, Fm.SyOk q.1 := fun q m => (rd q m).1.2
      have hz := Fm.text_zero ok
      have hsp := Fm.split_words ok
      refine ⟨_, rfl, rfl, _, rfl, ite2 (fun h => absurd (of_decide_eq_true h) fun e => hz (V.str.inj e)) fun _ => ?_⟩
      refine ⟨_, rfl, ⟨_, rfl⟩, _, _, rfl, rfl, rfl, Nat.le_trans (Nat.add_le_add_right tlen 2) (by decide), fun p np => ?_⟩
      rw [hsp]
      refine fun d hd => ?_
      have n : d ≠ p := fun e => by rw [e, upd_same] at hd; cases hd
      have s1 : Same H (upd (upd H p (.lst ((Fm.words (q0 :: r)).map V.str))) d (.dK [])) := (Same.new np).trans (Same.new hd)
      have hp1 : upd (upd H p (.lst ((Fm.words (q0 :: r)).map V.str))) d (.dK []) p = some (.lst ((Fm.words (q0 :: r)).map V.str)) := by rw [upd_ne (Ne.symm n), upd_same]
      have hd1 : upd (upd H p (.lst ((Fm.words (q0 :: r)).map V.str))) d (.dK []) d = some (.dK []) := upd_same
      have fr : ∀ b o, H b = some o → b ≠ d := fun b o e n => by
        subst n
        have := (Same.new np (o := .lst ((Fm.words (q0 :: r)).map V.str))) _ _ e
        rw [hd] at this
        cases this
      generalize upd (upd H p (.lst ((Fm.words (q0 :: r)).map V.str))) d (.dK []) = H1 at s1 hp1 hd1 ⊢
      refine ⟨_, rfl, p, _, rfl, .inl (SqL.of hp1), 0, _, 2, (q0 :: r).length, rfl, by rw [List.length_map, words_len]; exact rg2 (Nat.succ_pos _) (by omega), for_it (walk_rangeC (lo := 0) (c := 2)) (fun i σ H' => ∃ x3 x4 x5 x6, σ = [some (.str (Fm.textS (q0 :: r))), some (.ref p), some (.ref d), x3, x4, x5, x6] ∧ Same H H' ∧ H' p = some (.lst ((Fm.words (q0 :: r)).map V.str)) ∧ H' d = some (.dK (((q0 :: r).take i).map entK)))
        ⟨_, _, _, _, rfl, s1, hp1, hd1⟩ (fun _ _ _ _ _ => True.intro) ?_ ?_⟩
      · rintro i x σ H2 H3 hi ⟨x3, x4, x5, x6, rfl, s2, hp2, hd2⟩ y
        obtain ⟨rfl, rfl⟩ := y
        obtain ⟨q, hq⟩ : ∃ q, (q0 :: r)[i]? = some q := ⟨_, List.getElem?_eq_getElem hi⟩
        obtain ⟨w1, w2⟩ := words_get hq
        have hm : q ∈ q0 :: r := List.mem_of_getElem? hq
        obtain ⟨⟨l8, sok⟩, ssy, sfa⟩ := rd q hm
        obtain ⟨z, g⟩ := q
        refine ⟨_, rfl, _, rfl, p, _, ((2 * i : Nat) : Int), .str (wrdB (decide (i = 0)) z g), rfl, by show V.int (0 + (i : Nat) * 2) = _; rw [show (0 : Int) + (i : Nat) * 2 = ((2 * i : Nat) : Int) by omega], SqL.of hp2, atI_nat (by rw [List.getElem?_map, w1]; rfl), ?_⟩
        refine ⟨z, g, decide (i = 0), rfl, l8, sok, ssy, sfa, fun t H4 s3 ht => ?_⟩
        refine ⟨t, _, rfl, SqT.of ht, rfl, _, _, rfl, _, _, rfl, rfl, ?_⟩
        refine ⟨_, rfl, rfl, _, rfl, ite2 (fun h => absurd (of_decide_eq_true h) (by simp)) fun _ => ?_⟩
        refine ⟨fun v H2 => v = .bl (decide (0 < i) && decide (g < 0)) ∧ H2 = H4, ?_, ?_⟩
        · refine ⟨_, rfl, _, _, rfl, rfl, _, rfl, ?_⟩
          rw [show decide ((0 : Int) < 0 + (i : Nat) * 2) = decide (0 < i) from decide_eq_decide.mpr (by omega)]
          cases Nat.eq_zero_or_pos i with
          | inl e =>
            subst e
            exact iteF ⟨rfl, rfl⟩
          | inr e =>
            rw [decide_eq_true e]
            refine iteT ⟨_, rfl, _, rfl, _, _, rfl, rfl, _, _, ((2 * i - 1 : Nat) : Int), .str (if g < 0 then "-" else "+"), rfl, ?_, SqL.of (s3 _ _ hp2), atI_nat (by rw [List.getElem?_map, w2 e]; rfl), ?_⟩
            · show V.int (0 + (i : Nat) * 2 - 1) = _
              rw [show (0 : Int) + (i : Nat) * 2 - 1 = ((2 * i - 1 : Nat) : Int) by omega]
            · refine ⟨rfl, ?_, rfl⟩
              by_cases hg : g < 0
              · rw [if_pos hg, decide_eq_true hg]
                rfl
              · rw [if_neg hg, decide_eq_false hg]
                rfl
        · rintro v H5 ⟨rfl, rfl⟩
          refine ⟨fun v H2 => v = .int g ∧ H2 = H5, ?_, ?_⟩
          · refine ⟨_, rfl, _, rfl, ite2 (fun h => ?_) fun h => ?_⟩
            · have h := Bool.and_eq_true_iff.mp h
              have h1 := of_decide_eq_true h.1
              have h2 := of_decide_eq_true h.2
              refine ⟨_, rfl, _, rfl, ?_, rfl⟩
              show V.int (-(if decide (i = 0) = true then g else Fm.absI g)) = _
              rw [if_neg (by simp; omega), show Fm.absI g = -g from if_pos h2]
              rw [Int.neg_neg]
            · refine ⟨_, rfl, ?_, rfl⟩
              by_cases e : i = 0
              · rw [if_pos (decide_eq_true e)]
              · rw [if_neg (by simpa using e), show Fm.absI g = g from if_neg fun c => h (by rw [decide_eq_true (Nat.pos_of_ne_zero e), decide_eq_true c]; rfl)]
          · rintro v H6 ⟨rfl, rfl⟩
            refine ⟨_, rfl, _, rfl, d, _, rfl, DPut.k (k := Sum.inr z) (s3 _ _ hd2) ?_, ?_⟩
            · rw [List.length_map, List.length_take]
              exact Nat.lt_of_le_of_lt (show _ ≤ 20 by omega) (by decide)
            · refine ⟨_, _, _, _, rfl, fun b o e => ?_, ?_, ?_⟩
              · rw [upd_ne (fr b o e)]
                exact s3 _ _ (s2 _ _ e)
              · rw [upd_ne (fun e => by rw [e, hd2] at hp2; cases hp2)]
                exact s3 _ _ hp2
              · rw [upd_same, put_ent, take_put nd hq]
      · rintro σ H2 ⟨x3, x4, x5, x6, rfl, s2, hp2, hd2⟩
        rw [List.take_length] at hd2
        exact ⟨_, rfl, d, q0 :: r, rfl, hd2, nd, by omega, fun a H3 ts' s3 hf nm' hc _ => by
          have := Fm.nm_ext nm' nm hc
          subst this
          exact k a H3 (s2.trans s3) hf⟩
end
end Lw

/-! ## FmH -/
set_option maxHeartbeats 1000000
namespace Lw
open PySem PySem.Spec PyProof.Rows L2
open Fm (cf Asc Nm)
abbrev s_read_form : Stmt := topS 24
abbrev n_read_form : List Str := ["text", "form"]
theorem sc_read_form : FnScope n_read_form ["text"] (defScope s_read_form) := ⟨rfl, rfl, rfl, by decide +kernel, rfl, by decide +kernel, by decide +kernel⟩
abbrev s_Form_read : Stmt := inClass (topS 23) 1
abbrev n_Form_read : List Str := ["text"]
theorem sc_Form_read : FnScope n_Form_read ["text"] (defScope s_Form_read) := ⟨rfl, rfl, rfl, by decide +kernel, rfl, by decide +kernel, by decide +kernel⟩
abbrev s_Form_factor : Stmt := inClass (topS 23) 2
abbrev n_Form_factor : List Str := ["self", "symbol", "own", "many"]
theorem sc_Form_factor : FnScope n_Form_factor ["self", "symbol"] (defScope s_Form_factor) := ⟨rfl, rfl, rfl, by decide +kernel, rfl, by decide +kernel, by decide +kernel⟩
abbrev s_Form_eq : Stmt := inClass (topS 23) 8
abbrev n_Form_eq : List Str := ["self", "other"]
theorem sc_Form_eq : FnScope n_Form_eq ["self", "other"] (defScope s_Form_eq) := ⟨rfl, rfl, rfl, by decide +kernel, rfl, by decide +kernel, by decide +kernel⟩
abbrev s_Form_repr : Stmt := inClass (topS 23) 10
abbrev n_Form_repr : List Str := ["self"]
theorem sc_Form_repr : FnScope n_Form_repr ["self"] (defScope s_Form_repr) := ⟨rfl, rfl, rfl, by decide +kernel, rfl, by decide +kernel, by decide +kernel⟩
/-- the factor of any value -/
def cfT (ts : Tms) : Tr → Int | .str z => cf ts z | _ => 0
def spFactor (K : PySem.W.Frag) (C : Addr) : Sp := fun vs H Q _ => ∃ (a : Addr) (v : V) (t : Tr) (ts : Tms), vs = [.ref a, v] ∧ FormAt C H a ts ∧ ts.length ≤ 60 ∧ TrIs K H v t ∧ Q (.int (cfT ts t)) H
/-- equal forms: normal ones, by their terms -/
def spEq (C : Addr) : Sp := fun vs H Q _ => ∃ (a : Addr) (y : V) (ts : Tms), vs = [.ref a, y] ∧ FormAt C H a ts ∧ ts.length ≤ 60 ∧ (∀ q ∈ ts, PyData.strOk q.1 = true) ∧ ((∃ b us, y = .ref b ∧ FormAt C H b us ∧ us.length ≤ 60 ∧ (∀ q ∈ us, PyData.strOk q.1 = true) ∧ Q (.bl (decide (ts = us))) H) ∨ (((∃ z, y = .str z) ∨ ∃ i, y = .int i) ∧ Q (.bl false) H))
def reprF (ts : Tms) : Str := ((Str.empty ++ Str.ofString "Form(") ++ Fm.textS ts) ++ Str.ofString ")"
def spReprF (C : Addr) : Sp := fun vs H Q _ => ∃ (a : Addr) (ts : Tms), vs = [.ref a] ∧ FormAt C H a ts ∧ Bd 60 1000 ts ∧ SyB ts ∧ ∀ H', Same H H' → Q (.str (reprF ts)) H'
theorem cf_take_none {ts : Tms} {z : Str} : ∀ {i : Nat}, (∀ q ∈ ts.take i, q.1 ≠ z) → ∀ {q : Str × Int}, ts[i]? = some q → q.1 = z → cf ts z = q.2 := by
  induction ts with
  | nil => intro i _ q h; simp at h
  | cons p r ih =>
    intro i hn q h e
    obtain ⟨t, f⟩ := p
    cases i with
    | zero =>
      simp at h
      subst h
      exact if_pos e
    | succ i =>
      have : t ≠ z := hn (t, f) (by rw [List.take_succ_cons]; exact List.mem_cons_self)
      rw [show cf ((t, f) :: r) z = cf r z from if_neg this]
      exact ih (i := i) (fun q m => hn q (by rw [List.take_succ_cons]; exact List.mem_cons_of_mem _ m)) (by simpa using h) e
def pairD (q : Str × Int) : PyData := .tuple [.str q.1, .int q.2]
def termsD (ts : Tms) : PyData := .tuple (ts.map pairD)
theorem prs_dp {K : PySem.W.Frag} {H : Hp} : ∀ {ps : List Addr} {ts : Tms}, Prs H ps ts → DpAll K H (ps.map V.ref) (ts.map pairD)
  | _, _, .nil => .nil
  | _, _, .cons h r => .cons (.tup (SqT.of h) (.cons (.str _) (.cons (.int _) .nil))) (prs_dp r)
theorem eqv_terms : ∀ ts us : Tms, PyData.eqvAll (ts.map pairD) (us.map pairD) = decide (ts = us)
  | [], [] => rfl
  | [], _ :: _ => rfl
  | _ :: _, [] => rfl
  | (s, f) :: r, (z, g) :: r2 => by
    show ((s == z && (f == g && true)) && PyData.eqvAll (r.map pairD) (r2.map pairD)) = _
    rw [eqv_terms r r2, Bool.and_true, Bool.eq_iff_iff]
    simp [and_assoc]
theorem lay_terms : ∀ {ts : Tms}, (∀ q ∈ ts, PyData.strOk q.1 = true) → PyData.canLayAll0 (ts.map pairD) = true
  | [], _ => rfl
  | (s, f) :: r, h => by
    show ((PyData.strOk s && (true && true)) && PyData.canLayAll0 (r.map pairD)) = true
    rw [h _ List.mem_cons_self, lay_terms fun q m => h q (List.mem_cons_of_mem _ m)]
    rfl
theorem dep_terms : ∀ ts : Tms, PyData.depthAll (ts.map pairD) ≤ 2
  | [] => by decide
  | (s, f) :: r => by
    have := dep_terms r
    simp only [List.map_cons, PyData.depthAll, pairD, PyData.depth] at this ⊢
    omega
theorem termsD_sh {ts : Tms} (h : ∀ q ∈ ts, PyData.strOk q.1 = true) (_ : ts.length ≤ 60) : SeqAt.shaped (termsD ts) = true := by
  have := dep_terms ts
  refine Bool.and_eq_true_iff.mpr ⟨lay_terms h, decide_eq_true ?_⟩
  simp only [termsD, PyData.depth]
  omega
section
variable {P : Program} {w : World} {K : PySem.W.Frag} {mg : Str → Option Value} {base : Heap} {C : Addr}
theorem ok_read_form {f : Addr} {fd : FuncData} (F : Fun K "read_form" "read_form" s_read_form f fd) (T : Ta mg) (C0 : Fc K mg C) (M_str : Mt P w K mg base 2 C "__str__" ["self"] (spStr C)) (c_form_in_text : Cal P w K mg base 6 "form_in_text" ["text"] (spIn C)) : FnG P w K mg base 7 f fd ["text"] (spIn C) := by
  refine okG F sc_read_form (fun vs H Q E h => ?_) (fun cdv A outer s H vs Q hr h => ?_)
  · obtain ⟨ts, rfl, _⟩ := h
    rfl
  · obtain ⟨ts, rfl, nm, rd, lt, k⟩ := h
    refine ⟨_, (pss_cons (ps_set (i := 1) sc_read_form.nd rfl (by first | exact .inl rfl | exact .inr rfl) (pe_mid (pe_ifExp (pt_val (pe_callB call_isi (by rfl) T.b_isinstance (by decide +kernel) (pa_cons (pv 0) (pa_cons (pe_bltn (v := .ty "str") rfl T.b_str (by decide +kernel) rfl) pa_nil)))) (pe_c c_form_in_text hr (by decide) rfl (pa_cons (pv 0) pa_nil)) pe_non)))
  (pss_cons (ps_if (PW.pt (pw_or (pt_cmpR op_isN (pv 1) pe_non (nomark _)) (pw_or1 (pt_cmpR op_ne (pe_callTy (call_strO M_str hr (by decide)) (by rfl) T.b_str (by decide +kernel) (pa_cons (pv 1) pa_nil)) (pv 0) (nomark _)))))
    (pss_one ps_dead)
    pss_nil)
  (pss_one (ps_ret (pv 1))))), ?_⟩
    have tlen := text_len (rd.bd (k := 60) (by omega)) rd.sy
    refine ⟨fun v H2 => ∃ a, v = .ref a ∧ Same H H2 ∧ FormAt C H2 a ts, ?_, ?_⟩
    · refine ⟨_, rfl, .str (Fm.textS ts), .ty "str", _, _, true, rfl, .ty "str", .base (.str _), (by decide +kernel : kitB "str" "str" = some true), true, rfl, iteT ?_⟩
      exact ⟨_, rfl, ts, rfl, nm, rd, lt, fun a H2 s2 ha => ⟨a, rfl, s2, ha⟩⟩
    · rintro v H2 ⟨a, rfl, s2, ha⟩
      refine ⟨_, rfl, rfl, _, rfl, ite2 (fun h => absurd (of_decide_eq_true h) (by simp)) fun _ => ?_⟩
      refine ⟨_, rfl, a, rfl, ha.is, a, ts, rfl, ha, rd.bd (by omega), rd.sy, fun H3 s3 => ⟨⟨_, rfl⟩, _, rfl, rfl, _, rfl, ?_⟩⟩
      rw [decide_eq_true rfl]
      exact iteF ⟨_, rfl, k a H3 (s2.trans s3) (ha.same s3)⟩
theorem ok_read {f : Addr} {fd : FuncData} (F : Fun K "read" "Form.read" s_Form_read f fd) (c_read_form : Cal P w K mg base 7 "read_form" ["text"] (spIn C)) : FnG P w K mg base 8 f fd ["text"] (spIn C) := by
  refine okG F sc_Form_read (fun vs H Q E h => ?_) (fun cdv A outer s H vs Q hr h => ?_)
  · obtain ⟨ts, rfl, _⟩ := h
    rfl
  · obtain ⟨ts, rfl, nm, rd, lt, k⟩ := h
    refine ⟨_, (pss_one (ps_ret (pe_c c_read_form hr (by decide) rfl (pa_cons (pv 0) pa_nil)))), ?_⟩
    exact ⟨_, rfl, ts, rfl, nm, rd, lt, fun a H2 s2 ha => k a H2 s2 ha⟩
theorem ok_factor {f : Addr} {fd : FuncData} (F : Fun K "factor" "Form.factor" s_Form_factor f fd) (T : Ta mg) (C0 : Fc K mg C) : FnG P w K mg base 1 f fd ["self", "symbol"] (spFactor K C) := by
  refine okG F sc_Form_factor (fun vs H Q E h => ?_) (fun cdv A outer s H vs Q hr h => ?_)
  · obtain ⟨a, v, t, ts, rfl, _⟩ := h
    rfl
  · obtain ⟨a, v, t, ts, rfl, ⟨dx, tt, u, ha, ⟨ps, ht, hp⟩, hu⟩, l1, h, k⟩ := h
    refine ⟨_, (pss_cons (ps_if (pt_not (pt_val (pe_callB call_isi (by rfl) T.b_isinstance (by decide +kernel) (pa_cons (pv 1) (pa_cons (pe_bltn (v := .ty "str") rfl T.b_str (by decide +kernel) rfl) pa_nil)))))
    (pss_one (ps_ret pe_int))
    pss_nil)
  (pss_cons (ps_for PassesOwn.never rfl (pi_tup (pe_fld (pv 0) rfl)) (pg_tup rfl (pgs_cons (pg_name (i := 2) sc_Form_factor.nd rfl (by first | exact .inl rfl | exact .inr rfl)) (pgs_cons (pg_name (i := 3) sc_Form_factor.nd rfl (by first | exact .inl rfl | exact .inr rfl)) pgs_nil)))
    (pss_one (ps_if (pt_cmpR op_eq (pv 2) (pv 1) (nomark _))
    (pss_one (ps_ret (pv 3)))
    pss_nil)))
  (pss_one (ps_ret pe_int)))), ?_⟩
    have lps := hp.len
    refine ⟨_, rfl, v, _, _, _, _, rfl, .ty _, h.tyx, kit_ty (kit_str t), _, rfl, ?_⟩
    cases h with
    | str z hz =>
      refine iteF ?_
      refine ⟨_, rfl, a, C, dx, _, _, rfl, ha, C0.cls, C0.nT, rfl, tt, rfl, ⟨_, ht.sq⟩, for_tup (K := K) (a := tt) (xs := ps.map V.ref) (fun i σ H' => (∃ (x2 x3 : Option V), σ = [some (.ref a), some (.str z), x2, x3]) ∧ H' = H ∧ ∀ q ∈ ts.take i, q.1 ≠ z)
        ⟨⟨_, _, rfl⟩, rfl, fun q m => (by simp at m)⟩ (fun i σ H' _ ⟨_, e, _⟩ => by rw [e]; exact ht.sq) ?_ ?_⟩
      · rintro i x σ H1 hx ⟨⟨x2, x3, rfl⟩, rfl, hn⟩
        obtain ⟨p, q, rfl, hq, hpq⟩ := hp.get hx
        refine ⟨p, _, rfl, SqT.of hpq, rfl, ?_⟩
        refine ⟨_, _, rfl, _, _, rfl, rfl, _, rfl, _, rfl, rfl, _, rfl, ite2 (fun he => ?_) fun he => ?_⟩
        · have he : q.1 = z := by simpa using he
          refine ⟨_, rfl, ?_⟩
          rw [show cfT ts (.str z) = q.2 from cf_take_none hn hq he] at k
          exact k
        · have he : ¬ q.1 = z := by simpa using he
          refine ⟨⟨_, _, rfl⟩, rfl, fun q' m => ?_⟩
          rw [List.take_add_one, hq] at m
          rcases List.mem_append.mp m with m | m
          · exact hn q' m
          · have e : q' = q := by simpa using m
            rw [e]
            exact he
      · rintro σ H1 ⟨_, rfl, hn⟩
        rw [List.length_map, lps, List.take_length] at hn
        rw [show cfT ts (.str z) = 0 from Fm.cf_none hn] at k
        exact k
    | _ => exact iteT k
theorem ok_eq {f : Addr} {fd : FuncData} (F : Fun K "__eq__" "Form.__eq__" s_Form_eq f fd) (T : Ta mg) (C0 : Fc K mg C) (E1 : FeQ K C) : FnG P w K mg base 1 f fd ["self", "other"] (spEq C) := by
  refine okG F sc_Form_eq (fun vs H Q E h => ?_) (fun cdv A outer s H vs Q hr h => ?_)
  · obtain ⟨a, y, ts, rfl, _⟩ := h
    rfl
  · obtain ⟨a, y, ts, rfl, ⟨dx, t, u, ha, ⟨ps, ht, hp⟩, hu⟩, l1, h⟩ := h
    refine ⟨_, (pss_one (ps_ret (pe_and (pe_callB (CallR.or (C8.call_isC C0.isc) call_isi) (by rfl) T.b_isinstance (by decide +kernel) (pa_cons (pv 1) (pa_cons (pe_gl (v := .ref C) rfl C0.g_Form) pa_nil))) (pe_one (pe_cmpR (op_eqD hr.units) (pe_fld (pv 0) rfl) (pe_fld (pv 1) rfl) (nomark _)))))), ?_⟩
    obtain ⟨so, h⟩ := h
    rcases h with ⟨b, us, rfl, ⟨dy, t2, u2, hb, ⟨qs, ht2, hq2⟩, hu2⟩, l2, so2, q⟩ | ⟨h, q⟩
    · refine ⟨_, rfl, .inl ⟨b, dy, _, rfl, hb, _, rfl, iteT ?_⟩⟩
      refine ⟨_, rfl, a, C, dx, _, _, rfl, ha, C0.cls, C0.nT, rfl, _, rfl, b, C, dy, _, _, rfl, hb, C0.cls, C0.nT, rfl, termsD ts, termsD us, .tup ht.sq (prs_dp hp), .tup ht2.sq (prs_dp hq2), termsD_sh so l1, termsD_sh so2 l2, ?_⟩
      rw [show PyData.eqv (termsD ts) (termsD us) = decide (ts = us) from eqv_terms ts us]
      exact q
    · refine ⟨_, rfl, .inr ⟨y, .ref C, ?_⟩⟩
      rcases h with ⟨z, rfl⟩ | ⟨i, rfl⟩
      · exact ⟨_, _, false, rfl, .own C, .base (.str z), E1.kstr, _, rfl, iteF q⟩
      · exact ⟨_, _, false, rfl, .own C, .base (.int i), E1.kint, _, rfl, iteF q⟩
theorem ok_repr {f : Addr} {fd : FuncData} (F : Fun K "__repr__" "Form.__repr__" s_Form_repr f fd) (T : Ta mg) (C0 : Fc K mg C) (M_str : Mt P w K mg base 2 C "__str__" ["self"] (spStr C)) : FnG P w K mg base 7 f fd ["self"] (spReprF C) := by
  refine okG F sc_Form_repr (fun vs H Q E h => ?_) (fun cdv A outer s H vs Q hr h => ?_)
  · obtain ⟨a, ts, rfl, _⟩ := h
    rfl
  · obtain ⟨a, ts, rfl, ha, b, sy, k⟩ := h
    refine ⟨_, (pss_one (ps_ret (pe_joined (PJ.cons pe_str (PJ.cons (pe_fmt (pe_callTy (call_strO M_str hr (by decide)) (by rfl) T.b_str (by decide +kernel) (pa_cons (pv 0) pa_nil))) (PJ.cons pe_str PJ.nil)))))), ?_⟩
    have tl := text_len b sy
    refine ⟨_, rfl, by decide, ?_⟩
    refine ⟨_, rfl, a, rfl, ha.is, a, ts, rfl, ha, b, sy, fun H2 s2 => ⟨⟨_, rfl⟩, ?_⟩⟩
    have l1 : ((Str.empty ++ Str.ofString "Form(") ++ Fm.textS ts).length ≤ 231606 := by
      rw [strLen_append]
      have : (Str.empty ++ Str.ofString "Form(").length = 5 := by decide
      omega
    have l2 : (((Str.empty ++ Str.ofString "Form(") ++ Fm.textS ts) ++ Str.ofString ")").length ≤ 231607 := by
      rw [strLen_append]
      have : (Str.ofString ")").length = 1 := by decide
      omega
    exact .inl ⟨_, rfl, Nat.le_trans tl (by decide), _, rfl, Nat.le_trans l1 (by decide), _, rfl, Nat.le_trans l2 (by decide), k H2 s2⟩
end
end Lw

/-! ## FmI -/
set_option maxHeartbeats 1000000
namespace Lw
open PySem PySem.Spec PyProof.Rows L2
open Fm (cf Asc Nm)
abbrev s__law_name : Stmt := topS 56
abbrev n__law_name : List Str := ["_law_heap_here", "_law_words", "_law_way", "_law_letters", "_law_more", "_law_k", "_law_name_here"]
theorem sc__law_name : FnScope n__law_name ["_law_heap_here"] (defScope s__law_name) := ⟨rfl, rfl, rfl, by decide +kernel, rfl, by decide +kernel, by decide +kernel⟩
/-- a text of at most n signs, all of them storable -/
structure OkS (n : Nat) (z : Str) : Prop where
  len : z.length ≤ n
  ok : ∀ c ∈ z.cps.toList, c < 0x110000
theorem OkS.strOk {n : Nat} {z : Str} (h : OkS n z) : PyData.strOk z = true := by
  show z.cps.all (· < 0x110000) = true
  rw [← Array.all_toList]
  exact List.all_eq_true.mpr fun c hc => decide_eq_true (h.ok c hc)
theorem OkS.mono {n m : Nat} {z : Str} (h : OkS n z) (k : n ≤ m) : OkS m z := ⟨Nat.le_trans h.len k, h.ok⟩
theorem OkS.add {n m : Nat} {a b : Str} (h : OkS n a) (k : OkS m b) : OkS (n + m) (a ++ b) := by
  refine ⟨?_, fun c hc => ?_⟩
  · show (a.cps ++ b.cps).size ≤ n + m
    rw [Array.size_append]
    exact Nat.add_le_add h.len k.len
  · have hc : c ∈ (a.cps ++ b.cps).toList := hc
    rw [Array.toList_append] at hc
    exact (List.mem_append.mp hc).elim (h.ok c) (k.ok c)
theorem OkS.cut {n : Nat} {z : Str} (h : OkS n z) (lo hi : Option Int) : OkS n (cutS z lo hi) := by
  refine ⟨Nat.le_trans (cutS_length z lo hi) h.len, fun c hc => h.ok c ?_⟩
  have hc : c ∈ ((z.cps.toList.drop (HT.sIx z.length 0 lo)).take (HT.sIx z.length z.length hi - HT.sIx z.length 0 lo)).toArray.toList := hc
  rw [List.toList_toArray] at hc
  exact List.mem_of_mem_drop (List.mem_of_mem_take hc)
theorem OkS.one {c : Nat} (h : c < 0x110000) : OkS 1 ⟨#[c]⟩ := ⟨Nat.le_refl 1, fun d hd => by
  have hd : d ∈ [c] := hd
  rw [List.mem_singleton.mp hd]
  exact h⟩
theorem OkS.join : ∀ {zs : List Str}, (∀ z ∈ zs, OkS 1 z) → OkS zs.length (Txt.join "" zs)
  | [], _ => ⟨Nat.le_refl 0, fun c hc => by
    have hc : c ∈ ([] : List Nat) := hc
    cases hc⟩
  | [x], h => by
    rw [show Txt.join "" [x] = x by rw [show Txt.join "" [x] = Str.join "" [x] from StrLaws.glued_eq_join _ _]; rfl]
    exact h x List.mem_cons_self
  | x :: y :: r, h => by
    have e : Txt.join "" (x :: y :: r) = (x ++ ("" : Str)) ++ Txt.join "" (y :: r) := by
      rw [show Txt.join "" (x :: y :: r) = Str.join "" (x :: y :: r) from StrLaws.glued_eq_join _ _, show Txt.join "" (y :: r) = Str.join "" (y :: r) from StrLaws.glued_eq_join _ _]
      rfl
    rw [e]
    have h1 : OkS 0 ("" : Str) := ⟨Nat.le_refl 0, fun c hc => by
      have hc : c ∈ ([] : List Nat) := hc
      cases hc⟩
    have h2 := ((h x List.mem_cons_self).add h1).add (OkS.join (zs := y :: r) fun z hz => h z (List.mem_cons_of_mem _ hz))
    exact h2.mono (by simp; omega)
theorem okS_small {c : Nat} (h : c ∈ signsS.cps.toList) : c < 0x110000 := by
  have f : ∀ c ∈ signsS.cps.toList, decide (c < 0x110000) = true := by decide +kernel
  exact of_decide_eq_true (f c h)
theorem OkS.lit {n : Nat} {z : Str} (h : (decide (z.length ≤ n) && z.cps.toList.all fun c => decide (c < 0x110000)) = true) : OkS n z := by
  obtain ⟨h1, h2⟩ := Bool.and_eq_true_iff.mp h
  exact ⟨of_decide_eq_true h1, fun c hc => of_decide_eq_true (List.all_eq_true.mp h2 c hc)⟩
theorem small_of {l : List Nat} {c : Nat} (hc : c ∈ l) (h : (l.all fun c => decide (c < 0x110000)) = true) : c < 0x110000 := of_decide_eq_true (List.all_eq_true.mp h c hc)
theorem okS_letter {c : Nat} (h : c ∈ lettersS.cps.toList) : c < 0x110000 := by
  have f : ∀ c ∈ lettersS.cps.toList, decide (c < 0x110000) = true := by decide +kernel
  exact of_decide_eq_true (f c h)
theorem sum_len : ∀ {zs : List Str}, (∀ z ∈ zs, OkS 1 z) → (zs.map fun x => x.length).sum ≤ zs.length
  | [], _ => Nat.le_refl 0
  | z :: zs, h => by
    have h1 := (h z List.mem_cons_self).len
    have h2 := sum_len (zs := zs) fun x hx => h x (List.mem_cons_of_mem _ hx)
    simp only [List.map_cons, List.sum_cons, List.length_cons]
    omega
def wordsL : List Str := ["cap", "len", "head", "all", "any", "not", "if", "end", "views", "vie", "a", "a1", "a2", "b", "aa"]
def spTextN (n : Nat) : Sp := fun vs H Q _ => ∃ a, vs = [.ref a] ∧ H a = some (DrawO a) ∧ ∀ z H', OkS n z → Same H H' → Q (.str z) H'
/-- values of which p, as a list of texts -/
theorem strs_of {ys : List V} {p : Str → Prop} (h : ∀ (i : Nat) (y : V), ys[i]? = some y → ∃ z, y = V.str z ∧ p z) : ∃ zs : List Str, ys = zs.map V.str ∧ ∀ z ∈ zs, p z := by
  induction ys with
  | nil => exact ⟨[], rfl, fun z hz => nomatch hz⟩
  | cons y r ih =>
    obtain ⟨z, rfl, hz⟩ := h 0 y (by simp)
    obtain ⟨zs, rfl, hs⟩ := ih fun i x e => h (i + 1) x (by simpa using e)
    exact ⟨z :: zs, rfl, fun w hw => (List.mem_cons.mp hw).elim (fun e => e ▸ hz) (hs w)⟩
/-- a name -/
structure Na (z : Str) : Prop where
  len : z.length ≤ 8
  fst : firstS z = true
  all : allS z = true
  nv : z ≠ "view"
theorem first_cut {z y : Str} (n : Nat) (h : firstS z = true) : firstS (cutS z none (some ((n + 1 : Nat) : Int)) ++ y) = true := by
  unfold firstS at h ⊢
  have e : (cutS z none (some ((n + 1 : Nat) : Int)) ++ y).cps.toList = (((z.cps.toList.drop (HT.sIx z.length 0 none)).take (HT.sIx z.length z.length (some ((n + 1 : Nat) : Int)) - HT.sIx z.length 0 none))) ++ y.cps.toList := by
    rw [show (cutS z none (some ((n + 1 : Nat) : Int)) ++ y).cps = (cutS z none (some ((n + 1 : Nat) : Int))).cps ++ y.cps from rfl, Array.toList_append]
    rfl
  rw [e]
  have e0 : HT.sIx z.length 0 none = 0 := rfl
  have hl : z.length = z.cps.toList.length := Array.length_toList.symm
  rw [HT.sIx_nat, e0, List.drop_zero, Nat.sub_zero]
  cases hz : z.cps.toList with
  | nil => rw [hz] at h; cases h
  | cons c r =>
    rw [hz] at h hl
    have : min (n + 1) z.length = min n r.length + 1 := by
      rw [hl, List.length_cons]
      omega
    rw [this]
    exact h
theorem all_app {a b : Str} (h : allS a = true) (k : allS b = true) : allS (a ++ b) = true := by
  unfold allS at *
  rw [show (a ++ b).cps = a.cps ++ b.cps from rfl, Array.toList_append, List.all_append, h, k]
  rfl
theorem all_cut {z : Str} (lo hi : Option Int) (h : allS z = true) : allS (cutS z lo hi) = true := by
  refine List.all_eq_true.mpr fun c hc => List.all_eq_true.mp h c ?_
  have hc : c ∈ ((z.cps.toList.drop (HT.sIx z.length 0 lo)).take (HT.sIx z.length z.length hi - HT.sIx z.length 0 lo)).toArray.toList := hc
  rw [List.toList_toArray] at hc
  exact List.mem_of_mem_drop (List.mem_of_mem_take hc)
theorem last_nv {a : Str} {c : Nat} (h : c ≠ 119) : a ++ (⟨#[c]⟩ : Str) ≠ "view" := fun e => by
  have e : (a.cps ++ #[c]).toList = ("view" : Str).cps.toList := congrArg (fun z : Str => z.cps.toList) e
  rw [Array.toList_append] at e
  have := congrArg List.getLast? e
  rw [List.getLast?_append] at this
  have : some c = some 119 := this
  exact h (Option.some.inj this)
theorem Na.oks {z : Str} (h : Na z) : OkS 8 z := ⟨h.len, fun c hc => okS_small (of_decide_eq_true (List.all_eq_true.mp h.all c hc))⟩
theorem Na.ne {z : Str} (h : Na z) : ∃ c r, z.cps.toList = c :: r ∧ c ∈ lettersS.cps.toList := by
  have := h.fst
  unfold firstS at this
  cases e : z.cps.toList with
  | nil => rw [e] at this; cases this
  | cons c r =>
    rw [e] at this
    exact ⟨c, r, rfl, of_decide_eq_true this⟩
theorem Na.pos {z : Str} (h : Na z) : 1 ≤ z.length := by
  obtain ⟨c, r, e, _⟩ := h.ne
  have : z.length = z.cps.toList.length := Array.length_toList.symm
  rw [this, e, List.length_cons]
  omega
theorem Na.name {z : Str} (h : Na z) : nameS z = true := by
  unfold nameS
  rw [decide_eq_false h.nv, h.fst, h.all, decide_eq_true h.len, decide_eq_true h.pos]
  rfl
theorem Na.sym {z : Str} (h : Na z) : (Tr.str z).sym = true := by
  show (nameS z || _) = true
  rw [h.name]
  rfl
theorem Na.sy {z : Str} (h : Na z) : Fm.SyOk z := by
  have fr : ∀ k, k ∉ signsS.cps.toList → k ∉ TL.tl z := fun k n m => n (of_decide_eq_true (List.all_eq_true.mp h.all k m))
  obtain ⟨c, r, e, hc⟩ := h.ne
  have e : TL.tl z = c :: r := e
  have lt : ∀ c ∈ lettersS.cps.toList, decide (97 ≤ c) = true := by decide +kernel
  have l97 : 97 ≤ c := of_decide_eq_true (lt c hc)
  refine ⟨by rw [e]; simp, fr 32 (by decide +kernel), fr 42 (by decide +kernel), fun d hd => ?_, fun q => ?_, fun d hd => ?_⟩
  · rw [e] at hd
    cases hd
    omega
  · rw [q] at e
    have : [48] = c :: r := e
    cases this
    omega
  · rw [e] at hd
    cases hd
    omega
theorem at_sy : Fm.SyOk "@" := by
  refine ⟨by decide +kernel, by decide +kernel, by decide +kernel, fun d hd => ?_, by decide +kernel, fun d hd => ?_⟩
  · have : some 64 = some d := hd
    cases this
    omega
  · have : some 64 = some d := hd
    cases this
    omega
def wordNa (z : Str) : Bool := decide (z.length ≤ 8) && (firstS z && (allS z && !decide (z = "view")))
theorem Na.lit {z : Str} (h : wordNa z = true) : Na z := by
  obtain ⟨h1, h⟩ := Bool.and_eq_true_iff.mp h
  obtain ⟨h2, h⟩ := Bool.and_eq_true_iff.mp h
  obtain ⟨h3, h⟩ := Bool.and_eq_true_iff.mp h
  exact ⟨of_decide_eq_true h1, h2, h3, fun e => by rw [decide_eq_true e] at h; cases h⟩
theorem words_ok : ∀ z ∈ wordsL, Na z := by
  have f : ∀ z ∈ wordsL, wordNa z = true := by decide +kernel
  exact fun z hz => .lit (f z hz)
theorem let_sign {c : Nat} (h : c ∈ lettersS.cps.toList) : c ∈ signsS.cps.toList := by
  have f : ∀ c ∈ lettersS.cps.toList, decide (c ∈ signsS.cps.toList) = true := by decide +kernel
  exact of_decide_eq_true (f c h)
theorem join_all {zs : List Str} (h : ∀ z ∈ zs, allS z = true) : allS (Txt.join "" zs) = true := by
  show (TL.tl (Txt.join "" zs)).all _ = true
  rw [Fm.joinE ""]
  refine List.all_eq_true.mpr fun c hc => ?_
  obtain ⟨l, hl, hc⟩ := List.mem_flatten.mp hc
  obtain ⟨z, hz, rfl⟩ := List.mem_map.mp hl
  exact List.all_eq_true.mp (h z hz) c hc
def spName : Sp := fun vs H Q _ => ∃ a, vs = [.ref a] ∧ H a = some (DrawO a) ∧ ∀ z H', Na z → Same H H' → Q (.str z) H'
section
variable {P : Program} {w : World} {K : PySem.W.Frag} {mg : Str → Option Value} {base : Heap}
variable (c__law_roll : Cal P w K mg base 1 "_law_roll" ["_law_heap_here", "_law_many"] spRoll) (c__law_pick : Cal P w K mg base 2 "_law_pick" ["_law_heap_here", "_law_things"] (spPick K))
include c__law_roll c__law_pick
theorem ok_law_name {f : Addr} {fd : FuncData} (F : Fun K "_law_name" "_law_name" s__law_name f fd) (T : Ta mg) : FnG P w K mg base 3 f fd ["_law_heap_here"] spName := by
  refine okG F sc__law_name (fun vs H Q E h => ?_) (fun cdv A outer s H vs Q hr h => ?_)
  · obtain ⟨a, rfl, _⟩ := h
    rfl
  · obtain ⟨a, rfl, ha, k⟩ := h
    refine ⟨_, (pss_cons (ps_set (i := 1) sc__law_name.nd rfl (by first | exact .inl rfl | exact .inr rfl) (pe_lstS (pa_cons pe_str (pa_cons pe_str (pa_cons pe_str (pa_cons pe_str (pa_cons pe_str (pa_cons pe_str (pa_cons pe_str (pa_cons pe_str (pa_cons pe_str (pa_cons pe_str (pa_cons pe_str (pa_cons pe_str (pa_cons pe_str (pa_cons pe_str (pa_cons pe_str pa_nil)))))))))))))))))
  (pss_cons (ps_set (i := 2) sc__law_name.nd rfl (by first | exact .inl rfl | exact .inr rfl) (pe_c c__law_roll hr (by decide) rfl (pa_cons (pv 0) (pa_cons pe_int pa_nil))))
  (pss_cons (ps_if (pt_cmpR op_eq (pv 2) pe_int (nomark _))
    (pss_one (ps_ret (pe_c c__law_pick hr (by decide) rfl (pa_cons (pv 0) (pa_cons (pv 1) pa_nil)))))
    pss_nil)
  (pss_cons (ps_set (i := 3) sc__law_name.nd rfl (by first | exact .inl rfl | exact .inr rfl) pe_str)
  (pss_cons (ps_setLc (i := 4) (own := [("_law_k", 5)]) (g := gName 5) (tt := tYes) rfl sc__law_name.nd rfl rfl (sw_true rfl rfl rfl (by decide +kernel)) (pi_range1 rfl T.b_range (pa_cons (pe_ix ix_list (pe_lstS (pa_cons pe_int (pa_cons pe_int (pa_cons pe_int (pa_cons pe_int pa_nil))))) (pe_c c__law_roll hr (by decide) rfl (pa_cons (pv 0) (pa_cons pe_int pa_nil))) (fun _ _ => rfl)) pa_nil)) (blkOk_by (own := [("_law_k", 5)]) (N := n__law_name) (sc := defScope s__law_name) (by decide +kernel)) (fun _ _ _ _ _ => pg_name (i := 5) sc__law_name.nd rfl (Or.inl rfl)) (fun _ _ _ _ _ => pts_nil) (fun _ _ _ _ _ => (pe_c c__law_pick hr (by decide) rfl (pa_cons (pv 0) (pa_cons (pe_op op_add_str (pv 3) pe_str) pa_nil)))))
  (pss_cons (ps_set (i := 6) sc__law_name.nd rfl (by first | exact .inl rfl | exact .inr rfl) (pe_op op_add_str (pe_c c__law_pick hr (by decide) rfl (pa_cons (pv 0) (pa_cons (pv 3) pa_nil))) (pe_bm PySem.F.plainAttrs_str PySem.F.slot_str_join PySem.F.type_str_join mt_join pe_str (pa_cons (pv 4) pa_nil))))
  (pss_one (ps_ret (pe_mid (pe_ifExp (pt_cmpR op_ne (pv 6) pe_str (nomark _)) (pv 6) pe_str)))))))))), ?_⟩
    refine ⟨(by show 15 ≤ sizeLine; decide), fun p1 H1 n1 s1 h1 => ?_⟩
    have h1 : H1 p1 = some (.lst (wordsL.map V.str)) := h1
    have ha1 := s1 _ _ ha
    refine ⟨_, rfl, a, 4, rfl, ha1, by decide, by decide, fun r r0 r1 => ⟨_, rfl, rfl, _, rfl, ite2 (fun _ => ?_) fun _ => ?_⟩⟩
    · refine ⟨_, rfl, _, rfl, a, .ref p1, _, rfl, ha1, Pick.lst (SqL.of h1) (by decide) (by decide), fun v hv => ?_⟩
      obtain ⟨z, hz, rfl⟩ := List.mem_map.mp hv
      exact k z H1 (words_ok z hz) s1
    · refine ⟨(by show 4 ≤ sizeLine; decide), fun p2 H2 n2 s2 h2 => ?_⟩
      have ha2 := s2 _ _ ha1
      refine ⟨_, rfl, a, 4, rfl, ha2, by decide, by decide, fun q q0 q1 => ?_⟩
      obtain ⟨v, e1, e2⟩ := at_int (xs := [V.int 0, V.int 1, V.int 3, V.int 7]) q0 q1
      obtain ⟨n, rfl, hn⟩ : ∃ n : Nat, v = V.int (n : Int) ∧ n ≤ 7 := by
        simp at e2
        rcases e2 with rfl | rfl | rfl | rfl
        · exact ⟨0, rfl, by decide⟩
        · exact ⟨1, rfl, by decide⟩
        · exact ⟨3, rfl, by decide⟩
        · exact ⟨7, rfl, by decide⟩
      refine ⟨p2, _, q, _, rfl, rfl, SqL.of h2, e1, (n : Int), rfl, by omega, by omega, fun D hD => lc_gen walk_range (R := fun i y _ => ∃ z, y = V.str z ∧ OkS 1 z ∧ allS z = true) (by simp; omega) hD (fun _ _ _ _ h _ => h) (fun _ _ => True.intro) (fun i x H3 H4 ys Q' hi s3 d y kq => ?_) fun H3 ys s3 d ly hys => ?_⟩
      · obtain ⟨rfl, rfl⟩ := y
        refine ⟨rfl, _, rfl, _, rfl, _, _, rfl, rfl, (by decide +kernel), a, _, _, rfl, s3 _ _ ha2, Pick.str (by decide +kernel) (by decide +kernel), fun v hv => ?_⟩
        obtain ⟨c, hc, rfl⟩ := hv
        exact kq _ _ (Same.refl _) ⟨_, rfl, .one (okS_small hc), by show ([c].all fun c => decide (c ∈ signsS.cps.toList)) = true; simp only [List.all_cons, List.all_nil, Bool.and_true]; exact decide_eq_true hc⟩
      · obtain ⟨zs, rfl, hz⟩ := strs_of hys
        have ha3 := s3 _ _ ha2
        refine ⟨_, rfl, _, rfl, a, _, _, rfl, ha3, Pick.str (by decide +kernel) (by decide +kernel), fun v hv => ?_⟩
        obtain ⟨c, hc, rfl⟩ := hv
        have lz : zs.length ≤ 7 := by
          rw [List.length_map] at ly
          omega
        have sl := sum_len fun z m => (hz z m).1
        have oj := OkS.join fun z m => (hz z m).1
        have aj := join_all fun z m => (hz z m).2
        refine ⟨rfl, _, rfl, "", D, zs, rfl, rfl, .inl (SqL.of d), ?_, _, _, rfl, rfl, ?_, ?_⟩
        · show (zs.map fun x => x.length).sum + zs.length * 0 ≤ 16777216
          omega
        · have := oj.len
          show 1 + (Txt.join "" zs).length ≤ sizeLine
          exact Nat.le_trans (show _ ≤ 8 by omega) (by decide)
        · have l8 : ((⟨#[c]⟩ : Str) ++ Txt.join "" zs).length ≤ 8 := (((OkS.one (okS_letter hc)).add oj).mono (m := 8) (by omega)).len
          have a8 : allS ((⟨#[c]⟩ : Str) ++ Txt.join "" zs) = true := all_app (by show ([c].all fun c => decide (c ∈ signsS.cps.toList)) = true; simp only [List.all_cons, List.all_nil, Bool.and_true]; exact decide_eq_true (let_sign hc)) aj
          have f8 : firstS ((⟨#[c]⟩ : Str) ++ Txt.join "" zs) = true := by
            unfold firstS
            rw [show ((⟨#[c]⟩ : Str) ++ Txt.join "" zs).cps.toList = c :: (Txt.join "" zs).cps.toList from TL.tl_append _ _]
            exact decide_eq_true hc
          refine ⟨fun v H' => ∃ z, v = V.str z ∧ Na z ∧ H' = H3, ⟨_, rfl, rfl, _, rfl, ite2 (fun hne => ⟨_, rfl, _, rfl, ⟨l8, f8, a8, fun e => ?_⟩, rfl⟩) fun _ => ⟨_, rfl, .lit (by decide +kernel), rfl⟩⟩, fun v H' hv => ?_⟩
          · rw [e] at hne
            exact absurd hne (by decide)
          obtain ⟨z, rfl, oz, rfl⟩ := hv
          exact k z _ oz ((s1.trans s2).trans s3)
end
end Lw

/-! ## FmJ -/
set_option maxHeartbeats 1000000
namespace Lw
open PySem PySem.Spec PyProof.Rows L2
open Fm (cf Asc Nm)
abbrev s__law_names : Stmt := topS 57
abbrev n__law_names : List Str := ["_law_heap_here", "_law_many", "_law_found", "_law_k", "_law_name_here", "_law_menu", "_law_j", "_law_each"]
theorem sc__law_names : FnScope n__law_names ["_law_heap_here", "_law_many"] (defScope s__law_names) := ⟨rfl, rfl, rfl, by decide +kernel, rfl, by decide +kernel, by decide +kernel⟩
theorem cut_le (z : Str) (k : Nat) : (cutS z none (some (k : Int))).length ≤ k := by
  show (((z.cps.toList.drop (HT.sIx z.length 0 none)).take (HT.sIx z.length z.length (some (k : Int)) - HT.sIx z.length 0 none)).toArray).size ≤ k
  rw [List.size_toArray, List.length_take]
  have h : HT.sIx z.length z.length (some (k : Int)) ≤ k := by
    rw [HT.sIx_nat]
    exact Nat.min_le_left _ _
  omega
/-- a list without a repeat within another is no longer -/
theorem nodup_le : ∀ {l m : List Str}, l.Nodup → (∀ x ∈ l, x ∈ m) → l.length ≤ m.length
  | [], m, _, _ => Nat.zero_le _
  | x :: l, m, d, h => by
    obtain ⟨nx, d⟩ := List.nodup_cons.mp d
    have hx := h x List.mem_cons_self
    have := nodup_le (l := l) (m := m.erase x) d fun y hy => (List.mem_erase_of_ne (fun e => nx (by rw [← e]; exact hy))).mpr (h y (List.mem_cons_of_mem _ hy))
    rw [List.length_erase_of_mem hx] at this
    have := List.length_pos_of_mem hx
    simp only [List.length_cons]
    omega
/-- the menu's j-th -/
def menuS (z : Str) (j : Nat) : Str := cutS z none (some 6) ++ Str.ofString (toString (0 + (j : Int)))
theorem four {j : Nat} (h : j < 4) : j = 0 ∨ j = 1 ∨ j = 2 ∨ j = 3 := by omega
theorem menu_ok {z : Str} {n j : Nat} (h : OkS n z) (hj : j < 4) : OkS 8 (menuS z j) := by
  have h1 : OkS 6 (cutS z none (some 6)) := ⟨cut_le z 6, (h.cut none (some 6)).ok⟩
  have h2 : OkS 2 (Str.ofString (toString (0 + (j : Int)))) := by
    rcases four hj with rfl | rfl | rfl | rfl <;> exact .lit (by decide +kernel)
  exact h1.add h2
theorem append_left {a b c : Str} (h : a ++ b = a ++ c) : b = c := by
  have e : (a.cps ++ b.cps).toList = (a.cps ++ c.cps).toList := congrArg (fun z : Str => z.cps.toList) h
  rw [Array.toList_append, Array.toList_append] at e
  exact str_ext (List.append_cancel_left e)
theorem menu_inj {z : Str} {i j : Nat} (hi : i < 4) (hj : j < 4) (h : menuS z i = menuS z j) : i = j := by
  have e := append_left h
  have f : ∀ i j : Fin 4, Str.ofString (toString (0 + (i.1 : Int))) = Str.ofString (toString (0 + (j.1 : Int))) → i = j := by decide +kernel
  exact congrArg Fin.val (f ⟨i, hi⟩ ⟨j, hj⟩ e)
theorem menu_nodup {z : Str} {n : Nat} (h : n ≤ 4) : ((List.range n).map (menuS z)).Nodup := by
  refine List.pairwise_map.mpr ((List.pairwise_lt_range (n := n)).imp_of_mem fun {a b} ha hb lt e => ?_)
  have h1 := List.mem_range.mp ha
  have h2 := List.mem_range.mp hb
  have := menu_inj (z := z) (by omega) (by omega) e
  omega
theorem menu_left {z : Str} {n : Nat} {zs : List Str} (h : n ≤ 4) (hz : zs.length < n) : (((z :: (List.range n).map (menuS z)).filter fun e => !decide (e ∈ zs))) ≠ [] := by
  intro q
  have all : ∀ x ∈ (List.range n).map (menuS z), x ∈ zs := fun x hx => by
    have := List.filter_eq_nil_iff.mp q x (List.mem_cons_of_mem _ hx)
    simpa using this
  have := nodup_le (menu_nodup h) all
  rw [List.length_map, List.length_range] at this
  omega
theorem inV_strs (e : Str) : ∀ zs : List Str, inV (.str e) (zs.map V.str) = decide (e ∈ zs)
  | [] => by simp [inV]
  | z :: zs => by
    show ((z == e) || inV (.str e) (zs.map V.str)) = _
    rw [inV_strs e zs]
    by_cases h : e = z
    · subst h
      simp
    · have : (z == e) = false := beq_eq_false_iff_ne.mpr fun q => h q.symm
      rw [this]
      simp [h]
theorem flat_strs : ∀ zs : List Str, (zs.map V.str).all flatV = true
  | [] => rfl
  | z :: zs => by
    show (true && (zs.map V.str).all flatV) = true
    rw [flat_strs zs]
    rfl
/-- different texts of at most 8 signs, a new list of them -/
def spNames : Sp := fun vs H Q _ => ∃ (a : Addr) (m : Int), vs = [.ref a, .int m] ∧ H a = some (DrawO a) ∧ 1 ≤ m ∧ m ≤ 4 ∧ ∀ (zs : List Str) (p : Addr) (H' : Hp), zs.length = m.toNat → (∀ z ∈ zs, Na z) → zs.Nodup → Same H H' → H p = none → H' p = some (.lst (zs.map V.str)) → Q (.ref p) H'
theorem menu_na {z : Str} {j : Nat} (h : Na z) (hj : j < 4) : Na (menuS z j) := by
  have o8 := menu_ok h.oks hj
  have e : Str.ofString (toString (0 + (j : Int))) = ⟨#[48 + j]⟩ := by
    rcases four hj with rfl | rfl | rfl | rfl <;> decide +kernel
  refine ⟨o8.len, first_cut 5 h.fst, all_app (all_cut _ _ h.all) ?_, ?_⟩
  · rcases four hj with rfl | rfl | rfl | rfl <;> decide +kernel
  · unfold menuS
    rw [e]
    exact last_nv (by omega)
theorem bent_na {z : Str} {c : Nat} (h : Na z) (hc : c ∈ ("0123456789z" : Str).cps.toList) : Na (cutS z none (some 7) ++ ⟨#[c]⟩) := by
  have f : ∀ c ∈ ("0123456789z" : Str).cps.toList, decide (c ∈ signsS.cps.toList ∧ c ≠ 119) = true := by decide +kernel
  have fc := of_decide_eq_true (f c hc)
  have o7 : OkS 7 (cutS z none (some 7)) := ⟨cut_le z 7, (h.oks.cut none (some 7)).ok⟩
  refine ⟨(o7.add (OkS.one (okS_small fc.1))).len, first_cut 6 h.fst, all_app (all_cut _ _ h.all) ?_, last_nv fc.2⟩
  show ([c].all fun c => decide (c ∈ signsS.cps.toList)) = true
  simp only [List.all_cons, List.all_nil, Bool.and_true]
  exact decide_eq_true fc.1
section
variable {P : Program} {w : World} {K : PySem.W.Frag} {mg : Str → Option Value} {base : Heap}
variable (c__law_roll : Cal P w K mg base 1 "_law_roll" ["_law_heap_here", "_law_many"] spRoll) (c__law_pick : Cal P w K mg base 2 "_law_pick" ["_law_heap_here", "_law_things"] (spPick K)) (c__law_name : Cal P w K mg base 3 "_law_name" ["_law_heap_here"] (spName))
include c__law_roll c__law_pick c__law_name
theorem ok_law_names {f : Addr} {fd : FuncData} (F : Fun K "_law_names" "_law_names" s__law_names f fd) (T : Ta mg) : FnG P w K mg base 4 f fd ["_law_heap_here", "_law_many"] spNames := by
  refine okG F sc__law_names (fun vs H Q E h => ?_) (fun cdv A outer s H vs Q hr h => ?_)
  · obtain ⟨a, m, rfl, _⟩ := h
    rfl
  · obtain ⟨a, m, rfl, ha, m1, m4, k⟩ := h
    refine ⟨_, (pss_cons (ps_set (i := 2) sc__law_names.nd rfl (by first | exact .inl rfl | exact .inr rfl) (pe_lstS pa_nil))
  (pss_cons (ps_for PassesOwn.never rfl (pi_range1 rfl T.b_range (pa_cons (pv 1) pa_nil)) (pg_name (i := 3) sc__law_names.nd rfl (by first | exact .inl rfl | exact .inr rfl))
    (pss_cons (ps_set (i := 4) sc__law_names.nd rfl (by first | exact .inl rfl | exact .inr rfl) (pe_c c__law_name hr (by decide) rfl (pa_cons (pv 0) pa_nil)))
  (pss_cons (ps_mid (ps_if (PW.pt (pw_and (pt_cmpR (op_neD hr.units) (pv 2) (pe_lstS pa_nil) (nomark _)) (pw_and1 (pt_cmpR op_eq (pe_c c__law_roll hr (by decide) rfl (pa_cons (pv 0) (pa_cons pe_int pa_nil))) pe_int (nomark _)))))
    (pss_one (ps_set (i := 4) sc__law_names.nd rfl (by first | exact .inl rfl | exact .inr rfl) (pe_op op_add_str (pe_slice sl_str (pe_c c__law_pick hr (by decide) rfl (pa_cons (pv 0) (pa_cons (pv 2) pa_nil))) po_none (po_some pe_int)) (pe_c c__law_pick hr (by decide) rfl (pa_cons (pv 0) (pa_cons pe_str pa_nil))))))
    pss_nil))
  (pss_cons (ps_set (i := 5) sc__law_names.nd rfl (by first | exact .inl rfl | exact .inr rfl) (pe_op op_catS (pe_lstS (pa_cons (pv 4) pa_nil)) (pe_lc (own := [("_law_j", 6)]) (g := gName 6) (tt := tYes) rfl sc__law_names.nd (pi_range1 rfl T.b_range (pa_cons (pv 1) pa_nil)) (blkOk_by (own := [("_law_j", 6)]) (N := n__law_names) (sc := defScope s__law_names) (by decide +kernel)) (fun _ _ _ _ _ => pg_name (i := 6) sc__law_names.nd rfl (Or.inl rfl)) (fun _ _ _ _ _ => pts_nil) (fun _ _ _ _ _ => (pe_op op_add_str (pe_slice sl_str (pv 4) po_none (po_some pe_int)) (pe_callTy call_str_int (by rfl) T.b_str (by decide +kernel) (pa_cons (pv 6) pa_nil)))))))
  (pss_one (ps_expr (pe_bm PySem.F.plainAttrs_list PySem.F.slot_list_append PySem.F.type_list_append mt_append (pv 2) (pa_cons (pe_ix ix_list (pe_lc (own := [("_law_each", 7)]) (g := gName 7) rfl sc__law_names.nd (pi_list (pv 5)) (blkOk_by (own := [("_law_each", 7)]) (N := n__law_names) (sc := defScope s__law_names) (by decide +kernel)) (fun _ _ _ _ _ => pg_name (i := 7) sc__law_names.nd rfl (Or.inl rfl)) (fun _ _ _ _ _ => (pts_one (pt_cmpR (r := rIn K true) op_notIn_seq (pv 7) (pv 2) rfl))) (fun _ _ _ _ _ => (pv 7))) pe_int (fun _ _ => rfl)) pa_nil))))))))
  (pss_one (ps_ret (pv 2))))), ?_⟩
    have big : ∀ {n : Nat}, n ≤ 100 → n ≤ sizeLine := fun h => Nat.le_trans h (by decide)
    refine ⟨Nat.zero_le _, fun F0 H1 n1 s1 h1 => ?_⟩
    refine ⟨_, rfl, m, rfl, by omega, by omega, for_it (walk_range (lo := 0) (n := m.toNat)) (fun i σ H' => ∃ (zs : List Str) (x3 x4 x5 x6 x7 : Option V), σ = [some (.ref a), some (.int m), some (.ref F0), x3, x4, x5, x6, x7] ∧ Same H H' ∧ zs.length = i ∧ ((∀ z ∈ zs, Na z) ∧ zs.Nodup) ∧ H' F0 = some (.lst (zs.map V.str)))
      ⟨[], _, _, _, _, _, rfl, s1, rfl, ⟨(fun z hz => nomatch hz), List.nodup_nil⟩, h1⟩ (fun _ _ _ _ _ => True.intro) ?_ ?_⟩
    · rintro i x σ H2 H2' hi ⟨zs, x3, x4, x5, x6, x7, rfl, s2, lz, ⟨oz, dz⟩, hF⟩ ⟨rfl, rfl⟩
      have ha2 := s2 _ _ ha
      refine ⟨_, rfl, a, rfl, ha2, fun z H3 oz0 s3 => ?_⟩
      have hF3 := s3 _ _ hF
      refine ⟨fun σ' H' => ∃ z', σ' = [some (.ref a), some (.int m), some (.ref F0), some (.int (0 + (i : Int))), some (.str z'), x5, x6, x7] ∧ Na z' ∧ Same H3 H', ?_, ?_⟩
      · refine ⟨_, rfl, Nat.zero_le _, fun p4 H4 n4 s4 h4 => ?_⟩
        have hF4 := s4 _ _ hF3
        have ha4 := s4 _ _ (s3 _ _ ha2)
        refine ⟨.list (zs.map .str), .list [], .lst (SqL.of hF4) (dp_strs zs), .lst (SqL.of h4) .nil, shaped_strs zs fun z hz => (oz z hz).oks.strOk, rfl, _, rfl, ite2 (fun hne => ?_) fun _ => ⟨_, rfl, oz0, s4⟩⟩
        have ne : zs ≠ [] := fun e => by
          subst e
          exact absurd hne (by decide)
        refine ⟨_, rfl, a, 3, rfl, ha4, by decide, by decide, fun r r0 r1 => ⟨rfl, _, rfl, ite2 (fun _ => ?_) fun _ => ⟨_, rfl, oz0, s4⟩⟩⟩
        refine ⟨_, rfl, _, rfl, a, .ref F0, _, rfl, ha4, Pick.lst (SqL.of hF4) (fun e => ne (List.map_eq_nil_iff.mp e)) (by rw [List.length_map]; omega), fun v hv => ?_⟩
        obtain ⟨z1, hz1, rfl⟩ := List.mem_map.mp hv
        have l1 := (oz z1 hz1).len
        refine ⟨_, rfl, z1, rfl, big (by omega), _, rfl, a, _, _, rfl, ha4, Pick.str (by decide +kernel) (by decide +kernel), fun v2 hv2 => ?_⟩
        obtain ⟨c, hc, rfl⟩ := hv2
        have o7 : OkS 7 (cutS z1 none (some 7)) := ⟨cut_le z1 7, ((oz z1 hz1).oks.cut none (some 7)).ok⟩
        have o1 : OkS 1 ⟨#[c]⟩ := .one (small_of hc (by decide +kernel))
        exact ⟨_, _, rfl, rfl, big (by have := o7.len; have := o1.len; omega), _, rfl, bent_na (oz z1 hz1) hc, s4⟩
      · rintro σ' H4 ⟨z', rfl, oz', s4⟩
        have ha4 := s4 _ _ (s3 _ _ ha2)
        have hF4 := s4 _ _ hF3
        have t4 := (s2.trans s3).trans s4
        refine ⟨_, rfl, big (by simp), fun p5 H5 n5 s5 h5 => ⟨_, rfl, m, rfl, by omega, by omega, fun D hD => lc_fn (walk_range (lo := 0) (n := m.toNat)) (fun j => .str (menuS z' j)) (by omega) hD (fun _ _ => True.intro) (fun j x H6 H7 Q' hj s6 y kq => ?_) fun H6 s6 d => ?_⟩⟩
        · obtain ⟨rfl, rfl⟩ := y
          have j4 : j < 4 := by omega
          have o8 := menu_ok oz'.oks j4
          refine ⟨rfl, _, rfl, _, rfl, z', rfl, big (by have := oz'.len; omega), _, rfl, _, rfl, ?_, _, _, rfl, rfl, big (by
            have := o8.len
            have e : (menuS z' j).length = (cutS z' none (some 6)).length + (Str.ofString (toString (0 + (j : Int)))).length := by
              show (_ ++ _ : Array Nat).size = _
              rw [Array.size_append]
              rfl
            omega), kq _ (Same.refl _)⟩
          rcases four j4 with rfl | rfl | rfl | rfl <;> decide +kernel
        · have d : H6 D = some (.lst (((List.range m.toNat).map (menuS z')).map V.str)) := by
            rw [d, List.map_map]
            rfl
          refine ⟨p5, D, _, _, rfl, rfl, s6 _ _ h5, d, ?_, fun p8 H8 n8 s8 h8 => ?_⟩
          · rw [List.length_map, List.length_map, List.length_range]
            exact big (by simp; omega)
          · obtain ⟨ms, hms⟩ : ∃ ms : List Str, ms = z' :: (List.range m.toNat).map (menuS z') := ⟨_, rfl⟩
            have h8 : H8 p8 = some (.lst (ms.map V.str)) := by
              rw [hms]
              exact h8
            have hF8 := s8 _ _ (s6 _ _ (s5 _ _ hF4))
            have t8 : Same H H8 := ((t4.trans s5).trans s6).trans s8
            have om : ∀ e ∈ ms, Na e := fun e he => by
              rw [hms] at he
              rcases List.mem_cons.mp he with rfl | he
              · exact oz'
              · obtain ⟨j, hj, rfl⟩ := List.mem_map.mp he
                have := List.mem_range.mp hj
                exact menu_na oz' (by omega)
            have ml : ms.length ≤ 5 := by
              rw [hms, List.length_cons, List.length_map, List.length_range]
              omega
            refine ⟨_, rfl, .inl ⟨rfl, _, SqL.of hF8⟩, _, rfl, p8, rfl, ⟨_, SqL.of h8⟩, fun D2 hD2 => lc_it walk_list (fun j H' => Same H8 H' ∧ H' D2 = some (.lst (((ms.take j).filter fun e => !decide (e ∈ zs)).map V.str))) ⟨Same.new hD2, upd_same⟩ (fun j H' _ ⟨s', _⟩ => SqL.of (s' _ _ h8)) (fun j x H9 H10 hj ⟨s9, d9⟩ y => ?_) fun H9 ⟨s9, d9⟩ => ?_⟩
            · obtain ⟨rfl, hx⟩ := y
              rw [List.getElem?_map] at hx
              obtain ⟨e, he, rfl⟩ := Option.map_eq_some_iff.mp hx
              have tk : ms.take (j + 1) = ms.take j ++ [e] := by
                rw [List.take_add_one, he]
                rfl
              refine ⟨rfl, _, rfl, _, rfl, F0, _, rfl, .inl (SqL.of (s9 _ _ hF8)), rfl, flat_strs zs, _, rfl, ?_⟩
              show if (!inV (.str e) (zs.map V.str)) = true then _ else _
              rw [inV_strs]
              refine ite2 (fun hb => ⟨_, rfl, _, d9, ?_, fun b o q => ?_, ?_⟩) fun hb => ⟨s9, ?_⟩
              · rw [List.length_map]
                exact Nat.lt_of_le_of_lt (Nat.le_trans (List.length_filter_le _ _) (List.length_take_le _ _)) (Nat.lt_of_le_of_lt (show j ≤ 5 by rw [List.length_map] at hj; omega) (by decide))
              · rw [upd_ne (ne_of_none q hD2)]
                exact s9 _ _ q
              · rw [upd_same, tk, List.filter_append, List.map_append, List.filter_cons_of_pos (p := fun e => !decide (e ∈ zs)) (a := e) hb]
                rfl
              · rw [tk, List.filter_append, List.filter_cons_of_neg (p := fun e => !decide (e ∈ zs)) (a := e) hb, List.filter_nil, List.append_nil]
                exact d9
            · rw [List.length_map, List.take_length] at d9
              have ne := menu_left (z := z') (n := m.toNat) (zs := zs) (by omega) (by omega)
              rw [← hms] at ne
              cases hf : ms.filter fun e => !decide (e ∈ zs) with
              | nil => exact absurd hf ne
              | cons e r =>
                rw [hf] at d9
                have fe := List.mem_filter.mp (show e ∈ ms.filter fun e => !decide (e ∈ zs) by rw [hf]; exact List.mem_cons_self)
                have oe : Na e := om e fe.1
                have ne2 : e ∉ zs := by simpa using fe.2
                refine ⟨D2, _, 0, _, rfl, rfl, SqL.of d9, L2.atI_nat (j := 0) rfl, F0, _, _, rfl, rfl, s9 _ _ hF8, ?_, zs ++ [e], _, _, _, _, _, rfl, ?_, ?_, ?_, ?_⟩
                · rw [List.length_map]
                  exact Nat.lt_of_le_of_lt (show zs.length ≤ 4 by omega) (by decide)
                · exact fun b o q => by
                    rw [upd_ne (ne_of_none q n1)]
                    exact s9 _ _ (t8 _ _ q)
                · rw [List.length_append, lz]
                  rfl
                · refine ⟨fun x hx => ?_, ?_⟩
                  · rcases List.mem_append.mp hx with h | h
                    · exact oz x h
                    · rw [List.mem_singleton.mp h]
                      exact oe
                  · rw [List.nodup_append]
                    exact ⟨dz, List.nodup_cons.mpr ⟨nofun, List.nodup_nil⟩, fun a ha b hb q => by
                      rw [List.mem_singleton.mp hb] at q
                      exact ne2 (q ▸ ha)⟩
                · rw [upd_same, List.map_append]
                  rfl
    · rintro σ H2 ⟨zs, x3, x4, x5, x6, x7, rfl, s2, lz, ⟨oz, dz⟩, hF⟩
      exact ⟨_, rfl, k zs F0 H2 lz oz dz s2 n1 hF⟩
end
end Lw

/-! ## FmK -/
set_option maxHeartbeats 1000000
namespace Lw
open PySem PySem.Spec PyProof.Rows L2
open Fm (cf Asc Nm)
abbrev s__law_terms : Stmt := topS 58
abbrev n__law_terms : List Str := ["_law_heap_here", "_law_symbols", "_law_most", "_law_found", "_law_symbol", "_law_factor"]
theorem sc__law_terms : FnScope n__law_terms ["_law_heap_here", "_law_symbols", "_law_most"] (defScope s__law_terms) := ⟨rfl, rfl, rfl, by decide +kernel, rfl, by decide +kernel, by decide +kernel⟩
/-- terms, as a list of pairs -/
def LTerms (H : Hp) (p : Addr) (ts : Tms) : Prop := ∃ ps : List Addr, H p = some (.lst (ps.map V.ref)) ∧ Prs H ps ts
theorem LTerms.same {H H' : Hp} {p : Addr} {ts : Tms} (s : Same H H') (h : LTerms H p ts) : LTerms H' p ts := by
  obtain ⟨ps, h, k⟩ := h
  exact ⟨ps, s _ _ h, k.same s⟩
/-- a symbol of the law -/
def SyN (z : Str) : Prop := Na z ∨ z = "@"
theorem SyN.len {z : Str} (h : SyN z) : z.length ≤ 8 := h.elim (fun h => h.len) fun e => by rw [e]; decide
theorem SyN.ok {z : Str} (h : SyN z) : Fm.SyOk z := h.elim (fun h => h.sy) fun e => by rw [e]; exact at_sy
theorem SyN.sym {z : Str} (h : SyN z) : (Tr.str z).sym = true := h.elim (fun h => h.sym) fun e => by rw [e]; rfl
theorem SyN.oks {z : Str} (h : SyN z) : OkS 8 z := h.elim (fun h => h.oks) fun e => by rw [e]; exact .lit (by decide +kernel)
def facL : List Int := [1, -1, 2, -2, 1, -1, 3, -10, 99, -99]
theorem fac_ok : ∀ f ∈ facL, Fa99 f := by
  have h : ∀ f ∈ facL, f ≠ 0 ∧ f.natAbs ≤ 99 := by decide
  exact fun f m => ⟨(h f m).1, Nat.lt_of_le_of_lt (h f m).2 (by decide +kernel)⟩
def spLTerms : Sp := fun vs H Q _ => ∃ (a p : Addr) (zs : List Str) (n : Int), vs = [.ref a, .ref p, .int n] ∧ H a = some (DrawO a) ∧ H p = some (.lst (zs.map V.str)) ∧ zs.Nodup ∧ (∀ z ∈ zs, SyN z) ∧ zs.length ≤ 20 ∧
  ∀ q H' ts, Same H H' → H q = none → LTerms H' q ts → Nm ts → Rd99 ts → (∀ e ∈ ts, e.1 ∈ zs) → Q (.ref q) H'
section
variable {P : Program} {w : World} {K : PySem.W.Frag} {mg : Str → Option Value} {base : Heap}
variable (c__law_roll : Cal P w K mg base 1 "_law_roll" ["_law_heap_here", "_law_many"] spRoll) (c__law_pick : Cal P w K mg base 2 "_law_pick" ["_law_heap_here", "_law_things"] (spPick K))
include c__law_roll c__law_pick
theorem ok_law_terms {f : Addr} {fd : FuncData} (F : Fun K "_law_terms" "_law_terms" s__law_terms f fd) (T : Ta mg) : FnG P w K mg base 3 f fd ["_law_heap_here", "_law_symbols", "_law_most"] spLTerms := by
  refine okG F sc__law_terms (fun vs H Q E h => ?_) (fun cdv A outer s H vs Q hr h => ?_)
  · obtain ⟨a, p, zs, n, rfl, _⟩ := h
    rfl
  · obtain ⟨a, p, zs, n, rfl, ha, hp, nd, sy, lz, k⟩ := h
    refine ⟨_, (pss_cons (ps_set (i := 3) sc__law_terms.nd rfl (by first | exact .inl rfl | exact .inr rfl) (pe_lstS pa_nil))
  (pss_cons (ps_for PassesOwn.never rfl (pi_list (pe_callB cr_sortedS (by rfl) T.b_sorted (by decide +kernel) (pa_cons (pv 1) pa_nil))) (pg_name (i := 4) sc__law_terms.nd rfl (by first | exact .inl rfl | exact .inr rfl))
    (pss_cons (ps_set (i := 5) sc__law_terms.nd rfl (by first | exact .inl rfl | exact .inr rfl) (pe_c c__law_pick hr (by decide) rfl (pa_cons (pv 0) (pa_cons (pe_lstS (pa_cons pe_int (pa_cons (pe_un un_neg pe_int) (pa_cons pe_int (pa_cons (pe_un un_neg pe_int) (pa_cons pe_int (pa_cons (pe_un un_neg pe_int) (pa_cons pe_int (pa_cons (pe_un un_neg pe_int) (pa_cons pe_int (pa_cons (pe_un un_neg pe_int) pa_nil))))))))))) pa_nil))))
  (pss_one (ps_mid (ps_if (PW.pt (pw_and (pt_cmpR op_gt (pe_c c__law_roll hr (by decide) rfl (pa_cons (pv 0) (pa_cons pe_int pa_nil))) pe_int (nomark _)) (pw_and1 (pt_cmpR op_lt (pe_callB call_len_seq (by rfl) T.b_len (by decide +kernel) (pa_cons (pv 3) pa_nil)) (pv 2) (nomark _)))))
    (pss_one (ps_expr (pe_bm PySem.F.plainAttrs_list PySem.F.slot_list_append PySem.F.type_list_append mt_append (pv 3) (pa_cons (pe_tupS (pa_cons (pv 4) (pa_cons (pv 5) pa_nil))) pa_nil))))
    pss_nil)))))
  (pss_one (ps_ret (pv 3))))), ?_⟩
    refine ⟨Nat.zero_le _, fun F0 H1 n1 s1 h1 => ?_⟩
    refine ⟨_, rfl, p, zs, rfl, SqL.of (s1 _ _ hp), by omega, fun ys q hpm hs hnq => ?_⟩
    have s2 := s1.trans (Same.new hnq (o := .lst (ys.map V.str)))
    have hq1 : upd H1 q (.lst (ys.map V.str)) q = some (.lst (ys.map V.str)) := upd_same
    have hF1 := (Same.new hnq (o := .lst (ys.map V.str))) _ _ h1
    generalize upd H1 q (.lst (ys.map V.str)) = H2 at s2 hq1 hF1 ⊢
    have ndy : ys.Nodup := hpm.nodup_iff.mpr nd
    have asc := sorted_asc hs ndy
    have ly : ys.length ≤ 20 := by rw [hpm.length_eq]; exact lz
    have fr : ∀ b o, H b = some o → b ≠ F0 := fun b o e => ne_of_none e n1
    refine ⟨q, rfl, ⟨_, SqL.of hq1⟩, for_it walk_list (fun i σ H' => ∃ (x4 x5 : Option V) (ps : List Addr) (ts : Tms), σ = [some (.ref a), some (.ref p), some (.int n), some (.ref F0), x4, x5] ∧ Same H H' ∧ H' q = some (.lst (ys.map V.str)) ∧ H' F0 = some (.lst (ps.map V.ref)) ∧ Prs H' ps ts ∧ (ts.map (·.1)).Sublist (ys.take i) ∧ ∀ e ∈ ts, Fa99 e.2)
      ⟨_, _, [], [], rfl, s2, hq1, hF1, .nil, .slnil, nofun⟩ (fun i σ H' _ ⟨_, _, _, _, _, _, h, _⟩ => SqL.of h) ?_ ?_⟩
    · rintro i x σ H3 H3' hi ⟨x4, x5, ps, ts, rfl, s3, hq3, hF3, hps, sub, fa⟩ ⟨rfl, hx⟩
      rw [List.getElem?_map] at hx
      obtain ⟨z, hz, rfl⟩ := Option.map_eq_some_iff.mp hx
      have tk : ys.take (i + 1) = ys.take i ++ [z] := by
        rw [List.take_add_one, hz]
        rfl
      have lps : ps.length ≤ i := by
        have := sub.length_le
        rw [List.length_map, ← hps.len, List.length_take] at this
        omega
      have i20 : i < 20 := by
        have := (List.getElem?_eq_some_iff.mp hz).1
        omega
      refine ⟨_, rfl, _, rfl, _, rfl, _, rfl, _, rfl, _, rfl, (by show 10 ≤ sizeLine; decide), fun g H4 ng s4 hg => ?_⟩
      have hg : H4 g = some (.lst (facL.map V.int)) := hg
      refine ⟨a, _, _, rfl, s4 _ _ (s3 _ _ ha), Pick.lst (SqL.of hg) (by decide) (by decide), fun v hv => ?_⟩
      obtain ⟨f, hf, rfl⟩ := List.mem_map.mp hv
      have hfa := fac_ok f hf
      have hF4 := s4 _ _ hF3
      have keep : ∃ (x4 x5 : Option V) (ps : List Addr) (ts : Tms), [some (V.ref a), some (.ref p), some (.int n), some (.ref F0), some (.str z), some (.int f)] = [some (V.ref a), some (.ref p), some (.int n), some (.ref F0), x4, x5] ∧ Same H H4 ∧ H4 q = some (.lst (ys.map V.str)) ∧ H4 F0 = some (.lst (ps.map V.ref)) ∧ Prs H4 ps ts ∧ (ts.map (·.1)).Sublist (ys.take (i + 1)) ∧ ∀ e ∈ ts, Fa99 e.2 :=
        ⟨_, _, ps, ts, rfl, s3.trans s4, s4 _ _ hq3, hF4, hps.same s4, by rw [tk]; exact sub.trans (List.sublist_append_left _ _), fa⟩
      refine ⟨fun σ' H' => ∃ (x4 x5 : Option V) (ps : List Addr) (ts : Tms), σ' = [some (V.ref a), some (.ref p), some (.int n), some (.ref F0), x4, x5] ∧ Same H H' ∧ H' q = some (.lst (ys.map V.str)) ∧ H' F0 = some (.lst (ps.map V.ref)) ∧ Prs H' ps ts ∧ (ts.map (·.1)).Sublist (ys.take (i + 1)) ∧ ∀ e ∈ ts, Fa99 e.2, ?_, fun σ' H' h => h⟩
      refine ⟨_, rfl, a, 3, rfl, s4 _ _ (s3 _ _ ha), by decide, by decide, fun r r0 r1 => ⟨_, _, rfl, rfl, _, rfl, ite2 (fun _ => ?_) fun _ => ?_⟩⟩
      · refine ⟨_, rfl, F0, _, rfl, .inl (SqL.of hF4), _, rfl, _, _, rfl, rfl, _, rfl, ite2 (fun _ => ?_) fun _ => keep⟩
        refine ⟨_, rfl, .inl ⟨rfl, _, SqL.of hF4⟩, _, rfl, _, rfl, (by show 2 ≤ sizeLine; decide), fun t H5 nt s5 ht => ⟨F0, _, _, rfl, rfl, s5 _ _ hF4, ?_, ?_⟩⟩
        · rw [List.length_map]
          exact Nat.lt_of_le_of_lt (show ps.length ≤ 20 by omega) (by decide)
        · have hq5 := s5 _ _ (s4 _ _ hq3)
          have tne : ∀ b z, H5 b = some (.tup z) → b ≠ F0 := fun b z e c => by
            rw [c, s5 _ _ hF4] at e
            cases e
          refine ⟨_, _, ps ++ [t], ts ++ [(z, f)], rfl, fun b o e => ?_, ?_, ?_, ?_, ?_, ?_⟩
          · rw [upd_ne (fr b o e)]
            exact s5 _ _ (s4 _ _ (s3 _ _ e))
          · rw [upd_ne (fun c => by rw [c] at hnq; rw [h1] at hnq; cases hnq)]
            exact hq5
          · rw [upd_same, List.map_append]
            rfl
          · exact (((hps.same s4).same s5).snoc ht).tups fun b z e => by
              rw [upd_ne (tne b z e)]
              exact e
          · rw [tk, List.map_append]
            exact sub.append (List.Sublist.refl _)
          · intro e he
            rcases List.mem_append.mp he with h | h
            · exact fa e h
            · rw [List.mem_singleton.mp h]
              exact hfa
      · exact keep
    · rintro σ H3 ⟨x4, x5, ps, ts, rfl, s3, hq3, hF3, hps, sub, fa⟩
      rw [List.length_map, List.take_length] at sub
      have mz : ∀ e ∈ ts, e.1 ∈ zs := fun e he => hpm.mem_iff.mp (sub.subset (List.mem_map_of_mem he))
      refine ⟨_, rfl, k F0 H3 ts s3 n1 ⟨ps, hF3, hps⟩ ⟨asc_of (asc.sublist sub), fun e he => (fa e he).nz⟩ (fun e he => ?_) mz⟩
      have := sy e.1 (mz e he)
      exact ⟨⟨this.len, this.ok⟩, this.sym, fa e he⟩
end
end Lw

/-! ## FmL -/
set_option maxHeartbeats 1000000
namespace Lw
open PySem PySem.Spec PyProof.Rows L2
open Fm (cf Asc Nm)
abbrev s__law_text : Stmt := topS 59
abbrev n__law_text : List Str := ["_law_terms_here", "_law_line", "_law_symbol", "_law_factor", "_law_word"]
theorem sc__law_text : FnScope n__law_text ["_law_terms_here"] (defScope s__law_text) := ⟨rfl, rfl, rfl, by decide +kernel, rfl, by decide +kernel, by decide +kernel⟩
def spLText : Sp := fun vs H Q _ => ∃ (p : Addr) (ts : Tms), vs = [.ref p] ∧ LTerms H p ts ∧ Bd 60 1000 ts ∧ SyB ts ∧ ∀ H', Same H H' → Q (.str (Fm.textS ts)) H'
theorem sgnM_len (f : Int) : (Fm.sgnM f).length ≤ 3 := by
  unfold Fm.sgnM
  split <;> decide
theorem sgn1_len (f : Int) : (Fm.sgn1 f).length ≤ 1 := by
  unfold Fm.sgn1
  split <;> decide
section
variable {P : Program} {w : World} {K : PySem.W.Frag} {mg : Str → Option Value} {base : Heap}
theorem ok_law_text {f : Addr} {fd : FuncData} (F : Fun K "_law_text" "_law_text" s__law_text f fd) (T : Ta mg) : FnG P w K mg base 1 f fd ["_law_terms_here"] spLText := by
  refine okG F sc__law_text (fun vs H Q E h => ?_) (fun cdv A outer s H vs Q hr h => ?_)
  · obtain ⟨p, ts, rfl, _⟩ := h
    rfl
  · obtain ⟨p, ts, rfl, ⟨ps, hp, pr⟩, ⟨bl, bb⟩, sy, k⟩ := h
    refine ⟨_, (pss_cons (ps_set (i := 1) sc__law_text.nd rfl (by first | exact .inl rfl | exact .inr rfl) pe_str)
  (pss_cons (ps_for PassesOwn.never rfl (pi_list (pv 0)) (pg_tup rfl (pgs_cons (pg_name (i := 2) sc__law_text.nd rfl (by first | exact .inl rfl | exact .inr rfl)) (pgs_cons (pg_name (i := 3) sc__law_text.nd rfl (by first | exact .inl rfl | exact .inr rfl)) pgs_nil)))
    (pss_cons (ps_set (i := 4) sc__law_text.nd rfl (by first | exact .inl rfl | exact .inr rfl) (pe_mid (pe_ifExp (pt_cmpR op_eq (pe_callB call_abs (by rfl) T.b_abs (by decide +kernel) (pa_cons (pv 3) pa_nil)) pe_int (nomark _)) (pv 2) (pe_op op_add_str (pe_op op_add_str (pe_callTy call_str_int (by rfl) T.b_str (by decide +kernel) (pa_cons (pe_callB call_abs (by rfl) T.b_abs (by decide +kernel) (pa_cons (pv 3) pa_nil)) pa_nil)) pe_str) (pv 2)))))
  (pss_one (ps_mid (ps_if (pt_cmpR op_eq (pv 1) pe_str (nomark _))
    (pss_one (ps_set (i := 1) sc__law_text.nd rfl (by first | exact .inl rfl | exact .inr rfl) (pe_op op_add_str (pe_mid (pe_ifExp (pt_cmpR op_lt (pv 3) pe_int (nomark _)) pe_str pe_str)) (pv 4))))
    (pss_one (ps_set (i := 1) sc__law_text.nd rfl (by first | exact .inl rfl | exact .inr rfl) (pe_op op_add_str (pe_op op_add_str (pv 1) (pe_mid (pe_ifExp (pt_cmpR op_lt (pv 3) pe_int (nomark _)) pe_str pe_str))) (pv 4)))))))))
  (pss_one (ps_ret (pe_mid (pe_ifExp (pt_cmpR op_ne (pv 1) pe_str (nomark _)) (pv 1) pe_str)))))), ?_⟩
    have lps := pr.len
    have big : ∀ {n : Nat}, n ≤ 200000 → n ≤ sizeLine := fun h => Nat.le_trans h (by decide)
    refine ⟨_, rfl, p, rfl, ⟨_, SqL.of hp⟩, for_it walk_list (fun i σ H' => ∃ (l : Str) (x2 x3 x4 : Option V), σ = [some (.ref p), some (.str l), x2, x3, x4] ∧ Same H H' ∧ Fm.lineS l (ts.drop i) = Fm.lineS "" ts ∧ l.length ≤ 1940 * i)
      ⟨_, _, _, _, rfl, Same.refl H, rfl, by decide⟩ (fun i σ H' _ ⟨_, _, _, _, _, s', _⟩ => SqL.of (s' _ _ hp)) ?_ ?_⟩
    · rintro i x σ H2 H2' hi ⟨l, x2, x3, x4, rfl, s2, hl, ll⟩ ⟨rfl, hx⟩
      obtain ⟨q, e, rfl, hiq, hpq⟩ := pr.get hx
      obtain ⟨z, g⟩ := e
      have li : i < ts.length := (List.getElem?_eq_some_iff.mp hiq).1
      have gb : g.natAbs < 2 ^ 1000 := bb _ (List.mem_of_getElem? hiq)
      have sl : z.length ≤ 8 := (sy _ (List.mem_of_getElem? hiq)).1
      have wl := word_len sl gb
      have dr : ts.drop i = (z, g) :: ts.drop (i + 1) := by
        rw [List.drop_eq_getElem_cons li, (List.getElem?_eq_some_iff.mp hiq).2]
      rw [dr] at hl
      refine ⟨q, _, rfl, SqT.of (s2 _ _ hpq), rfl, _, _, rfl, _, _, rfl, rfl, ?_⟩
      refine ⟨fun v H' => v = .str (Fm.wordS z g) ∧ H' = H2', ⟨_, rfl, g, rfl, rfl, _, rfl, ite2 (fun h1 => ?_) fun h1 => ?_⟩, ?_⟩
      · have e : Fm.absI g = 1 := by simpa [Fm.absI] using h1
        exact ⟨_, rfl, by rw [show Fm.wordS z g = z from if_pos e], rfl⟩
      · have e : ¬ Fm.absI g = 1 := by simpa [Fm.absI] using h1
        have ln := num_len gb
        refine ⟨_, rfl, g, rfl, _, rfl, log_of gb, _, _, rfl, rfl, ?_, _, rfl, _, _, rfl, rfl, ?_, ?_⟩
        · show (Fm.numS g).length + 1 ≤ sizeLine
          exact big (by omega)
        · show (Fm.numS g ++ ("*" : Str)).length + _ ≤ sizeLine
          rw [lenapp]
          refine big ?_
          show (Fm.numS g).length + 1 + z.length ≤ 200000
          omega
        · exact ⟨congrArg V.str ((if_neg e).symm : Fm.numS g ++ ("*" : Str) ++ z = Fm.wordS z g), rfl⟩
      · rintro v H' ⟨rfl, rfl⟩
        have s3 := sgnM_len g
        have s1 := sgn1_len g
        have l60 : 1940 * i ≤ 116400 := by omega
        refine ⟨fun σ' H3 => σ' = [some (.ref p), some (.str (if l = "" then Fm.sgn1 g ++ Fm.wordS z g else l ++ Fm.sgnM g ++ Fm.wordS z g)), some (.str z), some (.int g), some (.str (Fm.wordS z g))] ∧ H3 = H', ⟨_, rfl, rfl, _, rfl, ite2 (fun he => ?_) fun he => ?_⟩, ?_⟩
        · have e : l = "" := V.str.inj (of_decide_eq_true he)
          rw [if_pos e]
          refine ⟨fun v H3 => v = .str (Fm.sgn1 g) ∧ H3 = H', ⟨_, rfl, _, _, rfl, rfl, _, rfl, ite2 (fun hg => ?_) fun hg => ?_⟩, ?_⟩
          · rw [show Fm.sgn1 g = "-" from if_pos (of_decide_eq_true hg)]
            exact ⟨rfl, rfl⟩
          · rw [show Fm.sgn1 g = "" from if_neg (fun q => hg (decide_eq_true q))]
            exact ⟨rfl, rfl⟩
          · rintro v H3 ⟨rfl, rfl⟩
            exact ⟨_, rfl, _, _, rfl, rfl, big (by omega), rfl, rfl⟩
        · have e : ¬ l = "" := fun q => he (decide_eq_true (congrArg V.str q))
          rw [if_neg e]
          refine ⟨_, rfl, fun v H3 => v = .str (Fm.sgnM g) ∧ H3 = H', ⟨_, rfl, _, _, rfl, rfl, _, rfl, ite2 (fun hg => ?_) fun hg => ?_⟩, ?_⟩
          · rw [show Fm.sgnM g = " - " from if_pos (of_decide_eq_true hg)]
            exact ⟨rfl, rfl⟩
          · rw [show Fm.sgnM g = " + " from if_neg (fun q => hg (decide_eq_true q))]
            exact ⟨rfl, rfl⟩
          · rintro v H3 ⟨rfl, rfl⟩
            refine ⟨_, _, rfl, rfl, big (by omega), _, rfl, _, _, rfl, rfl, ?_, rfl, rfl⟩
            rw [lenapp]
            exact big (by omega)
        · rintro σ' H3 ⟨rfl, rfl⟩
          refine ⟨_, _, _, _, rfl, s2, hl, ?_⟩
          split
          · rw [lenapp]
            omega
          · rw [lenapp, lenapp]
            omega
    · rintro σ H2 ⟨l, x2, x3, x4, rfl, s2, hl, ll⟩
      rw [List.length_map, lps, List.drop_length] at hl
      have hl : l = Fm.lineS "" ts := hl
      refine ⟨fun v H3 => v = .str (Fm.textS ts) ∧ H3 = H2, ⟨_, rfl, rfl, _, rfl, ite2 (fun he => ?_) fun he => ?_⟩, ?_⟩
      · have e : ¬ l = "" := fun q => by
          rw [q] at he
          exact absurd he (by decide)
        refine ⟨_, rfl, ?_, rfl⟩
        rw [show Fm.textS ts = Fm.lineS "" ts from if_neg (hl ▸ e), hl]
      · have e : l = "" := Decidable.of_not_not fun q => he (by
          rw [decide_eq_false fun c => q (V.str.inj c)]
          rfl)
        refine ⟨?_, rfl⟩
        rw [show Fm.textS ts = "0" from if_pos (hl ▸ e)]
      · rintro v H3 ⟨rfl, rfl⟩
        exact k _ s2
end
end Lw

/-! ## CdA -/
set_option maxHeartbeats 1000000
namespace Lw
open PySem PySem.Spec PyProof.Rows L2
open Fm (cf Asc Nm)
abbrev s_Condition_init : Stmt := inClass (topS 39) 1
abbrev n_Condition_init : List Str := ["self", "forms", "conditions", "part", "symbol"]
theorem sc_Condition_init : FnScope n_Condition_init ["self", "forms", "conditions"] (defScope s_Condition_init) := ⟨rfl, rfl, rfl, by decide +kernel, rfl, by decide +kernel, by decide +kernel⟩
section
variable {X : Cx} {K : PySem.W.Frag} {e l tg : Expr} {f : Str} {pos : Pos} {ta tl : TE}
/-- () -/
theorem pe_tup0F {x1} : PE X (.Tuple [] x1 pos) (fun σ H Q => ∀ p H', H p = none → Same H H' → TupF H' p [] → Q (.ref p) H') := ⟨fun pins s σ H Q I hq => wpAny_Tuple_spliced (Calls.spliced_nil ⟨Nat.zero_le _, by
  have hf : H s.heap.objs.size = none := I.hok.fresh (Nat.le_refl _)
  have I2 : Inv X pins σ (upd H s.heap.objs.size (.frz { cls := .type "tuple", data := .seq #[] } (.tup []))) { s with heap := s.heap.push { cls := .type "tuple", data := .seq #[] } } :=
    I.laid (t' := s.toks) (fun b o e => Heap.get?_push_of_some _ e) (Nat.le_refl _) (show ObjOk X.prog X.w _ _ _ (.frz _ (.tup [])) from ⟨Heap.get?_push_size _ rfl, Nat.zero_le _, [], .nil, IsTup.new _ _⟩)
  exact ⟨.ref s.heap.objs.size, _, I2, rfl, hq _ _ hf (Same.new hf) ⟨_, rfl, upd_same⟩⟩⟩)⟩
theorem pe_fldB (hK : X.K = K) (he : PE X e ta) (hb : attributeBase e f X.env (eval e X.env) = eval e X.env) : PE X (.Attribute e f pos) (tFld K ta f) := by
  subst hK
  exact pe_fld he hb
theorem pi_tupB (hK : X.K = K) (hl : PE X l tl) : PI X tg l (iTup K tl) := by
  subst hK
  exact pi_tup hl
end
/-- what the program's conditions need of the names of the module -/
structure Tc (mg : Str → Option Value) : Prop where
  b_any : mg "any" = none
  b_super : mg "super" = none
  g_MAX_PARTS : ∃ u, mg "MAX_PARTS" = some u ∧ RelV (.int 12) u
  g_MAX_DEPTH : ∃ u, mg "MAX_DEPTH" = some u ∧ RelV (.int 4) u
/-- a class of conditions -/
structure Kc (K : PySem.W.Frag) (C : Addr) : Prop where
  cls : Cls K C
  nF : NoAttr K C "forms"
  nC : NoAttr K C "conditions"
  nS : NoAttr K C "symbols"
  nP : NoAttr K C "parts"
  nD : NoAttr K C "depth"
/-- H' keeps all of H but x -/
def Off (x : Addr) (H H' : Hp) : Prop := ∀ b o, b ≠ x → H b = some o → H' b = some o
theorem Off.refl (x : Addr) (H : Hp) : Off x H H := fun _ _ _ e => e
theorem Off.trans {x : Addr} {H H1 H2 : Hp} (a : Off x H H1) (b : Off x H1 H2) : Off x H H2 := fun c o n e => b c o n (a c o n e)
theorem Off.same {x : Addr} {H H' : Hp} (s : Same H H') : Off x H H' := fun b o _ e => s b o e
theorem Off.put {x : Addr} {H : Hp} {o : HO} : Off x H (upd H x o) := fun b u n e => by
  rw [upd_ne n]
  exact e
theorem sqT_off {K : PySem.W.Frag} {H H' : Hp} {x C dx b : Addr} {fs : List (Str × V)} {xs : List V} (s : Off x H H') (hx : H x = some (.ins C dx fs)) (h : SqT K H b xs) : SqT K H' b xs :=
  h.imp (fun h => h.imp (fun h => s _ _ (fun e => by rw [e, hx] at h; cases h) h) fun ⟨o, h⟩ => ⟨o, s _ _ (fun e => by rw [e, hx] at h; cases h) h⟩) id
/-- an object of which the symbols are known -/
def SymAt (K : PySem.W.Frag) (H : Hp) (v : V) (zs : List Str) : Prop := ∃ a C dx fs u, v = .ref a ∧ H a = some (.ins C dx fs) ∧ fs.lookup ("symbols" : Str) = some (V.ref u) ∧ Cls K C ∧ NoAttr K C "symbols" ∧ SqT K H u (zs.map V.str)
/-- one of which the parts and the depth are -/
def NumAt (K : PySem.W.Frag) (H : Hp) (v : V) (n d : Int) : Prop := ∃ a C dx fs, v = .ref a ∧ H a = some (.ins C dx fs) ∧ fs.lookup ("parts" : Str) = some (V.int n) ∧ fs.lookup ("depth" : Str) = some (V.int d) ∧ Cls K C ∧ NoAttr K C "parts" ∧ NoAttr K C "depth"
section
variable {K : PySem.W.Frag} {H H' : Hp} {x C dx : Addr}
theorem SymAt.off {v : V} {zs : List Str} (s : Off x H H') (hx : H x = some (.ins C dx [])) (h : SymAt K H v zs) : SymAt K H' v zs := by
  obtain ⟨a, C', dx', fs, u, rfl, ha, l, c, n, hu⟩ := h
  refine ⟨a, C', dx', fs, u, rfl, s _ _ (fun e => ?_) ha, l, c, n, sqT_off s hx hu⟩
  rw [e, hx] at ha
  cases ha
  cases l
theorem NumAt.off {v : V} {n d : Int} (s : Off x H H') (hx : H x = some (.ins C dx [])) (h : NumAt K H v n d) : NumAt K H' v n d := by
  obtain ⟨a, C', dx', fs, rfl, ha, l1, l2, c, n1, n2⟩ := h
  refine ⟨a, C', dx', fs, rfl, s _ _ (fun e => ?_) ha, l1, l2, c, n1, n2⟩
  rw [e, hx] at ha
  cases ha
  cases l1
theorem SymAt.same {v : V} {zs : List Str} (s : Same H H') (h : SymAt K H v zs) : SymAt K H' v zs := by
  obtain ⟨a, C', dx', fs, u, rfl, ha, l, c, n, hu⟩ := h
  exact ⟨a, C', dx', fs, u, rfl, s _ _ ha, l, c, n, sqT_same s hu⟩
theorem NumAt.same {v : V} {n d : Int} (s : Same H H') (h : NumAt K H v n d) : NumAt K H' v n d := by
  obtain ⟨a, C', dx', fs, rfl, ha, r⟩ := h
  exact ⟨a, C', dx', fs, rfl, s _ _ ha, r⟩
end
/-- the fields of a condition -/
def flds (p q r : V) (n d : Int) : List (Str × V) := [("forms", p), ("conditions", q), ("symbols", r), ("parts", .int n), ("depth", .int d)]
/-- an object, to be a condition -/
def spCInit (K : PySem.W.Frag) : Sp := fun vs H Q _ => ∃ (x C dx p q : Addr) (xs ys : List V) (zf : Nat → List Str) (Wd : List Str) (ns ds : List Int), vs = [.ref x, .ref p, .ref q] ∧ H x = some (.ins C dx []) ∧ Kc K C ∧ SqT K H p xs ∧ SqT K H q ys ∧ (xs = [] ∨ ys = []) ∧ xs.length + ys.length ≤ 200 ∧
  Wd.length ≤ 60 ∧ (∀ i z, i < (xs ++ ys).length → z ∈ zf i → z ∈ Wd) ∧ (∀ i v, (xs ++ ys)[i]? = some v → SymAt K H v (zf i)) ∧ ys.length = ns.length ∧ ys.length = ds.length ∧ (∀ i v, ys[i]? = some v → NumAt K H v (ns.getD i 0) (ds.getD i 0)) ∧ 1 + ns.sum ≤ 12 ∧ 1 + topI 0 ds ≤ 4 ∧
  ∀ H' r zs, Off x H H' → H' x = some (.ins C dx (flds (.ref p) (.ref q) (.ref r) (1 + ns.sum) (1 + topI 0 ds))) → TupF H' r (zs.map V.str) → zs.Nodup → sortedS zs = true → (∀ z, z ∈ zs ↔ ∃ i, i < (xs ++ ys).length ∧ z ∈ zf i) → Q .non H'
theorem putF_new {f : Str} {v : V} : ∀ {fs : List (Str × V)}, (∀ q ∈ fs, q.1 ≠ f) → putF f v fs = fs ++ [(f, v)]
  | [], _ => rfl
  | (g, u) :: r, h => by
    show (if g = f then _ else _) = _
    rw [if_neg (h _ List.mem_cons_self), putF_new fun q m => h q (List.mem_cons_of_mem _ m)]
    rfl
theorem range_getD {α β : Type} {f : Nat → β} {l : List α} {g : α → β} (d : α) (h : ∀ i, i < l.length → f i = g (l.getD i d)) : (List.range l.length).map f = l.map g := by
  apply List.ext_getElem?
  intro i
  rw [List.getElem?_map, List.getElem?_map]
  by_cases hi : i < l.length
  · rw [List.getElem?_range hi, List.getElem?_eq_getElem hi]
    show some (f i) = some _
    rw [h i hi, List.getD_eq_getElem?_getD, List.getElem?_eq_getElem hi]
    rfl
  · rw [List.getElem?_eq_none (by rw [List.length_range]; omega), List.getElem?_eq_none (by omega)]
    rfl
theorem TupF.put {H : Hp} {x C dx t : Addr} {fs gs : List (Str × V)} {ys : List V} (h : TupF H t ys) (hx : H x = some (.ins C dx fs)) : TupF (upd H x (.ins C dx gs)) t ys := by
  obtain ⟨o, hd, hf⟩ := h
  refine ⟨o, hd, ?_⟩
  rw [upd_ne fun e => by rw [e, hx] at hf; cases hf]
  exact hf
section
variable {P : Program} {w : World} {K : PySem.W.Frag} {mg : Str → Option Value} {base : Heap}
theorem ok_Condition_init {f : Addr} {fd : FuncData} (F : Fun K "__init__" "Condition.__init__" s_Condition_init f fd) (T : Ta mg) (TC : Tc mg) : FnG P w K mg base 1 f fd ["self", "forms", "conditions"] (spCInit K) := by
  refine okG F sc_Condition_init (fun vs H Q E h => ?_) (fun cdv A outer s H vs Q hr h => ?_)
  · obtain ⟨x, C, dx, p, q, xs, ys, zf, Wd, ns, ds, rfl, _⟩ := h
    rfl
  · obtain ⟨x, C, dx, p, q, xs, ys, zf, Wd, ns, ds, rfl, hx, kc, hp, hq, h0, hl, hW, hz, hsy, ln, ld, hnum, hn12, hd4, k⟩ := h
    refine ⟨_, (pss_cons (ps_fld (pv 0) (pv 1) rfl)
  (pss_cons (ps_fld (pv 0) (pv 2) rfl)
  (pss_cons (ps_fld (pv 0) (pe_callTy call_tupleF (by rfl) T.b_tuple (by decide +kernel) (pa_cons (pe_callB (_root_.Lt.call_sortT (by rfl)) (by rfl) T.b_sorted (by decide +kernel) (pa_cons (pe_sx (own := [("part", 3), ("symbol", 4)]) (vs1 := [4]) (g := gName 3) (g1 := gName 4) rfl sc_Condition_init.nd (pi_tup (pe_op op_cat0 (pv 1) (pv 2))) (blkOk_by (own := [("part", 3), ("symbol", 4)]) (N := n_Condition_init) (sc := defScope s_Condition_init) (by decide +kernel)) (by decide) (fun _ _ _ _ _ => pg_name (i := 3) sc_Condition_init.nd rfl (Or.inl rfl)) (fun _ _ _ _ _ => (pi_tupB (K := K) rfl (pe_fldB (K := K) rfl (pv 3) (by rfl)))) (fun _ _ _ _ _ => pg_name (i := 4) sc_Condition_init.nd rfl (Or.inl rfl)) (fun _ _ _ _ _ => (pv 4))) pa_nil)) pa_nil)) rfl)
  (pss_cons (ps_fld (pv 0) (pe_op op_add pe_int (pe_callB (cr_sum (by rfl)) (by rfl) T.b_sum (by decide +kernel) (pa_cons (pe_lc (own := [("part", 3)]) (g := gName 3) (tt := tYes) rfl sc_Condition_init.nd (pi_tup (pv 2)) (blkOk_by (own := [("part", 3)]) (N := n_Condition_init) (sc := defScope s_Condition_init) (by decide +kernel)) (fun _ _ _ _ _ => pg_name (i := 3) sc_Condition_init.nd rfl (Or.inl rfl)) (fun _ _ _ _ _ => pts_nil) (fun _ _ _ _ _ => (pe_fldB (K := K) rfl (pv 3) (by rfl)))) pa_nil))) rfl)
  (pss_cons (ps_fld (pv 0) (pe_op op_add pe_int (pe_callBK (cr_maxDef (by rfl) hr.units) (by rfl) T.b_max (by decide +kernel) (pa_cons (pe_lc (own := [("part", 3)]) (g := gName 3) (tt := tYes) rfl sc_Condition_init.nd (pi_tup (pv 2)) (blkOk_by (own := [("part", 3)]) (N := n_Condition_init) (sc := defScope s_Condition_init) (by decide +kernel)) (fun _ _ _ _ _ => pg_name (i := 3) sc_Condition_init.nd rfl (Or.inl rfl)) (fun _ _ _ _ _ => pts_nil) (fun _ _ _ _ _ => (pe_fldB (K := K) rfl (pv 3) (by rfl)))) pa_nil) (pk_cons pe_int pk_nil))) rfl)
  (pss_cons (ps_if (pt_cmpR op_gt (pe_fld (pv 0) rfl) (pe_gl (v := .int 12) rfl TC.g_MAX_PARTS) (nomark _))
    (pss_one ps_dead)
    pss_nil)
  (pss_one (ps_if (pt_cmpR op_gt (pe_fld (pv 0) rfl) (pe_gl (v := .int 4) rfl TC.g_MAX_DEPTH) (nomark _))
    (pss_one ps_dead)
    pss_nil)))))))), ?_⟩
    have l1 : putF "forms" (.ref p) [] = [(("forms" : Str), V.ref p)] := rfl
    have l2 : putF "conditions" (.ref q) [(("forms" : Str), V.ref p)] = [(("forms" : Str), V.ref p), ("conditions", .ref q)] := putF_new (by simp; decide)
    refine ⟨_, rfl, _, rfl, x, C, dx, [], rfl, hx, kc.cls, kc.nF, by simp, ?_⟩
    rw [l1]
    refine ⟨_, rfl, _, rfl, x, C, dx, _, rfl, upd_same, kc.cls, kc.nC, by simp, ?_⟩
    rw [l2]
    have o2 : Off x H (upd (upd H x (.ins C dx [("forms", .ref p)])) x (.ins C dx [(("forms" : Str), V.ref p), ("conditions", .ref q)])) := Off.put.trans Off.put
    have x2 : upd (upd H x (.ins C dx [("forms", .ref p)])) x (.ins C dx [(("forms" : Str), V.ref p), ("conditions", .ref q)]) x = some (.ins C dx [(("forms" : Str), V.ref p), ("conditions", .ref q)]) := upd_same
    generalize upd (upd H x (.ins C dx [("forms", .ref p)])) x (.ins C dx [(("forms" : Str), V.ref p), ("conditions", .ref q)]) = H2 at o2 x2 ⊢
    refine ⟨_, rfl, _, rfl, p, q, xs, ys, rfl, rfl, sqT_off o2 hx hp, sqT_off o2 hx hq, h0, Nat.le_trans hl (by decide), fun pq hpq => ?_⟩
    refine ⟨pq, rfl, ⟨_, hpq⟩, fun D hD => sx_tt zf Wd (by omega) hz hD hpq (fun i v H3 P0 hi s3 pk => ?_) fun H3 us s3 hu nd lu mem => ?_⟩
    · refine ⟨rfl, ?_⟩
      obtain ⟨a, C', dx', fs, u, rfl, ha, lk, cl, na, hv⟩ := ((hsy i v hi).off o2 hx).same s3
      exact ⟨_, rfl, a, C', dx', fs, _, rfl, ha, cl, na, lk, u, rfl, ⟨_, hv⟩, pk _ u hv fun z H' Q h => ⟨rfl, _, rfl, h⟩⟩
    · have o3 := o2.trans (Off.same s3)
      have x3 := s3 _ _ x2
      refine ⟨D, us, rfl, hu, by omega, fun zs t hpm hso hnt => ?_⟩
      have s4 : Same H3 (upd H3 t (.lst (zs.map V.str))) := Same.new hnt
      have t4 : upd H3 t (.lst (zs.map V.str)) t = some (.lst (zs.map V.str)) := upd_same
      generalize upd H3 t (.lst (zs.map V.str)) = H4 at s4 t4 ⊢
      refine ⟨t, _, rfl, SqL.of t4, fun r H5 hr s5 tr => ?_⟩
      have o5 := (o3.trans (Off.same s4)).trans (Off.same s5)
      have x5 := s5 _ _ (s4 _ _ x3)
      refine ⟨_, rfl, x, C, dx, _, rfl, x5, kc.cls, kc.nS, by simp, ?_⟩
      have l3 : putF "symbols" (.ref r) [(("forms" : Str), V.ref p), ("conditions", .ref q)] = [(("forms" : Str), V.ref p), ("conditions", .ref q), ("symbols", .ref r)] := putF_new (by simp; decide)
      rw [l3]
      have tr6 : TupF (upd H5 x (.ins C dx [(("forms" : Str), V.ref p), ("conditions", .ref q), ("symbols", .ref r)])) r (zs.map V.str) := by
        obtain ⟨o, od, ho⟩ := tr
        refine ⟨o, od, ?_⟩
        rw [upd_ne fun e => by rw [e, x5] at ho; cases ho]
        exact ho
      have o6 := o5.trans (Off.put (x := x) (H := H5) (o := .ins C dx [(("forms" : Str), V.ref p), ("conditions", .ref q), ("symbols", .ref r)]))
      have x6 : upd H5 x (.ins C dx [(("forms" : Str), V.ref p), ("conditions", .ref q), ("symbols", .ref r)]) x = some (.ins C dx [(("forms" : Str), V.ref p), ("conditions", .ref q), ("symbols", .ref r)]) := upd_same
      generalize upd H5 x (.ins C dx [(("forms" : Str), V.ref p), ("conditions", .ref q), ("symbols", .ref r)]) = H6 at o6 x6 tr6 ⊢
      have q6 := sqT_off o6 hx hq
      refine ⟨_, rfl, q, rfl, ⟨_, q6⟩, fun D2 hD2 => lc_fn (walk_tup (K := K) (a := q) (xs := ys)) (fun i => .int (ns.getD i 0)) (by omega) hD2 (fun H' s' => sqT_same s' q6) (fun i v H7 H7' Q' hi s7 y kq => ?_) fun H7 s7 d7 => ?_⟩
      · obtain ⟨rfl, hv⟩ := y
        obtain ⟨a, C', dx', fs, rfl, ha, lk, _, cl, na, _⟩ := ((hnum i v hv).off o6 hx).same s7
        exact ⟨rfl, _, rfl, a, C', dx', fs, _, rfl, ha, cl, na, lk, kq _ (Same.refl _)⟩
      rw [ln, range_getD (l := ns) (g := V.int) 0 (fun i _ => rfl)] at d7
      refine ⟨D2, ns, rfl, SqL.of d7, _, _, rfl, rfl, _, rfl, x, C, dx, _, rfl, s7 _ _ x6, kc.cls, kc.nP, by simp, ?_⟩
      have l4 : ∀ v, putF "parts" v [(("forms" : Str), V.ref p), ("conditions", .ref q), ("symbols", .ref r)] = [(("forms" : Str), V.ref p), ("conditions", .ref q), ("symbols", .ref r), ("parts", v)] := fun v => putF_new (by simp; decide)
      rw [l4]
      have o7 := (o6.trans (Off.same s7)).trans (Off.put (x := x) (H := H7) (o := .ins C dx [(("forms" : Str), V.ref p), ("conditions", .ref q), ("symbols", .ref r), ("parts", .int (1 + ns.sum))]))
      have x7 : upd H7 x (.ins C dx [(("forms" : Str), V.ref p), ("conditions", .ref q), ("symbols", .ref r), ("parts", .int (1 + ns.sum))]) x = some (.ins C dx [(("forms" : Str), V.ref p), ("conditions", .ref q), ("symbols", .ref r), ("parts", .int (1 + ns.sum))]) := upd_same
      have tr7 := (tr6.same s7).put (s7 _ _ x6) (gs := [(("forms" : Str), V.ref p), ("conditions", .ref q), ("symbols", .ref r), ("parts", .int (1 + ns.sum))])
      generalize upd H7 x (.ins C dx [(("forms" : Str), V.ref p), ("conditions", .ref q), ("symbols", .ref r), ("parts", .int (1 + ns.sum))]) = H8 at o7 x7 tr7 ⊢
      have q8 := sqT_off o7 hx hq
      refine ⟨_, rfl, q, rfl, ⟨_, q8⟩, fun D3 hD3 => lc_fn (walk_tup (K := K) (a := q) (xs := ys)) (fun i => .int (ds.getD i 0)) (by omega) hD3 (fun H' s' => sqT_same s' q8) (fun i v H9 H9' Q' hi s9 y kq => ?_) fun H9 s9 d9 => ?_⟩
      · obtain ⟨rfl, hv⟩ := y
        obtain ⟨a, C', dx', fs, rfl, ha, _, lk, cl, _, na⟩ := ((hnum i v hv).off o7 hx).same s9
        exact ⟨rfl, _, rfl, a, C', dx', fs, _, rfl, ha, cl, na, lk, kq _ (Same.refl _)⟩
      rw [ld, range_getD (l := ds) (g := V.int) 0 (fun i _ => rfl)] at d9
      refine ⟨D3, ds, 0, rfl, rfl, SqL.of d9, _, _, rfl, rfl, _, rfl, x, C, dx, _, rfl, s9 _ _ x7, kc.cls, kc.nD, by simp, ?_⟩
      have l5 : ∀ v d, putF "depth" (.int d) [(("forms" : Str), V.ref p), ("conditions", .ref q), ("symbols", .ref r), ("parts", .int v)] = flds (.ref p) (.ref q) (.ref r) v d := fun v d => putF_new (by simp; decide)
      rw [l5]
      have o9 := (o7.trans (Off.same s9)).trans (Off.put (x := x) (H := H9) (o := .ins C dx (flds (.ref p) (.ref q) (.ref r) (1 + ns.sum) (1 + topI 0 ds))))
      have x9 : upd H9 x (.ins C dx (flds (.ref p) (.ref q) (.ref r) (1 + ns.sum) (1 + topI 0 ds))) x = some (.ins C dx (flds (.ref p) (.ref q) (.ref r) (1 + ns.sum) (1 + topI 0 ds))) := upd_same
      have tr9 := (tr7.same s9).put (s9 _ _ x7) (gs := flds (.ref p) (.ref q) (.ref r) (1 + ns.sum) (1 + topI 0 ds))
      generalize upd H9 x (.ins C dx (flds (.ref p) (.ref q) (.ref r) (1 + ns.sum) (1 + topI 0 ds))) = H10 at o9 x9 tr9 ⊢
      refine ⟨_, rfl, x, C, dx, _, _, rfl, x9, kc.cls, kc.nP, rfl, _, _, rfl, rfl, _, rfl, ite2 (fun h => absurd (of_decide_eq_true h) (by omega)) fun _ => ?_⟩
      refine ⟨_, rfl, x, C, dx, _, _, rfl, x9, kc.cls, kc.nD, rfl, _, _, rfl, rfl, _, rfl, ite2 (fun h => absurd (of_decide_eq_true h) (by omega)) fun _ => ?_⟩
      refine k H10 r zs o9 x9 tr9 (hpm.nodup_iff.mpr nd) hso fun z => ?_
      rw [hpm.mem_iff, mem]
end
end Lw

/-! ## FpB -/
set_option maxHeartbeats 1000000
namespace Lw
open PySem PySem.Spec PyProof.Rows L2
open Fm (cf Asc Nm)
/-- two promises of one def -/
theorem FnG.or {P : Program} {w : World} {K : PySem.W.Frag} {mg : Str → Option Value} {base : Heap} {k : Nat} {f : Addr} {fd : FuncData} {ps : List Str} {sp sp' : Sp} (F : FnG P w K mg base k f fd ps sp) (F' : FnG P w K mg base k f fd ps sp') :
    FnG P w K mg base k f fd ps (fun vs H Q E => sp vs H Q E ∨ sp' vs H Q E) :=
  ⟨fun vs H Q E h => h.elim (F.len _ _ _ _) (F'.len _ _ _ _), fun A outer s H args us vs Q hr he hb hv h => h.elim (F.run A outer s H args us vs Q hr he hb hv) (F'.run A outer s H args us vs Q hr he hb hv)⟩
/-- what leaves a lambda's body -/
theorem takesL {X : Cx} {A : Around} {outer : List Env} {s : Shared} {H : Hp} {E : XK} {scope : Scope} {f c' : Addr} : L2N.Takes (lamN X A outer s H E scope f c') (fun cls d _ H => E cls d H) := L2N.takes_of rfl rfl rfl rfl
/-! the program's functions, where they raise -/
/-- an error of one field, its class and value told -/
def Er1 (C : Addr) (n : Str) (v : V) (H : Hp) (E : XK) : Prop := ∀ H1, Same H H1 → ∀ d, H1 d = none → E (.ref C) (some d) (upd H1 d (.xd [(n, v)]))
theorem Er1.same {C : Addr} {n : Str} {v : V} {H H1 : Hp} {E : XK} (h : Er1 C n v H E) (s : Same H H1) : Er1 C n v H1 E := fun H2 s2 => h H2 (s.trans s2)
/-- what is no whole number, by its type -/
def spNI (K : PySem.W.Frag) : Sp := fun vs H Q _ => ∃ v t, vs = [v] ∧ TyX K H v t ∧ PySem.W.kitOne K t (.type "int") = some false ∧ Q (.bl false) H
def spOdd (K : PySem.W.Frag) (C NF : Addr) : Sp := fun vs H _ E => ∃ v t, vs = [v] ∧ TyX K H v t ∧ PySem.W.kitOne K t (.ref C) = some false ∧ Er1 NF "value" v H E
def spOpX (K : PySem.W.Frag) (C NF : Addr) : Sp := fun vs H _ E => ∃ x v t, vs = [x, v] ∧ TyX K H v t ∧ PySem.W.kitOne K t (.ref C) = some false ∧ Er1 NF "value" v H E
/-- a factor that is none: a truth, or of another type -/
def spMulX (K : PySem.W.Frag) (F : Addr) : Sp := fun vs H _ E => ∃ x v, vs = [x, v] ∧ ((∃ b, v = .bl b) ∨ ∃ t, TyX K H v t ∧ PySem.W.kitOne K t (.type "int") = some false) ∧ Er1 F "value" v H E
section
variable {P : Program} {w : World} {K : PySem.W.Frag} {mg : Str → Option Value} {base : Heap} {C NF IF : Addr}
theorem ok_is_integer2 {f : Addr} {fd : FuncData} (F : Fun K "is_integer" "is_integer" s_is_integer f fd) (T : Ta mg) : FnG P w K mg base 1 f fd ["value"] (spNI K) := by
  refine okG F sc_is_integer (fun vs H Q E h => ?_) (fun cdv A outer s H vs Q hr h => ?_)
  · obtain ⟨v, t, rfl, _⟩ := h
    rfl
  · obtain ⟨v, t, rfl, h, e, k⟩ := h
    refine ⟨_, (pss_one (ps_ret (pe_and (pe_callB call_isi (by rfl) T.b_isinstance (by decide +kernel) (pa_cons (pv 0) (pa_cons (pe_bltn (v := .ty "int") rfl T.b_int (by decide +kernel) rfl) pa_nil))) (pe_one (pe_not (pe_callB call_isi (by rfl) T.b_isinstance (by decide +kernel) (pa_cons (pv 0) (pa_cons (pe_bltn (v := .ty "bool") rfl T.b_bool (by decide +kernel) rfl) pa_nil)))))))), ?_⟩
    exact ⟨_, rfl, v, _, t, _, _, rfl, .ty _, h, e, _, rfl, iteF k⟩
theorem ok_check_formX {f : Addr} {fd : FuncData} (F : Fun K "check_form" "check_form" s_check_form f fd) (T : Ta mg) (C0 : Fc K mg C) (X0 : Ex1 P w K mg base "NotAForm" "ValueError" NF "value") : FnX P w K mg base 3 f fd ["value"] (spOdd K C NF) := by
  refine okX F sc_check_form (fun vs H Q E h => ?_) (fun cdv A outer s H vs Q E hr h => ?_)
  · obtain ⟨v, t, rfl, _⟩ := h
    rfl
  · obtain ⟨v, t, rfl, h, e, k⟩ := h
    refine ⟨_, (pss_one (ps_if (pt_not (pt_val (pe_callB call_isi (by rfl) T.b_isinstance (by decide +kernel) (pa_cons (pv 0) (pa_cons (pe_gl (v := .ref C) rfl C0.g_Form) pa_nil)))))
      (pss_one (ps_err X0 hr (by decide) rfl takesX rfl (pa_cons (pv 0) pa_nil)))
      pss_nil)), ?_⟩
    exact ⟨_, rfl, v, _, t, _, _, rfl, .own _, h, e, _, rfl, iteT ⟨_, rfl, _, rfl, k H (Same.refl H)⟩⟩
variable (c_check_form : CalX P w K mg base 3 "check_form" ["value"] (spOdd K C NF))
include c_check_form in
theorem ok_addX {f : Addr} {fd : FuncData} (F : Fun K "__add__" "Form.__add__" s_Form_add f fd) : FnX P w K mg base 7 f fd ["self", "other"] (spOpX K C NF) := by
  refine okX F sc_Form_add (fun vs H Q E h => ?_) (fun cdv A outer s H vs Q E hr h => ?_)
  · obtain ⟨x, v, t, rfl, _⟩ := h
    rfl
  · obtain ⟨x, v, t, rfl, h⟩ := h
    refine ⟨_, (pss_cons (ps_expr (pe_cx c_check_form hr (by decide) takesX rfl (pa_cons (pv 1) pa_nil))) pss_dead), ?_⟩
    exact ⟨_, rfl, v, t, rfl, h⟩
include c_check_form in
theorem ok_subX {f : Addr} {fd : FuncData} (F : Fun K "__sub__" "Form.__sub__" s_Form_sub f fd) : FnX P w K mg base 7 f fd ["self", "other"] (spOpX K C NF) := by
  refine okX F sc_Form_sub (fun vs H Q E h => ?_) (fun cdv A outer s H vs Q E hr h => ?_)
  · obtain ⟨x, v, t, rfl, _⟩ := h
    rfl
  · obtain ⟨x, v, t, rfl, h⟩ := h
    refine ⟨_, (pss_cons (ps_expr (pe_cx c_check_form hr (by decide) takesX rfl (pa_cons (pv 1) pa_nil))) pss_dead), ?_⟩
    exact ⟨_, rfl, v, t, rfl, h⟩
theorem ok_mulX {f : Addr} {fd : FuncData} (F : Fun K "__mul__" "Form.__mul__" s_Form_mul f fd) (X0 : Ex1 P w K mg base "InvalidFactor" "ValueError" IF "value") (c_is_integer : Cal P w K mg base 1 "is_integer" ["value"] (fun vs H Q E => spB K Tr.whole vs H Q E ∨ spNI K vs H Q E)) :
    FnX P w K mg base 7 f fd ["self", "other"] (spMulX K IF) := by
  refine okX F sc_Form_mul (fun vs H Q E h => ?_) (fun cdv A outer s H vs Q E hr h => ?_)
  · obtain ⟨x, v, rfl, _⟩ := h
    rfl
  · obtain ⟨x, v, rfl, h, k⟩ := h
    refine ⟨_, (pss_cons (ps_if (pt_not (pt_val (pe_c c_is_integer hr (by decide) rfl (pa_cons (pv 1) pa_nil))))
      (pss_one (ps_err X0 hr (by decide) rfl takesX rfl (pa_cons (pv 1) pa_nil)))
      pss_nil) pss_dead), ?_⟩
    rcases h with ⟨b, rfl⟩ | ⟨t, h, e⟩
    · exact ⟨_, rfl, .inl ⟨.bl b, .bl b, rfl, .bl b, fun H1 s1 => ⟨_, rfl, iteT ⟨_, rfl, _, rfl, k H1 s1⟩⟩⟩⟩
    · exact ⟨_, rfl, .inr ⟨v, t, rfl, h, e, _, rfl, iteT ⟨_, rfl, _, rfl, k H (Same.refl H)⟩⟩⟩
end
end Lw

/-! ## FpC -/
set_option maxHeartbeats 1000000
namespace Lw
open PySem PySem.Spec PyProof.Rows L2
open Fm (cf Asc Nm)
abbrev s_table_of : Stmt := topS 22
abbrev n_table_of : List Str := ["values", "symbols", "table", "symbol"]
theorem sc_table_of : FnScope n_table_of ["values", "symbols"] (defScope s_table_of) := ⟨rfl, rfl, rfl, by decide +kernel, rfl, by decide +kernel, by decide +kernel⟩
abbrev s_worth_of : Stmt := topS 26
abbrev n_worth_of : List Str := ["form", "table", "symbol", "factor"]
theorem sc_worth_of : FnScope n_worth_of ["form", "table"] (defScope s_worth_of) := ⟨rfl, rfl, rfl, by decide +kernel, rfl, by decide +kernel, by decide +kernel⟩
def sumE (ts us : Tms) : Int := (ts.map fun q => q.2 * cf us q.1).sum
/-- values, as they are passed -/
structure VOk (us : Tms) : Prop where
  asc : (us.map (·.1)).Pairwise lt'
  len : us.length ≤ 30
  sym : ∀ q ∈ us, (Tr.str q.1).sym = true
  slen : ∀ q ∈ us, q.1.length ≤ 1000
  pos : ∀ q ∈ us, 0 ≤ q.2
  lt : ∀ q ∈ us, q.2.natAbs < 2 ^ 110
theorem VOk.nd {us : Tms} (h : VOk us) : (us.map (·.1)).Nodup := List.Pairwise.imp (S := fun a b => a ≠ b) (fun {a b} (k : lt' a b) (e : a = b) => lt'_irr b (e ▸ k)) h.asc
def prT (us : Tms) : List Tr := us.map fun q => .tup [.str q.1, .int q.2]
theorem prs_all {K : PySem.W.Frag} {H : Hp} : ∀ {ps : List Addr} {us : Tms}, Prs H ps us → (∀ q ∈ us, q.1.length ≤ 1000) → TrAll K H (ps.map V.ref) (prT us)
  | _, _, .nil, _ => .nil
  | _, _, .cons h r, l => .cons (.tup (.inl h) (by show 2 ≤ 40; decide) (.cons (.str _ (l _ List.mem_cons_self)) (.cons (.int _) .nil))) (prs_all r fun q m => l q (List.mem_cons_of_mem _ m))
theorem prT_vals {us : Tms} (h : VOk us) : (Tr.tup (prT us)).vals = true := by
  have e1 : (prT us).all Tr.worth = true := List.all_eq_true.mpr fun t ht => by
    obtain ⟨q, hq, rfl⟩ := List.mem_map.mp ht
    show ((Tr.str q.1).sym && (true && decide (q.2 ≥ 0))) = true
    rw [h.sym q hq, decide_eq_true (h.pos q hq)]
    rfl
  have e2 : (prT us).map Tr.key = us.map (·.1) := by
    rw [prT, List.map_map]
    rfl
  show ((prT us).all Tr.worth && ascB ((prT us).map Tr.key)) = true
  rw [e1, e2, pair_ascB h.asc]
  rfl
theorem cf_lt {us : Tms} (h : VOk us) (s : Str) : (cf us s).natAbs < 2 ^ 110 := by
  by_cases m : s ∈ us.map (·.1)
  · obtain ⟨q, hq, e⟩ := List.mem_map.mp m
    obtain ⟨t, f⟩ := q
    cases (show t = s from e)
    rw [cf_nodup h.nd hq]
    exact h.lt _ hq
  · rw [cf_nin m]
    decide
def spTable : Sp := fun vs H Q _ => ∃ (p u : Addr) (us ts : Tms), vs = [.ref p, .ref u] ∧ TermsAt H p us ∧ VOk us ∧ SymsAt H u ts ∧ (∀ q ∈ ts, q.1 ∈ us.map (·.1)) ∧
  ∀ d H', Same H H' → H' d = some (.dK (us.map entK)) → Q (.ref d) H'
def spWorth (C : Addr) : Sp := fun vs H Q _ => ∃ (a d : Addr) (us ts : Tms), vs = [.ref a, .ref d] ∧ FormAt C H a ts ∧ Bd 40 200 ts ∧ H d = some (.dK (us.map entK)) ∧ VOk us ∧ (∀ q ∈ ts, q.1 ∈ us.map (·.1)) ∧
  ∀ H', Same H H' → Q (.int (sumE ts us)) H'
def spEval (C : Addr) : Sp := fun vs H Q _ => ∃ (a p : Addr) (us ts : Tms), vs = [.ref a, .ref p] ∧ FormAt C H a ts ∧ Bd 40 200 ts ∧ TermsAt H p us ∧ VOk us ∧ (∀ q ∈ ts, q.1 ∈ us.map (·.1)) ∧
  ∀ H', Same H H' → Q (.int (sumE ts us)) H'
section
variable {P : Program} {w : World} {K : PySem.W.Frag} {mg : Str → Option Value} {base : Heap} {C : Addr}
theorem ok_worth_of {f : Addr} {fd : FuncData} (F : Fun K "worth_of" "worth_of" s_worth_of f fd) (T : Ta mg) (C0 : Fc K mg C) : FnG P w K mg base 1 f fd ["form", "table"] (spWorth C) := by
  refine okG F sc_worth_of (fun vs H Q E h => ?_) (fun cdv A outer s H vs Q hr h => ?_)
  · obtain ⟨a, d, us, ts, rfl, _⟩ := h
    rfl
  · obtain ⟨a, d, us, ts, rfl, ⟨dx, t, u, ha, ⟨ps, ht, hp⟩, hu⟩, ⟨l1, b1⟩, hd, ok, hm, k⟩ := h
    refine ⟨_, (pss_one (ps_ret (pe_callB (cr_sum (by rfl)) (by rfl) T.b_sum (by decide +kernel) (pa_cons (pe_lc (own := [("symbol", 2), ("factor", 3)]) (g := gTup K 2 (gCons (gName 2) (gCons (gName 3) gNil))) (tt := tYes) rfl sc_worth_of.nd (pi_tup (pe_fld (pv 0) rfl)) (blkOk_by (own := [("symbol", 2), ("factor", 3)]) (N := n_worth_of) (sc := defScope s_worth_of) (by decide +kernel)) (fun _ _ _ _ _ => pg_tup rfl (pgs_cons (pg_name (i := 2) sc_worth_of.nd rfl (Or.inl rfl) (Or.inr rfl)) (pgs_cons (pg_name (i := 3) sc_worth_of.nd rfl (Or.inl rfl) (Or.inr rfl)) pgs_nil))) (fun _ _ _ _ _ => pts_nil) (fun _ _ _ _ _ => (pe_op op_mulW (pv 3) (pe_dget (hu_of hr.rm) (pv 1) (pv 2) (fun _ _ => rfl))))) pa_nil)))), ?_⟩
    have hl := hp.len
    refine ⟨_, rfl, a, C, dx, _, _, rfl, ha, C0.cls, C0.nT, rfl, t, rfl, ⟨_, ht.sq⟩, fun D hD => lc_fn walk_tup (fun i => .int ((ts.map fun q => q.2 * cf us q.1).getD i 0)) (by rw [List.length_map]; omega) hD (fun H' s' => (ht.same s').sq) (fun i x H2 H3 Q' hi s2 y kq => ?_) fun H2 s2 d2 => ?_⟩
    · obtain ⟨rfl, hx⟩ := y
      obtain ⟨p, q, rfl, hq, hpq⟩ := hp.get hx
      obtain ⟨z, g⟩ := q
      have mq := List.mem_of_getElem? hq
      refine ⟨p, _, rfl, SqT.of (s2 _ _ hpq), rfl, _, _, rfl, _, _, rfl, rfl, rfl, _, rfl, _, rfl, _, rfl, d, _, rfl, .inl ⟨_, Sum.inr z, .inl (s2 _ _ hd), rfl, (val_cf (hm _ mq)).symm⟩, _, _, rfl, rfl, wide_mul (b1 _ mq) (cf_lt ok z) (by decide) (by decide) (by decide), ?_⟩
      have := kq _ (Same.refl _)
      rw [show (ts.map fun q => q.2 * cf us q.1).getD i 0 = g * cf us z by rw [List.getD_eq_getElem?_getD, List.getElem?_map, hq]; rfl] at this
      exact this
    · have e1 : (List.range (ps.map V.ref).length).map (fun i => V.int ((ts.map fun q => q.2 * cf us q.1).getD i 0)) = (ts.map fun q => q.2 * cf us q.1).map V.int := by
        apply List.ext_getElem?
        intro i
        rw [List.getElem?_map, List.getElem?_map, List.length_map, hl]
        by_cases hi : i < ts.length
        · rw [List.getElem?_range hi, List.getElem?_eq_getElem (by rw [List.length_map]; exact hi)]
          show some (V.int ((ts.map fun q => q.2 * cf us q.1).getD i 0)) = some _
          rw [List.getD_eq_getElem?_getD, List.getElem?_eq_getElem (by rw [List.length_map]; exact hi)]
          rfl
        · rw [List.getElem?_eq_none (by simp; omega), List.getElem?_eq_none (by simp; omega)]
          rfl
      rw [e1] at d2
      exact ⟨D, _, rfl, SqL.of d2, k H2 s2⟩
theorem ok_table_of {f : Addr} {fd : FuncData} (F : Fun K "table_of" "table_of" s_table_of f fd) (T : Ta mg) (c_is_values : Cal P w K mg base 4 "is_values" ["value"] (spB K Tr.vals)) : FnG P w K mg base 5 f fd ["values", "symbols"] spTable := by
  refine okG F sc_table_of (fun vs H Q E h => ?_) (fun cdv A outer s H vs Q hr h => ?_)
  · obtain ⟨p, u, us, ts, rfl, _⟩ := h
    rfl
  · obtain ⟨p, u, us, ts, rfl, ⟨ps, ht, hp⟩, ok, hu, hm, k⟩ := h
    refine ⟨_, (pss_cons (ps_if (pt_not (pt_val (pe_c c_is_values hr (by decide) rfl (pa_cons (pv 0) pa_nil))))
    (pss_one ps_dead)
    pss_nil)
  (pss_cons (ps_set (i := 2) sc_table_of.nd rfl (by first | exact .inl rfl | exact .inr rfl) (pe_callTy (call_dictPT (by rfl)) (by rfl) T.b_dict (by decide +kernel) (pa_cons (pv 0) pa_nil)))
  (pss_cons (ps_for PassesOwn.never rfl (pi_tup (pv 1)) (pg_name (i := 3) sc_table_of.nd rfl (by first | exact .inl rfl | exact .inr rfl))
    (pss_one (ps_if (pt_cmp (pc_dnotin (hu_of hr.rm) (pv 3) (pv 2)))
    (pss_one ps_dead)
    pss_nil)))
  (pss_one (ps_ret (pv 2)))))), ?_⟩
    have hl := hp.len
    refine ⟨_, rfl, .ref p, .tup (prT us), rfl, .tup ht.tp (by rw [List.length_map, hl]; have := ok.len; omega) (prs_all hp ok.slen), fun H2 s2 => ?_⟩
    rw [prT_vals ok]
    refine ⟨_, rfl, iteF ?_⟩
    refine ⟨_, rfl, p, ps, us.map entK, rfl, ht.same s2, pairs_ent (hp.same s2), fun d hd => ?_⟩
    have em : mergeK [] (us.map entK) = us.map entK := merge_app us [] ok.nd
    rw [em]
    have s3 := s2.trans (Same.new hd (o := .dK (us.map entK)))
    have hd3 : upd H2 d (.dK (us.map entK)) d = some (.dK (us.map entK)) := upd_same
    generalize upd H2 d (.dK (us.map entK)) = H3 at s3 hd3 ⊢
    refine ⟨_, rfl, u, rfl, ⟨_, (hu.same s3).sq⟩, for_tup (K := K) (a := u) (xs := ts.map fun q => V.str q.1) (fun i σ H' => ∃ x3, σ = [some (.ref p), some (.ref u), some (.ref d), x3] ∧ H' = H3) ⟨_, rfl, rfl⟩ (fun i σ H' _ ⟨_, _, e⟩ => e ▸ (hu.same s3).sq) ?_ ?_⟩
    · rintro i x σ H4 hi ⟨x3, rfl, rfl⟩
      rw [List.getElem?_map] at hi
      obtain ⟨q, hq, rfl⟩ := Option.map_eq_some_iff.mp hi
      have hv := val_cf (hm q (List.mem_of_getElem? hq))
      refine ⟨_, rfl, _, rfl, d, _, rfl, .inl ⟨_, Sum.inr q.1, .inl hd3, rfl, rfl⟩, ?_⟩
      rw [hv]
      exact ⟨_, rfl, iteF ⟨_, rfl, rfl⟩⟩
    · rintro σ H4 ⟨x3, rfl, rfl⟩
      exact ⟨_, rfl, k d _ s3 hd3⟩

/-- what is no values, or lacks one of the form's symbols -/
def Bad (K : PySem.W.Frag) (H : Hp) (v : V) (ts : Tms) : Prop := (∃ t, TrIs K H v t ∧ t.vals = false) ∨ ∃ p us, v = .ref p ∧ TermsAt H p us ∧ VOk us ∧ ∃ q ∈ ts, q.1 ∉ us.map (·.1)
def spTableX (K : PySem.W.Frag) (IV : Addr) : Sp := fun vs H _ E => ∃ (v : V) (u : Addr) (ts : Tms), vs = [v, .ref u] ∧ SymsAt H u ts ∧ Bad K H v ts ∧ Er1 IV "value" v H E
def spEvalX (K : PySem.W.Frag) (C IV : Addr) : Sp := fun vs H _ E => ∃ (a : Addr) (v : V) (ts : Tms), vs = [.ref a, v] ∧ FormAt C H a ts ∧ Bad K H v ts ∧ Er1 IV "value" v H E
theorem ok_table_ofX {IV : Addr} {f : Addr} {fd : FuncData} (F : Fun K "table_of" "table_of" s_table_of f fd) (T : Ta mg) (X0 : Ex1 P w K mg base "InvalidValues" "ValueError" IV "value") (c_is_values : Cal P w K mg base 4 "is_values" ["value"] (spB K Tr.vals)) :
    FnX P w K mg base 5 f fd ["values", "symbols"] (spTableX K IV) := by
  refine okX F sc_table_of (fun vs H Q E h => ?_) (fun cdv A outer s H vs Q E hr h => ?_)
  · obtain ⟨v, u, ts, rfl, _⟩ := h
    rfl
  · obtain ⟨v, u, ts, rfl, hu, h, k⟩ := h
    refine ⟨_, (pss_cons (ps_if (pt_not (pt_val (pe_c c_is_values hr (by decide) rfl (pa_cons (pv 0) pa_nil))))
    (pss_one (ps_err X0 hr (by decide) rfl takesX rfl (pa_cons (pv 0) pa_nil)))
    pss_nil)
  (pss_cons (ps_set (i := 2) sc_table_of.nd rfl (by first | exact .inl rfl | exact .inr rfl) (pe_callTy (call_dictPT (by rfl)) (by rfl) T.b_dict (by decide +kernel) (pa_cons (pv 0) pa_nil)))
  (pss_cons (ps_for (passes_of rfl) rfl (pi_tup (pv 1)) (pg_name (i := 3) sc_table_of.nd rfl (by first | exact .inl rfl | exact .inr rfl))
    (pss_one (ps_if (pt_cmp (pc_dnotin (hu_of hr.rm) (pv 3) (pv 2)))
    (pss_one (ps_err X0 hr (by decide) rfl takesX rfl (pa_cons (pv 0) pa_nil)))
    pss_nil)))
  (pss_one (ps_ret (pv 2)))))), ?_⟩
    rcases h with ⟨t, ht, e⟩ | ⟨p, us, rfl, ⟨ps, ht, hp⟩, ok, q, hq, hn⟩
    · refine ⟨_, rfl, v, t, rfl, ht, fun H2 s2 => ?_⟩
      rw [e]
      exact ⟨_, rfl, iteT ⟨_, rfl, _, rfl, k H2 s2⟩⟩
    · have hl := hp.len
      refine ⟨_, rfl, .ref p, .tup (prT us), rfl, .tup ht.tp (by rw [List.length_map, hl]; have := ok.len; omega) (prs_all hp ok.slen), fun H2 s2 => ?_⟩
      rw [prT_vals ok]
      refine ⟨_, rfl, iteF ?_⟩
      refine ⟨_, rfl, p, ps, us.map entK, rfl, ht.same s2, pairs_ent (hp.same s2), fun d hd => ?_⟩
      have em : mergeK [] (us.map entK) = us.map entK := merge_app us [] ok.nd
      rw [em]
      have s3 := s2.trans (Same.new hd (o := .dK (us.map entK)))
      have hd3 : upd H2 d (.dK (us.map entK)) d = some (.dK (us.map entK)) := upd_same
      generalize upd H2 d (.dK (us.map entK)) = H3 at s3 hd3 ⊢
      refine ⟨_, rfl, u, rfl, ⟨_, (hu.same s3).sq⟩, for_tup (K := K) (a := u) (xs := ts.map fun q => V.str q.1) (fun i σ H' => (∃ x3, σ = [some (.ref p), some (.ref u), some (.ref d), x3] ∧ H' = H3) ∧ ∀ q ∈ ts.take i, q.1 ∈ us.map (·.1)) ⟨⟨_, rfl, rfl⟩, by simp⟩ (fun i σ H' _ ⟨⟨_, _, e⟩, _⟩ => e ▸ (hu.same s3).sq) ?_ ?_⟩
      · rintro i x σ H4 hi ⟨⟨x3, rfl, rfl⟩, hb⟩
        rw [List.getElem?_map] at hi
        obtain ⟨q2, hq2, rfl⟩ := Option.map_eq_some_iff.mp hi
        by_cases hm : q2.1 ∈ us.map (·.1)
        · have hv := val_cf hm
          refine ⟨_, rfl, _, rfl, d, _, rfl, .inl ⟨_, Sum.inr q2.1, .inl hd3, rfl, rfl⟩, ?_⟩
          rw [hv]
          refine ⟨_, rfl, iteF ⟨⟨_, rfl, rfl⟩, fun z hz => ?_⟩⟩
          rw [List.take_add_one, hq2] at hz
          rcases List.mem_append.mp hz with hz | hz
          · exact hb z hz
          · obtain rfl := List.mem_singleton.mp hz
            exact hm
        · have hv := val_none hm
          refine ⟨_, rfl, _, rfl, d, _, rfl, .inl ⟨_, Sum.inr q2.1, .inl hd3, rfl, rfl⟩, ?_⟩
          rw [hv]
          exact ⟨_, rfl, iteT ⟨_, rfl, _, rfl, k _ s3⟩⟩
      · rintro σ H4 ⟨⟨x3, rfl, rfl⟩, hb⟩
        refine absurd (hb q ?_) hn
        rw [List.length_map, List.take_length]
        exact hq
end
end Lw

/-! ## CdB -/
set_option maxHeartbeats 1000000
namespace Lw
open PySem PySem.Spec PyProof.Rows L2
open Fm (cf Asc Nm)
/-! conditions, as data -/
inductive Cd where
  | two (k : Nat) (f g : Tms)
  | more (k : Nat) (l : List Cd)
mutual
def Cd.syms : Cd → List Str
  | .two _ f g => f.map (·.1) ++ g.map (·.1)
  | .more _ l => symsL l
def symsL : List Cd → List Str
  | [] => []
  | c :: r => c.syms ++ symsL r
end
mutual
def Cd.parts : Cd → Nat
  | .two _ _ _ => 1
  | .more _ l => 1 + partsL l
def partsL : List Cd → Nat
  | [] => 0
  | c :: r => c.parts + partsL r
end
mutual
def Cd.depth : Cd → Nat
  | .two _ _ _ => 1
  | .more _ l => 1 + depthL l
def depthL : List Cd → Nat
  | [] => 0
  | c :: r => max c.depth (depthL r)
end
def cmpK (k : Nat) (a b : Int) : Bool := match k with
  | 0 => decide (a < b)
  | 1 => decide (a ≤ b)
  | _ => decide (a = b)
mutual
/-- whether it holds for the values us -/
def Cd.holds (us : Tms) : Cd → Bool
  | .two k f g => cmpK k (sumE f us) (sumE g us)
  | .more k l => match k with
    | 0 => !(allL us l)
    | 1 => allL us l
    | _ => anyL us l
def allL (us : Tms) : List Cd → Bool
  | [] => true
  | c :: r => c.holds us && allL us r
def anyL (us : Tms) : List Cd → Bool
  | [] => false
  | c :: r => c.holds us || anyL us r
end
theorem allL_map (us : Tms) : ∀ l : List Cd, allL us l = (l.map (·.holds us)).all id
  | [] => rfl
  | c :: r => by
    show (c.holds us && allL us r) = (c.holds us && (r.map (·.holds us)).all id)
    rw [allL_map us r]
theorem anyL_map (us : Tms) : ∀ l : List Cd, anyL us l = (l.map (·.holds us)).any id
  | [] => rfl
  | c :: r => by
    show (c.holds us || anyL us r) = (c.holds us || (r.map (·.holds us)).any id)
    rw [anyL_map us r]
theorem partsL_sum : ∀ l : List Cd, (l.map fun c => (c.parts : Int)).sum = (partsL l : Int)
  | [] => rfl
  | c :: r => by
    rw [List.map_cons, List.sum_cons, partsL_sum r]
    exact (Int.natCast_add c.parts (partsL r)).symm
theorem fold_max : ∀ (l : List Cd) (n : Nat), (l.map fun c => (c.depth : Int)).foldl max (n : Int) = ((max n (depthL l) : Nat) : Int)
  | [], n => by
    show (n : Int) = ((max n 0 : Nat) : Int)
    rw [Nat.max_zero]
  | c :: r, n => by
    rw [List.map_cons, List.foldl_cons]
    have e : max (n : Int) (c.depth : Int) = ((max n c.depth : Nat) : Int) := by omega
    rw [e, fold_max r]
    show ((max (max n c.depth) (depthL r) : Nat) : Int) = ((max n (max c.depth (depthL r)) : Nat) : Int)
    rw [Nat.max_assoc]
theorem depthL_top : ∀ l : List Cd, topI 0 (l.map fun c => (c.depth : Int)) = (depthL l : Int)
  | [] => rfl
  | c :: r => by
    show (r.map fun c => (c.depth : Int)).foldl max (c.depth : Int) = _
    rw [fold_max]
    rfl
theorem mem_symsL {z : Str} : ∀ {l : List Cd}, z ∈ symsL l ↔ ∃ (i : Nat) (c : Cd), l[i]? = some c ∧ z ∈ c.syms
  | [] => ⟨(fun h => nomatch h), fun ⟨i, c, h, _⟩ => by simp at h⟩
  | c :: r => by
    show z ∈ c.syms ++ symsL r ↔ _
    rw [List.mem_append, mem_symsL (l := r)]
    constructor
    · rintro (h | ⟨i, d, h, k⟩)
      · exact ⟨0, c, rfl, h⟩
      · exact ⟨i + 1, d, h, k⟩
    · rintro ⟨i, d, h, k⟩
      cases i with
      | zero =>
        cases h
        exact .inl k
      | succ i => exact .inr ⟨i, d, h, k⟩
theorem depth_mem {c : Cd} : ∀ {l : List Cd}, c ∈ l → c.depth ≤ depthL l
  | d :: r, h => by
    show _ ≤ max d.depth (depthL r)
    rcases List.mem_cons.mp h with rfl | h
    · omega
    · have := depth_mem h
      omega
theorem parts_pos : ∀ c : Cd, 1 ≤ c.parts
  | .two _ _ _ => Nat.le_refl 1
  | .more _ l => by
    show 1 ≤ 1 + partsL l
    omega
theorem parts_len : ∀ l : List Cd, l.length ≤ partsL l
  | [] => Nat.le_refl 0
  | c :: r => by
    have := parts_len r
    have := parts_pos c
    show r.length + 1 ≤ c.parts + partsL r
    omega
/-- the classes -/
structure Cz where
  form : Addr
  base : Addr
  two : Nat → Addr
  more : Nat → Addr
def Kn (Z : Cz) (C : Addr) : Prop := ∃ k, k < 3 ∧ (C = Z.two k ∨ C = Z.more k)
/-- what of the text the classes must have -/
structure Cf (K : PySem.W.Frag) (mg : Str → Option Value) (Z : Cz) : Prop where
  kc : ∀ C, Kn Z C → Kc K C
  isc : ∀ C, Kn Z C → C8.InsC K C ∧ PySem.W.kitOne K (.ref C) (.ref Z.base) = some true
  g_Condition : ∃ u, mg "Condition" = some u ∧ RelV (.ref Z.base) u
mutual
inductive CondAt (K : PySem.W.Frag) (Z : Cz) (H : Hp) : Addr → Cd → Prop
  | two {a dx p q r f g : Addr} {k : Nat} {ts us : Tms} {zs : List Str} (ha : H a = some (.ins (Z.two k) dx (flds (.ref p) (.ref q) (.ref r) 1 1))) (hp : SqT K H p [.ref f, .ref g]) (hq : SqT K H q []) (hr : TupF H r (zs.map V.str))
      (hz : ∀ z, z ∈ zs ↔ z ∈ (Cd.two k ts us).syms) (nd : zs.Nodup) (so : sortedS zs = true) (hf : FormAt Z.form H f ts) (hg : FormAt Z.form H g us) (bf : Bd 40 200 ts) (bg : Bd 40 200 us) (hk : k < 3) : CondAt K Z H a (.two k ts us)
  | more {a dx p q r : Addr} {k : Nat} {as : List Addr} {l : List Cd} {zs : List Str} (ha : H a = some (.ins (Z.more k) dx (flds (.ref p) (.ref q) (.ref r) ((1 + partsL l : Nat) : Int) ((1 + depthL l : Nat) : Int)))) (hp : SqT K H p []) (hq : SqT K H q (as.map V.ref)) (hr : TupF H r (zs.map V.str))
      (hz : ∀ z, z ∈ zs ↔ z ∈ (Cd.more k l).syms) (nd : zs.Nodup) (so : sortedS zs = true) (hl : CondsAt K Z H as l) (hk : k < 3) (h1 : k = 0 → l.length = 1) : CondAt K Z H a (.more k l)
inductive CondsAt (K : PySem.W.Frag) (Z : Cz) (H : Hp) : List Addr → List Cd → Prop
  | nil : CondsAt K Z H [] []
  | cons {a : Addr} {c : Cd} {as : List Addr} {l : List Cd} (h : CondAt K Z H a c) (r : CondsAt K Z H as l) : CondsAt K Z H (a :: as) (c :: l)
end
section
variable {K : PySem.W.Frag} {Z : Cz} {mg : Str → Option Value}
mutual
theorem CondAt.same {H H' : Hp} (s : Same H H') : ∀ {a : Addr} {c : Cd}, CondAt K Z H a c → CondAt K Z H' a c
  | _, _, .two ha hp hq hr hz nd so hf hg bf bg hk => .two (s _ _ ha) (sqT_same s hp) (sqT_same s hq) (hr.same s) hz nd so (hf.same s) (hg.same s) bf bg hk
  | _, _, .more ha hp hq hr hz nd so hl hk h1 => .more (s _ _ ha) (sqT_same s hp) (sqT_same s hq) (hr.same s) hz nd so (CondsAt.same s hl) hk h1
theorem CondsAt.same {H H' : Hp} (s : Same H H') : ∀ {as : List Addr} {l : List Cd}, CondsAt K Z H as l → CondsAt K Z H' as l
  | _, _, .nil => .nil
  | _, _, .cons h r => .cons (CondAt.same s h) (CondsAt.same s r)
end
theorem tupF_off {H H' : Hp} {x C dx b : Addr} {fs : List (Str × V)} {xs : List V} (s : Off x H H') (hx : H x = some (.ins C dx fs)) (h : TupF H b xs) : TupF H' b xs := by
  obtain ⟨o, d, h⟩ := h
  exact ⟨o, d, s _ _ (fun e => by rw [e, hx] at h; cases h) h⟩
theorem FormAt.off {C x : Addr} {H H' : Hp} {f C' dx : Addr} {ts : Tms} (s : Off x H H') (hx : H x = some (.ins C' dx [])) (h : FormAt C H f ts) : FormAt C H' f ts := by
  obtain ⟨dx', t, u, ha, ⟨ps, ⟨o, hd, hf⟩, hp⟩, ⟨o', hd', hf'⟩⟩ := h
  have ne : ∀ {b : Addr} {u : HO}, H b = some u → u ≠ .ins C' dx [] → b ≠ x := fun e n q => n (by rw [q, hx] at e; exact (Option.some.inj e).symm)
  refine ⟨dx', t, u, s _ _ (ne ha (by simp)) ha, ⟨ps, ⟨o, hd, s _ _ (ne hf (fun q => nomatch q)) hf⟩, ?_⟩, ⟨o', hd', s _ _ (ne hf' (fun q => nomatch q)) hf'⟩⟩
  exact hp.tups fun b z e => s _ _ (ne e (fun q => nomatch q)) e
mutual
theorem CondAt.off {x C' dx : Addr} {H H' : Hp} (s : Off x H H') (hx : H x = some (.ins C' dx [])) : ∀ {a : Addr} {c : Cd}, CondAt K Z H a c → CondAt K Z H' a c
  | _, _, .two ha hp hq hr hz nd so hf hg bf bg hk => .two (s _ _ (fun e => by rw [e, hx] at ha; cases ha) ha) (sqT_off s hx hp) (sqT_off s hx hq) (tupF_off s hx hr) hz nd so (hf.off s hx) (hg.off s hx) bf bg hk
  | _, _, .more ha hp hq hr hz nd so hl hk h1 => .more (s _ _ (fun e => by rw [e, hx] at ha; cases ha) ha) (sqT_off s hx hp) (sqT_off s hx hq) (tupF_off s hx hr) hz nd so (CondsAt.off s hx hl) hk h1
theorem CondsAt.off {x C' dx : Addr} {H H' : Hp} (s : Off x H H') (hx : H x = some (.ins C' dx [])) : ∀ {as : List Addr} {l : List Cd}, CondsAt K Z H as l → CondsAt K Z H' as l
  | _, _, .nil => .nil
  | _, _, .cons h r => .cons (CondAt.off s hx h) (CondsAt.off s hx r)
end
theorem CondsAt.len {H : Hp} : ∀ {as : List Addr} {l : List Cd}, CondsAt K Z H as l → as.length = l.length
  | _, _, .nil => rfl
  | _, _, .cons _ r => congrArg Nat.succ r.len
theorem CondsAt.get {H : Hp} : ∀ {as : List Addr} {l : List Cd}, CondsAt K Z H as l → ∀ {i : Nat} {v : V}, (as.map V.ref)[i]? = some v → ∃ a c, v = .ref a ∧ l[i]? = some c ∧ CondAt K Z H a c
  | _, _, .nil, i, v, h => by simp at h
  | _, _, .cons h r, 0, v, e => by
    cases e
    exact ⟨_, _, rfl, rfl, h⟩
  | _, _, .cons h r, i + 1, v, e => r.get (i := i) e
def Cd.cls (Z : Cz) : Cd → Addr
  | .two k _ _ => Z.two k
  | .more k _ => Z.more k
theorem CondAt.ins {H : Hp} {a : Addr} {c : Cd} (h : CondAt K Z H a c) : ∃ dx p q r zs, H a = some (.ins (c.cls Z) dx (flds p q (.ref r) (c.parts : Int) (c.depth : Int))) ∧ Kn Z (c.cls Z) ∧ TupF H r (zs.map V.str) ∧ (∀ z, z ∈ zs ↔ z ∈ c.syms) ∧ zs.Nodup ∧ sortedS zs = true := by
  cases h with
  | two ha hp hq hr hz nd so hf hg bf bg hk => exact ⟨_, _, _, _, _, ha, ⟨_, hk, .inl rfl⟩, hr, hz, nd, so⟩
  | more ha hp hq hr hz nd so hl hk h1 => exact ⟨_, _, _, _, _, ha, ⟨_, hk, .inr rfl⟩, hr, hz, nd, so⟩
theorem CondAt.sym {H : Hp} {a : Addr} {c : Cd} (Z0 : Cf K mg Z) (h : CondAt K Z H a c) : ∃ zs, SymAt K H (.ref a) zs ∧ ∀ z, z ∈ zs ↔ z ∈ c.syms := by
  obtain ⟨dx, p, q, r, zs, ha, kn, hr, hz, _⟩ := h.ins
  exact ⟨zs, ⟨a, _, dx, _, r, rfl, ha, rfl, (Z0.kc _ kn).cls, (Z0.kc _ kn).nS, hr.sq⟩, hz⟩
theorem CondAt.num {H : Hp} {a : Addr} {c : Cd} (Z0 : Cf K mg Z) (h : CondAt K Z H a c) : NumAt K H (.ref a) (c.parts : Int) (c.depth : Int) := by
  obtain ⟨dx, p, q, r, zs, ha, kn, _⟩ := h.ins
  exact ⟨a, _, dx, _, rfl, ha, rfl, rfl, (Z0.kc _ kn).cls, (Z0.kc _ kn).nP, (Z0.kc _ kn).nD⟩
end
end Lw

/-! ## CdC -/
set_option maxHeartbeats 1000000
namespace Lw
open PySem PySem.Spec PyProof.Rows L2
open Fm (cf Asc Nm)
section
variable {X : Cx}
/-- isinstance(a, Condition), a condition -/
theorem call_isCo {Kn : Addr → Prop} {D : Addr} (c : ∀ C, Kn C → C8.InsC X.K C ∧ PySem.W.kitOne X.K (.ref C) (.ref D) = some true) : CallR X (.builtin "isinstance") (fun xs H Q => ∃ a C dx fs, xs = [.ref a, .ref D] ∧ H a = some (.ins C dx fs) ∧ Kn C ∧ Q (.bl true) H) := by
  intro pins s σ H xs us Q I r h
  obtain ⟨a, C, dx, fs, rfl, ha, kn, q⟩ := h
  obtain ⟨u, w', rfl, ru, rw'⟩ := vals2 r
  cases rw'
  obtain ⟨i, e⟩ := c C kn
  exact isinst_ok I ru (TyOf.ins ha i.cl i.ha i.hn i.htk i.hm) e fun tk => ⟨.bl true, H, I.tok _, rfl, q⟩
end
def spCCond (Z : Cz) : Sp := fun vs H Q _ => ∃ a C dx fs, vs = [.ref a] ∧ H a = some (.ins C dx fs) ∧ Kn Z C ∧ Q .non H
def spCForms (C : Addr) : Sp := fun vs H Q _ => ∃ f g, vs = [.ref f, .ref g] ∧ Is C H f ∧ Is C H g ∧ NewO (.tup [.ref f, .ref g]) H Q
def spCConds (K : PySem.W.Frag) (Z : Cz) : Sp := fun vs H Q _ => ∃ (q : Addr) (as : List Addr) (l : List Cd), vs = [.ref q] ∧ SqT K H q (as.map V.ref) ∧ CondsAt K Z H as l ∧ Q (.ref q) H
/-- an object, to be a comparison -/
def spTwo (K : PySem.W.Frag) (Z : Cz) (k : Nat) : Sp := fun vs H Q _ => ∃ (x dx f g : Addr) (ts us : Tms), vs = [.ref x, .ref f, .ref g] ∧ H x = some (.ins (Z.two k) dx []) ∧ FormAt Z.form H f ts ∧ FormAt Z.form H g us ∧ Bd 30 200 ts ∧ Bd 30 200 us ∧
  ∀ H', Off x H H' → CondAt K Z H' x (.two k ts us) → Q .non H'
def spNot (K : PySem.W.Frag) (Z : Cz) : Sp := fun vs H Q _ => ∃ (x dx a : Addr) (c : Cd) (Wd : List Str), vs = [.ref x, .ref a] ∧ H x = some (.ins (Z.more 0) dx []) ∧ CondAt K Z H a c ∧ 1 + c.parts ≤ 12 ∧ 1 + c.depth ≤ 4 ∧ Wd.length ≤ 60 ∧ (∀ z ∈ c.syms, z ∈ Wd) ∧
  ∀ H', Off x H H' → CondAt K Z H' x (.more 0 [c]) → Q .non H'
/-- one of many: the tuple is given -/
def spMany (K : PySem.W.Frag) (Z : Cz) (k : Nat) : Sp := fun vs H Q _ => ∃ (x dx q : Addr) (as : List Addr) (l : List Cd) (Wd : List Str), vs = [.ref x, .ref q] ∧ H x = some (.ins (Z.more k) dx []) ∧ SqT K H q (as.map V.ref) ∧ CondsAt K Z H as l ∧ 1 + partsL l ≤ 12 ∧ 1 + depthL l ≤ 4 ∧ Wd.length ≤ 60 ∧ (∀ z ∈ symsL l, z ∈ Wd) ∧
  ∀ H', Off x H H' → CondAt K Z H' x (.more k l) → Q .non H'
section
variable {P : Program} {w : World} {K : PySem.W.Frag} {mg : Str → Option Value} {base : Heap} {Z : Cz}
theorem cinit_more {H : Hp} {Q : VK} {E : XK} {x dx p q : Addr} {k : Nat} {as : List Addr} {l : List Cd} {Wd : List Str} (Z0 : Cf K mg Z) (hx : H x = some (.ins (Z.more k) dx [])) (hp : SqT K H p []) (hq : SqT K H q (as.map V.ref)) (hl : CondsAt K Z H as l) (h12 : 1 + partsL l ≤ 12) (h4 : 1 + depthL l ≤ 4)
    (hW : Wd.length ≤ 60) (hs : ∀ z ∈ symsL l, z ∈ Wd) (hk : k < 3) (h1 : k = 0 → l.length = 1) (fin : ∀ H', Off x H H' → CondAt K Z H' x (.more k l) → Q .non H') : spCInit K [.ref x, .ref p, .ref q] H Q E := by
  have len := hl.len
  have plen := parts_len l
  have cho : ∀ i : Nat, ∃ zs : List Str, ∀ v, (as.map V.ref)[i]? = some v → SymAt K H v zs ∧ ∃ c, l[i]? = some c ∧ ∀ z, z ∈ zs ↔ z ∈ c.syms := fun i => by
    cases e : (as.map V.ref)[i]? with
    | none => exact ⟨[], fun v h => nomatch h⟩
    | some v =>
      obtain ⟨a, c, rfl, hc, ca⟩ := hl.get e
      obtain ⟨zs, sy, m⟩ := ca.sym Z0
      exact ⟨zs, fun v h => by
        cases h
        exact ⟨sy, c, hc, m⟩⟩
  obtain ⟨zf, hzf⟩ := Classical.axiomOfChoice cho
  have at_ : ∀ i, i < l.length → ∃ v, (as.map V.ref)[i]? = some v := fun i hi => ⟨_, List.getElem?_eq_getElem (by rw [List.length_map, len]; exact hi)⟩
  have all : ∀ z, (∃ i, i < l.length ∧ z ∈ zf i) ↔ z ∈ symsL l := fun z => by
    rw [mem_symsL]
    constructor
    · rintro ⟨i, hi, hz⟩
      obtain ⟨v, hv⟩ := at_ i hi
      obtain ⟨_, c, hc, m⟩ := hzf i v hv
      exact ⟨i, c, hc, (m z).mp hz⟩
    · rintro ⟨i, c, hc, hz⟩
      have hi := (List.getElem?_eq_some_iff.mp hc).1
      obtain ⟨v, hv⟩ := at_ i hi
      obtain ⟨_, c', hc', m⟩ := hzf i v hv
      rw [hc] at hc'
      cases hc'
      exact ⟨i, hi, (m z).mpr hz⟩
  have kc := Z0.kc _ ⟨k, hk, .inr rfl⟩
  have eP := partsL_sum l
  have eD := depthL_top l
  refine ⟨x, _, dx, p, q, [], as.map V.ref, zf, Wd, l.map fun c => (c.parts : Int), l.map fun c => (c.depth : Int), rfl, hx, kc, hp, hq, .inl rfl, ?_, hW, fun i z hi hz => hs z ((all z).mp ⟨i, ?_, hz⟩), fun i v hv => (hzf i v hv).1, ?_, ?_, fun i v hv => ?_, ?_, ?_, fun H' r zs o hx' tr nd so mem => ?_⟩
  · simp only [List.length_nil, List.length_map, len]
    omega
  · simpa [len] using hi
  · simp [len]
  · simp [len]
  · obtain ⟨a, c, rfl, hc, ca⟩ := hl.get hv
    have := ca.num Z0
    rw [List.getD_eq_getElem?_getD, List.getD_eq_getElem?_getD, List.getElem?_map, List.getElem?_map, hc]
    exact this
  · rw [eP]
    omega
  · rw [eD]
    omega
  · refine fin H' o (.more (dx := dx) ?_ (sqT_off o hx hp) (sqT_off o hx hq) tr (fun z => ?_) nd so (hl.off o hx) hk h1)
    · rw [hx', eP, eD]
      rfl
    · rw [mem z]
      refine Iff.trans ?_ (all z)
      simp [len]
theorem cinit_two {H : Hp} {Q : VK} {E : XK} {x dx p q f g : Addr} {k : Nat} {ts us : Tms} (C0 : Fc K mg Z.form) (Z0 : Cf K mg Z) (hx : H x = some (.ins (Z.two k) dx [])) (hp : SqT K H p [.ref f, .ref g]) (hq : SqT K H q []) (hf : FormAt Z.form H f ts) (hg : FormAt Z.form H g us) (bf : Bd 30 200 ts) (bg : Bd 30 200 us) (hk : k < 3)
    (fin : ∀ H', Off x H H' → CondAt K Z H' x (.two k ts us) → Q .non H') : spCInit K [.ref x, .ref p, .ref q] H Q E := by
  have kc := Z0.kc _ ⟨k, hk, .inl rfl⟩
  have sy : ∀ {a : Addr} {ts : Tms}, FormAt Z.form H a ts → SymAt K H (.ref a) (ts.map (·.1)) := fun {a ts} h => by
    obtain ⟨dx', t, u, ha, _, hu⟩ := h
    refine ⟨a, _, dx', _, u, rfl, ha, rfl, C0.cls, C0.nS, ?_⟩
    have := TupF.sq (K := K) hu
    rw [List.map_map]
    exact this
  have l1 := bf.len
  have l2 := bg.len
  refine ⟨x, _, dx, p, q, [.ref f, .ref g], [], fun i => if i = 0 then ts.map (·.1) else us.map (·.1), ts.map (·.1) ++ us.map (·.1), [], [], rfl, hx, kc, hp, hq, .inr rfl, (by show 2 ≤ 200; decide), ?_, fun i z hi hz => ?_, fun i v hv => ?_, rfl, rfl, fun i v hv => ?_, by decide, by decide, fun H' r zs o hx' tr nd so mem => ?_⟩
  · rw [List.length_append, List.length_map, List.length_map]
    omega
  · dsimp only at hz
    by_cases e : i = 0
    · rw [if_pos e] at hz
      exact List.mem_append_left _ hz
    · rw [if_neg e] at hz
      exact List.mem_append_right _ hz
  · match i, hv with
    | 0, hv =>
      cases hv
      exact sy hf
    | 1, hv =>
      cases hv
      exact sy hg
  · simp at hv
  · refine fin H' o (.two hx' (sqT_off o hx hp) (sqT_off o hx hq) tr (fun z => ?_) nd so (hf.off o hx) (hg.off o hx) ⟨by omega, bf.lt⟩ ⟨by omega, bg.lt⟩ hk)
    rw [mem z]
    show _ ↔ z ∈ ts.map (·.1) ++ us.map (·.1)
    rw [List.mem_append]
    constructor
    · rintro ⟨i, hi, hz⟩
      dsimp only at hz
      by_cases e : i = 0
      · rw [if_pos e] at hz
        exact .inl hz
      · rw [if_neg e] at hz
        exact .inr hz
    · rintro (h | h)
      · exact ⟨0, (by show 0 < 2; decide), by dsimp only; rw [if_pos rfl]; exact h⟩
      · exact ⟨1, (by show 1 < 2; decide), by dsimp only; rw [if_neg (by decide)]; exact h⟩
end
end Lw

/-! ## CdD -/
set_option maxHeartbeats 1000000
namespace Lw
open PySem PySem.Spec PyProof.Rows L2
open Fm (cf Asc Nm)
abbrev s_check_condition : Stmt := topS 46
abbrev n_check_condition : List Str := ["value"]
theorem sc_check_condition : FnScope n_check_condition ["value"] (defScope s_check_condition) := ⟨rfl, rfl, rfl, by decide +kernel, rfl, by decide +kernel, by decide +kernel⟩
abbrev s__checked_forms : Stmt := topS 48
abbrev n__checked_forms : List Str := ["first", "second"]
theorem sc__checked_forms : FnScope n__checked_forms ["first", "second"] (defScope s__checked_forms) := ⟨rfl, rfl, rfl, by decide +kernel, rfl, by decide +kernel, by decide +kernel⟩
abbrev s__checked_conditions : Stmt := topS 49
abbrev n__checked_conditions : List Str := ["conditions", "condition"]
theorem sc__checked_conditions : FnScope n__checked_conditions ["conditions"] (defScope s__checked_conditions) := ⟨rfl, rfl, rfl, by decide +kernel, rfl, by decide +kernel, by decide +kernel⟩
abbrev s_Below_init : Stmt := inClass (topS 40) 1
abbrev n_Below_init : List Str := ["self", "first", "second"]
theorem sc_Below_init : FnScopeC n_Below_init ["self", "first", "second"] (defScope s_Below_init) := ⟨rfl, rfl, rfl, by decide +kernel, rfl, by decide +kernel, by decide +kernel, by decide +kernel⟩
abbrev s_Upto_init : Stmt := inClass (topS 41) 1
abbrev n_Upto_init : List Str := ["self", "first", "second"]
theorem sc_Upto_init : FnScopeC n_Upto_init ["self", "first", "second"] (defScope s_Upto_init) := ⟨rfl, rfl, rfl, by decide +kernel, rfl, by decide +kernel, by decide +kernel, by decide +kernel⟩
abbrev s_Same_init : Stmt := inClass (topS 42) 1
abbrev n_Same_init : List Str := ["self", "first", "second"]
theorem sc_Same_init : FnScopeC n_Same_init ["self", "first", "second"] (defScope s_Same_init) := ⟨rfl, rfl, rfl, by decide +kernel, rfl, by decide +kernel, by decide +kernel, by decide +kernel⟩
abbrev s_Not_init : Stmt := inClass (topS 43) 1
abbrev n_Not_init : List Str := ["self", "condition"]
theorem sc_Not_init : FnScopeC n_Not_init ["self", "condition"] (defScope s_Not_init) := ⟨rfl, rfl, rfl, by decide +kernel, rfl, by decide +kernel, by decide +kernel, by decide +kernel⟩
abbrev s_All_init : Stmt := inClass (topS 44) 1
abbrev n_All_init : List Str := ["self", "conditions"]
theorem sc_All_init : FnScopeC n_All_init ["self", "conditions"] (defScope s_All_init) := ⟨rfl, rfl, rfl, by decide +kernel, rfl, by decide +kernel, by decide +kernel, by decide +kernel⟩
abbrev s_Any_init : Stmt := inClass (topS 45) 1
abbrev n_Any_init : List Str := ["self", "conditions"]
theorem sc_Any_init : FnScopeC n_Any_init ["self", "conditions"] (defScope s_Any_init) := ⟨rfl, rfl, rfl, by decide +kernel, rfl, by decide +kernel, by decide +kernel, by decide +kernel⟩
section
variable {P : Program} {w : World} {K : PySem.W.Frag} {mg : Str → Option Value} {base : Heap} {Z : Cz}
theorem ok_check_condition {f : Addr} {fd : FuncData} (F : Fun K "check_condition" "check_condition" s_check_condition f fd) (T : Ta mg) (Z0 : Cf K mg Z) : FnG P w K mg base 1 f fd ["value"] (spCCond Z) := by
  refine okG F sc_check_condition (fun vs H Q E h => ?_) (fun cdv A outer s H vs Q hr h => ?_)
  · obtain ⟨a, C, dx, fs, rfl, _⟩ := h
    rfl
  · obtain ⟨a, C, dx, fs, rfl, ha, kn, k⟩ := h
    refine ⟨_, (pss_one (ps_if (pt_not (pt_val (pe_callB (call_isCo Z0.isc) (by rfl) T.b_isinstance (by decide +kernel) (pa_cons (pv 0) (pa_cons (pe_gl (v := .ref Z.base) rfl Z0.g_Condition) pa_nil)))))
    (pss_one ps_dead)
    pss_nil)), ?_⟩
    exact ⟨_, rfl, a, C, dx, fs, rfl, ha, kn, _, rfl, iteF k⟩
theorem ok_checked_forms {f : Addr} {fd : FuncData} (F : Fun K "_checked_forms" "_checked_forms" s__checked_forms f fd) (T : Ta mg) (c_check_form : Cal P w K mg base 1 "check_form" ["value"] (spUnit Z.form)) : FnG P w K mg base 2 f fd ["first", "second"] (spCForms Z.form) := by
  refine okG F sc__checked_forms (fun vs H Q E h => ?_) (fun cdv A outer s H vs Q hr h => ?_)
  · obtain ⟨f, g, rfl, _⟩ := h
    rfl
  · obtain ⟨f, g, rfl, hf, hg, k⟩ := h
    refine ⟨_, (pss_cons (ps_expr (pe_c c_check_form hr (by decide) rfl (pa_cons (pv 0) pa_nil)))
  (pss_cons (ps_expr (pe_c c_check_form hr (by decide) rfl (pa_cons (pv 1) pa_nil)))
  (pss_one (ps_ret (pe_tupS (pa_cons (pv 0) (pa_cons (pv 1) pa_nil))))))), ?_⟩
    exact ⟨_, rfl, _, rfl, hf, _, rfl, _, rfl, hg, _, rfl, _, rfl, (by show 2 ≤ sizeLine; decide), k⟩
theorem ok_checked_conditions {f : Addr} {fd : FuncData} (F : Fun K "_checked_conditions" "_checked_conditions" s__checked_conditions f fd) (T : Ta mg) (c_check_condition : Cal P w K mg base 1 "check_condition" ["value"] (spCCond Z)) : FnG P w K mg base 2 f fd ["conditions"] (spCConds K Z) := by
  refine okG F sc__checked_conditions (fun vs H Q E h => ?_) (fun cdv A outer s H vs Q hr h => ?_)
  · obtain ⟨q, as, l, rfl, _⟩ := h
    rfl
  · obtain ⟨q, as, l, rfl, hq, hl, k⟩ := h
    refine ⟨_, (pss_cons (ps_for PassesOwn.never rfl (pi_tup (pv 0)) (pg_name (i := 1) sc__checked_conditions.nd rfl (by first | exact .inl rfl | exact .inr rfl))
    (pss_one (ps_expr (pe_c c_check_condition hr (by decide) rfl (pa_cons (pv 1) pa_nil)))))
  (pss_one (ps_ret (pv 0)))), ?_⟩
    refine ⟨_, rfl, q, rfl, ⟨_, hq⟩, for_tup (K := K) (a := q) (xs := as.map V.ref) (fun i σ H' => ∃ x1, σ = [some (.ref q), x1] ∧ H' = H) ⟨_, rfl, rfl⟩ (fun i σ H' _ ⟨_, _, e⟩ => e ▸ hq) ?_ ?_⟩
    · rintro i v σ H1 hi ⟨x1, rfl, rfl⟩
      obtain ⟨a, c, rfl, _, ca⟩ := hl.get hi
      obtain ⟨dx, p, r, s, zs, ha, kn, _⟩ := ca.ins
      exact ⟨_, rfl, a, _, dx, _, rfl, ha, kn, _, rfl, rfl⟩
    · rintro σ H1 ⟨x1, rfl, rfl⟩
      exact ⟨_, rfl, k⟩
variable {fI : Addr} {fdI : FuncData} (FI : FnG P w K mg base 1 fI fdI ["self", "forms", "conditions"] (spCInit K)) (bI : ∀ us : List Value, us.length = ["self", "forms", "conditions"].length → bindArgs fdI ⟨us, []⟩ = pure ((["self", "forms", "conditions"] : List Str).zip us))
include FI bI
theorem ok_Below_init {f cda cc : Addr} {fd : FuncData} (F : FunC P K "__init__" "Below.__init__" (defArgs s_Below_init) (defBody s_Below_init) (defScope s_Below_init) f cda cc (Z.two 0) fd) (TC : Tc mg) (C0 : Fc K mg Z.form) (Z0 : Cf K mg Z) (ST : SupTo K (Z.two 0) (Z.two 0) fI) (c__checked_forms : Cal P w K mg base 2 "_checked_forms" ["first", "second"] (spCForms Z.form)) :
    FnG P w K mg base 3 f fd ["self", "first", "second"] (spTwo K Z 0) := by
  refine okGC F sc_Below_init (fun vs H Q E h => ?_) (fun A outer s H vs Q hr h => ?_)
  · obtain ⟨x, dx, f, g, ts, us, rfl, _⟩ := h
    rfl
  · obtain ⟨x, dx, f, g, ts, us, rfl, hx, hf, hg, bf, bg, k⟩ := h
    refine ⟨_, (psas_cons (psa_superG FI bI hr (by decide) ⟨rfl, F.sup, TC.b_super, rfl, rfl, rfl, rfl⟩ (pa_cons (pe_c c__checked_forms hr (by decide) rfl (pa_cons (pv 1) (pa_cons (pv 2) pa_nil))) (pa_cons pe_tup0F pa_nil))) (psas_of pss_nil)), ?_⟩
    refine ⟨x, _, dx, [], rfl, hx, ST, _, rfl, _, rfl, f, g, rfl, hf.is, hg.is, fun p H1 np s1 hp => fun q H2 nq s2 tq => ?_⟩
    have s12 := s1.trans s2
    refine cinit_two (E := E0) C0 Z0 (s12 _ _ hx) (SqT.of (s2 _ _ hp)) tq.sq (hf.same s12) (hg.same s12) bf bg (by decide) fun H' o hc => k H' ((Off.same s12).trans o) hc
theorem ok_Upto_init {f cda cc : Addr} {fd : FuncData} (F : FunC P K "__init__" "Upto.__init__" (defArgs s_Upto_init) (defBody s_Upto_init) (defScope s_Upto_init) f cda cc (Z.two 1) fd) (TC : Tc mg) (C0 : Fc K mg Z.form) (Z0 : Cf K mg Z) (ST : SupTo K (Z.two 1) (Z.two 1) fI) (c__checked_forms : Cal P w K mg base 2 "_checked_forms" ["first", "second"] (spCForms Z.form)) :
    FnG P w K mg base 3 f fd ["self", "first", "second"] (spTwo K Z 1) := by
  refine okGC F sc_Upto_init (fun vs H Q E h => ?_) (fun A outer s H vs Q hr h => ?_)
  · obtain ⟨x, dx, f, g, ts, us, rfl, _⟩ := h
    rfl
  · obtain ⟨x, dx, f, g, ts, us, rfl, hx, hf, hg, bf, bg, k⟩ := h
    refine ⟨_, (psas_cons (psa_superG FI bI hr (by decide) ⟨rfl, F.sup, TC.b_super, rfl, rfl, rfl, rfl⟩ (pa_cons (pe_c c__checked_forms hr (by decide) rfl (pa_cons (pv 1) (pa_cons (pv 2) pa_nil))) (pa_cons pe_tup0F pa_nil))) (psas_of pss_nil)), ?_⟩
    refine ⟨x, _, dx, [], rfl, hx, ST, _, rfl, _, rfl, f, g, rfl, hf.is, hg.is, fun p H1 np s1 hp => fun q H2 nq s2 tq => ?_⟩
    have s12 := s1.trans s2
    refine cinit_two (E := E0) C0 Z0 (s12 _ _ hx) (SqT.of (s2 _ _ hp)) tq.sq (hf.same s12) (hg.same s12) bf bg (by decide) fun H' o hc => k H' ((Off.same s12).trans o) hc
theorem ok_Same_init {f cda cc : Addr} {fd : FuncData} (F : FunC P K "__init__" "Same.__init__" (defArgs s_Same_init) (defBody s_Same_init) (defScope s_Same_init) f cda cc (Z.two 2) fd) (TC : Tc mg) (C0 : Fc K mg Z.form) (Z0 : Cf K mg Z) (ST : SupTo K (Z.two 2) (Z.two 2) fI) (c__checked_forms : Cal P w K mg base 2 "_checked_forms" ["first", "second"] (spCForms Z.form)) :
    FnG P w K mg base 3 f fd ["self", "first", "second"] (spTwo K Z 2) := by
  refine okGC F sc_Same_init (fun vs H Q E h => ?_) (fun A outer s H vs Q hr h => ?_)
  · obtain ⟨x, dx, f, g, ts, us, rfl, _⟩ := h
    rfl
  · obtain ⟨x, dx, f, g, ts, us, rfl, hx, hf, hg, bf, bg, k⟩ := h
    refine ⟨_, (psas_cons (psa_superG FI bI hr (by decide) ⟨rfl, F.sup, TC.b_super, rfl, rfl, rfl, rfl⟩ (pa_cons (pe_c c__checked_forms hr (by decide) rfl (pa_cons (pv 1) (pa_cons (pv 2) pa_nil))) (pa_cons pe_tup0F pa_nil))) (psas_of pss_nil)), ?_⟩
    refine ⟨x, _, dx, [], rfl, hx, ST, _, rfl, _, rfl, f, g, rfl, hf.is, hg.is, fun p H1 np s1 hp => fun q H2 nq s2 tq => ?_⟩
    have s12 := s1.trans s2
    refine cinit_two (E := E0) C0 Z0 (s12 _ _ hx) (SqT.of (s2 _ _ hp)) tq.sq (hf.same s12) (hg.same s12) bf bg (by decide) fun H' o hc => k H' ((Off.same s12).trans o) hc
theorem ok_Not_init {f cda cc : Addr} {fd : FuncData} (F : FunC P K "__init__" "Not.__init__" (defArgs s_Not_init) (defBody s_Not_init) (defScope s_Not_init) f cda cc (Z.more 0) fd) (TC : Tc mg) (Z0 : Cf K mg Z) (ST : SupTo K (Z.more 0) (Z.more 0) fI) (c__checked_conditions : Cal P w K mg base 2 "_checked_conditions" ["conditions"] (spCConds K Z)) :
    FnG P w K mg base 3 f fd ["self", "condition"] (spNot K Z) := by
  refine okGC F sc_Not_init (fun vs H Q E h => ?_) (fun A outer s H vs Q hr h => ?_)
  · obtain ⟨x, dx, a, c, Wd, rfl, _⟩ := h
    rfl
  · obtain ⟨x, dx, a, c, Wd, rfl, hx, ca, h12, h4, hW, hz, k⟩ := h
    refine ⟨_, (psas_cons (psa_superG FI bI hr (by decide) ⟨rfl, F.sup, TC.b_super, rfl, rfl, rfl, rfl⟩ (pa_cons pe_tup0F (pa_cons (pe_c c__checked_conditions hr (by decide) rfl (pa_cons (pe_tupS (pa_cons (pv 1) pa_nil)) pa_nil)) pa_nil))) (psas_of pss_nil)), ?_⟩
    refine ⟨x, _, dx, [], rfl, hx, ST, fun p H1 np s1 tp => ⟨_, rfl, (by show 1 ≤ sizeLine; decide), fun q H2 nq s2 hq => ?_⟩⟩
    have s12 := s1.trans s2
    have hl : CondsAt K Z H2 [a] [c] := .cons (ca.same s12) .nil
    refine ⟨q, [a], [c], rfl, SqT.of hq, hl, ?_⟩
    refine cinit_more (E := E0) (as := [a]) Z0 (s12 _ _ hx) (tp.same s2).sq (SqT.of hq) hl (by simpa [partsL] using h12) (by simpa [depthL] using h4) hW (by simpa [symsL] using hz) (by decide) (fun _ => rfl) fun H' o hc => k H' ((Off.same s12).trans o) hc
theorem ok_All_init {f cda cc : Addr} {fd : FuncData} (F : FunC P K "__init__" "All.__init__" (defArgs s_All_init) (defBody s_All_init) (defScope s_All_init) f cda cc (Z.more 1) fd) (TC : Tc mg) (Z0 : Cf K mg Z) (ST : SupTo K (Z.more 1) (Z.more 1) fI) (c__checked_conditions : Cal P w K mg base 2 "_checked_conditions" ["conditions"] (spCConds K Z))
    (hb : ∀ us rest : List Value, us.length = ["self"].length → bindArgs fd ⟨us ++ rest, []⟩ = (newTuple rest >>= fun t => pure ((["self"] : List Str).zip us ++ [(("conditions" : Str), t)]))) :
    FnP P w K mg base CX0 3 f (fun vs H Q E => ∃ ws rest, vs = ws ++ rest ∧ ws.length = ["self"].length ∧ rest.length ≤ sizeLine ∧ ∀ p, H p = Option.none → spMany K Z 1 (ws ++ [V.ref p]) (upd H p (.tup rest)) Q E) := by
  refine fn_starC (pv := "conditions") (ps := ["self"]) F sc_All_init StX.cxUp_none hb (fun A outer s H vs Q E hr h => ?_)
  obtain ⟨x, dx, q, as, l, Wd, rfl, hx, hq, hl, h12, h4, hW, hz, k⟩ := h
  refine ⟨_, (psas_cons (psa_superG FI bI hr (by decide) ⟨rfl, F.sup, TC.b_super, rfl, rfl, rfl, rfl⟩ (pa_cons pe_tup0F (pa_cons (pe_c c__checked_conditions hr (by decide) rfl (pa_cons (pv 1) pa_nil)) pa_nil))) (psas_of pss_nil)), ?_⟩
  refine ⟨x, _, dx, [], rfl, hx, ST, fun p H1 np s1 tp => ?_⟩
  have hl1 := hl.same s1
  have hq1 := sqT_same s1 hq
  refine ⟨_, rfl, q, as, l, rfl, hq1, hl1, ?_⟩
  refine cinit_more (E := E0) (as := as) Z0 (s1 _ _ hx) tp.sq hq1 hl1 h12 h4 hW hz (by decide) (fun e => absurd e (by decide)) fun H' o hc => k H' ((Off.same s1).trans o) hc
theorem ok_Any_init {f cda cc : Addr} {fd : FuncData} (F : FunC P K "__init__" "Any.__init__" (defArgs s_Any_init) (defBody s_Any_init) (defScope s_Any_init) f cda cc (Z.more 2) fd) (TC : Tc mg) (Z0 : Cf K mg Z) (ST : SupTo K (Z.more 2) (Z.more 2) fI) (c__checked_conditions : Cal P w K mg base 2 "_checked_conditions" ["conditions"] (spCConds K Z))
    (hb : ∀ us rest : List Value, us.length = ["self"].length → bindArgs fd ⟨us ++ rest, []⟩ = (newTuple rest >>= fun t => pure ((["self"] : List Str).zip us ++ [(("conditions" : Str), t)]))) :
    FnP P w K mg base CX0 3 f (fun vs H Q E => ∃ ws rest, vs = ws ++ rest ∧ ws.length = ["self"].length ∧ rest.length ≤ sizeLine ∧ ∀ p, H p = Option.none → spMany K Z 2 (ws ++ [V.ref p]) (upd H p (.tup rest)) Q E) := by
  refine fn_starC (pv := "conditions") (ps := ["self"]) F sc_Any_init StX.cxUp_none hb (fun A outer s H vs Q E hr h => ?_)
  obtain ⟨x, dx, q, as, l, Wd, rfl, hx, hq, hl, h12, h4, hW, hz, k⟩ := h
  refine ⟨_, (psas_cons (psa_superG FI bI hr (by decide) ⟨rfl, F.sup, TC.b_super, rfl, rfl, rfl, rfl⟩ (pa_cons pe_tup0F (pa_cons (pe_c c__checked_conditions hr (by decide) rfl (pa_cons (pv 1) pa_nil)) pa_nil))) (psas_of pss_nil)), ?_⟩
  refine ⟨x, _, dx, [], rfl, hx, ST, fun p H1 np s1 tp => ?_⟩
  have hl1 := hl.same s1
  have hq1 := sqT_same s1 hq
  refine ⟨_, rfl, q, as, l, rfl, hq1, hl1, ?_⟩
  refine cinit_more (E := E0) (as := as) Z0 (s1 _ _ hx) tp.sq hq1 hl1 h12 h4 hW hz (by decide) (fun e => absurd e (by decide)) fun H' o hc => k H' ((Off.same s1).trans o) hc
end
end Lw

/-! ## CdE -/
set_option maxHeartbeats 1000000
namespace Lw
open PySem PySem.Spec PyProof.Rows L2
open Fm (cf Asc Nm)
abbrev s_Below_is_met : Stmt := inClass (topS 40) 2
abbrev n_Below_is_met : List Str := ["self", "table", "first", "second"]
theorem sc_Below_is_met : FnScope n_Below_is_met ["self", "table"] (defScope s_Below_is_met) := ⟨rfl, rfl, rfl, by decide +kernel, rfl, by decide +kernel, by decide +kernel⟩
abbrev s_Upto_is_met : Stmt := inClass (topS 41) 2
abbrev n_Upto_is_met : List Str := ["self", "table", "first", "second"]
theorem sc_Upto_is_met : FnScope n_Upto_is_met ["self", "table"] (defScope s_Upto_is_met) := ⟨rfl, rfl, rfl, by decide +kernel, rfl, by decide +kernel, by decide +kernel⟩
abbrev s_Same_is_met : Stmt := inClass (topS 42) 2
abbrev n_Same_is_met : List Str := ["self", "table", "first", "second"]
theorem sc_Same_is_met : FnScope n_Same_is_met ["self", "table"] (defScope s_Same_is_met) := ⟨rfl, rfl, rfl, by decide +kernel, rfl, by decide +kernel, by decide +kernel⟩
abbrev s_Not_is_met : Stmt := inClass (topS 43) 2
abbrev n_Not_is_met : List Str := ["self", "table"]
theorem sc_Not_is_met : FnScope n_Not_is_met ["self", "table"] (defScope s_Not_is_met) := ⟨rfl, rfl, rfl, by decide +kernel, rfl, by decide +kernel, by decide +kernel⟩
abbrev s_All_is_met : Stmt := inClass (topS 44) 2
abbrev n_All_is_met : List Str := ["self", "table", "part"]
theorem sc_All_is_met : FnScope n_All_is_met ["self", "table"] (defScope s_All_is_met) := ⟨rfl, rfl, rfl, by decide +kernel, rfl, by decide +kernel, by decide +kernel⟩
abbrev s_Any_is_met : Stmt := inClass (topS 45) 2
abbrev n_Any_is_met : List Str := ["self", "table", "part"]
theorem sc_Any_is_met : FnScope n_Any_is_met ["self", "table"] (defScope s_Any_is_met) := ⟨rfl, rfl, rfl, by decide +kernel, rfl, by decide +kernel, by decide +kernel⟩
abbrev s_Condition_call : Stmt := inClass (topS 39) 3
abbrev n_Condition_call : List Str := ["self", "values"]
theorem sc_Condition_call : FnScope n_Condition_call ["self", "values"] (defScope s_Condition_call) := ⟨rfl, rfl, rfl, by decide +kernel, rfl, by decide +kernel, by decide +kernel⟩
/-- of which kind -/
def Cd.kind : Cd → Nat
  | .two k _ _ => k
  | .more k _ => 3 + k
def Knd (Z : Cz) (n : Nat) (C : Addr) : Prop := (n < 3 ∧ C = Z.two n) ∨ (3 ≤ n ∧ n < 6 ∧ C = Z.more (n - 3))
theorem CondAt.knd {K : PySem.W.Frag} {Z : Cz} {H : Hp} {a : Addr} {c : Cd} (h : CondAt K Z H a c) : Knd Z c.kind (c.cls Z) := by
  cases h with
  | two ha hp hq hr hz nd so hf hg bf bg hk => exact .inl ⟨hk, rfl⟩
  | @more _ _ _ _ _ k _ _ _ ha hp hq hr hz nd so hl hk h1 =>
    refine .inr ⟨by show 3 ≤ 3 + k; omega, by show 3 + k < 6; omega, ?_⟩
    show Z.more k = Z.more (3 + k - 3)
    rw [Nat.add_sub_cancel_left]
/-- is_met of the kind κ, no deeper than n -/
def spMet (K : PySem.W.Frag) (Z : Cz) (n κ : Nat) : Sp := fun vs H Q _ => ∃ (a d : Addr) (c : Cd) (us : Tms), vs = [.ref a, .ref d] ∧ CondAt K Z H a c ∧ c.kind = κ ∧ c.parts ≤ 12 ∧ c.depth ≤ n ∧ H d = some (.dK (us.map entK)) ∧ VOk us ∧ (∀ z ∈ c.syms, z ∈ us.map (·.1)) ∧ ∀ H', Same H H' → Q (.bl (c.holds us)) H'
def Met (P : Program) (w : World) (K : PySem.W.Frag) (mg : Str → Option Value) (base : Heap) (Z : Cz) (n : Nat) : Prop := ∀ κ C, Knd Z κ C → Cls K C ∧ Mt P w K mg base (2 + n) C "is_met" ["self", "table"] (spMet K Z n κ)
/-- a condition called -/
def spCall (K : PySem.W.Frag) (Z : Cz) : Sp := fun vs H Q _ => ∃ (a p : Addr) (c : Cd) (us : Tms), vs = [.ref a, .ref p] ∧ CondAt K Z H a c ∧ c.parts ≤ 12 ∧ c.depth ≤ 4 ∧ TermsAt H p us ∧ VOk us ∧ (∀ z ∈ c.syms, z ∈ us.map (·.1)) ∧ ∀ H', Same H H' → Q (.bl (c.holds us)) H'
section
variable {P : Program} {w : World} {K : PySem.W.Frag} {mg : Str → Option Value} {base : Heap} {Z : Cz}
theorem parts_mem {c : Cd} : ∀ {l : List Cd}, c ∈ l → c.parts ≤ partsL l
  | d :: r, h => by
    show _ ≤ d.parts + partsL r
    rcases List.mem_cons.mp h with rfl | h
    · omega
    · have := parts_mem h
      omega
theorem depth_pos : ∀ c : Cd, 1 ≤ c.depth
  | .two _ _ _ => Nat.le_refl 1
  | .more _ l => by
    show 1 ≤ 1 + depthL l
    omega
theorem ok_Below_is_met {n : Nat} {f : Addr} {fd : FuncData} (F : Fun K "is_met" "Below.is_met" s_Below_is_met f fd) (Z0 : Cf K mg Z) (c_worth_of : Cal P w K mg base 1 "worth_of" ["form", "table"] (spWorth Z.form)) : FnG P w K mg base 2 f fd ["self", "table"] (spMet K Z n 0) := by
  refine okG F sc_Below_is_met (fun vs H Q E h => ?_) (fun cdv A outer s H vs Q hr h => ?_)
  · obtain ⟨a, d, c, us, rfl, _⟩ := h
    rfl
  · obtain ⟨a, d, c, us, rfl, ca, ck, _, _, hd, ok, hm, k⟩ := h
    refine ⟨_, (pss_cons (ps_asg (pe_fld (pv 0) rfl) (pg_tup rfl (pgs_cons (pg_name (i := 2) sc_Below_is_met.nd rfl (by first | exact .inl rfl | exact .inr rfl)) (pgs_cons (pg_name (i := 3) sc_Below_is_met.nd rfl (by first | exact .inl rfl | exact .inr rfl)) pgs_nil))))
  (pss_one (ps_ret (pe_cmpR op_lt (pe_c c_worth_of hr (by decide) rfl (pa_cons (pv 2) (pa_cons (pv 1) pa_nil))) (pe_c c_worth_of hr (by decide) rfl (pa_cons (pv 3) (pa_cons (pv 1) pa_nil))) (nomark _))))), ?_⟩
    cases ca with
    | more ha hp hq hr hz nd so hl hk h1 => exact absurd (show 3 + _ = 0 from ck) (by omega)
    | @two _ dx p q r f g k0 ts vs zs ha hp hq hr hz nd so hf hg bf bg hk =>
      obtain rfl : k0 = 0 := ck
      have kc := Z0.kc _ ⟨0, hk, .inl rfl⟩
      have m1 : ∀ q ∈ ts, q.1 ∈ us.map (·.1) := fun q m => hm _ (List.mem_append_left _ (List.mem_map_of_mem m))
      have m2 : ∀ q ∈ vs, q.1 ∈ us.map (·.1) := fun q m => hm _ (List.mem_append_right _ (List.mem_map_of_mem m))
      refine ⟨_, rfl, a, _, dx, _, _, rfl, ha, kc.cls, kc.nF, rfl, p, _, rfl, hp, rfl, _, _, rfl, _, _, rfl, rfl, ?_⟩
      refine ⟨_, rfl, _, rfl, f, d, us, ts, rfl, hf, bf, hd, ok, m1, fun H2 s2 => ⟨_, rfl, _, rfl, g, d, us, vs, rfl, hg.same s2, bg, s2 _ _ hd, ok, m2, fun H3 s3 => ?_⟩⟩
      exact ⟨_, _, rfl, rfl, k H3 (s2.trans s3)⟩
theorem ok_Upto_is_met {n : Nat} {f : Addr} {fd : FuncData} (F : Fun K "is_met" "Upto.is_met" s_Upto_is_met f fd) (Z0 : Cf K mg Z) (c_worth_of : Cal P w K mg base 1 "worth_of" ["form", "table"] (spWorth Z.form)) : FnG P w K mg base 2 f fd ["self", "table"] (spMet K Z n 1) := by
  refine okG F sc_Upto_is_met (fun vs H Q E h => ?_) (fun cdv A outer s H vs Q hr h => ?_)
  · obtain ⟨a, d, c, us, rfl, _⟩ := h
    rfl
  · obtain ⟨a, d, c, us, rfl, ca, ck, _, _, hd, ok, hm, k⟩ := h
    refine ⟨_, (pss_cons (ps_asg (pe_fld (pv 0) rfl) (pg_tup rfl (pgs_cons (pg_name (i := 2) sc_Upto_is_met.nd rfl (by first | exact .inl rfl | exact .inr rfl)) (pgs_cons (pg_name (i := 3) sc_Upto_is_met.nd rfl (by first | exact .inl rfl | exact .inr rfl)) pgs_nil))))
  (pss_one (ps_ret (pe_cmpR op_le (pe_c c_worth_of hr (by decide) rfl (pa_cons (pv 2) (pa_cons (pv 1) pa_nil))) (pe_c c_worth_of hr (by decide) rfl (pa_cons (pv 3) (pa_cons (pv 1) pa_nil))) (nomark _))))), ?_⟩
    cases ca with
    | more ha hp hq hr hz nd so hl hk h1 => exact absurd (show 3 + _ = 1 from ck) (by omega)
    | @two _ dx p q r f g k0 ts vs zs ha hp hq hr hz nd so hf hg bf bg hk =>
      obtain rfl : k0 = 1 := ck
      have kc := Z0.kc _ ⟨1, hk, .inl rfl⟩
      have m1 : ∀ q ∈ ts, q.1 ∈ us.map (·.1) := fun q m => hm _ (List.mem_append_left _ (List.mem_map_of_mem m))
      have m2 : ∀ q ∈ vs, q.1 ∈ us.map (·.1) := fun q m => hm _ (List.mem_append_right _ (List.mem_map_of_mem m))
      refine ⟨_, rfl, a, _, dx, _, _, rfl, ha, kc.cls, kc.nF, rfl, p, _, rfl, hp, rfl, _, _, rfl, _, _, rfl, rfl, ?_⟩
      refine ⟨_, rfl, _, rfl, f, d, us, ts, rfl, hf, bf, hd, ok, m1, fun H2 s2 => ⟨_, rfl, _, rfl, g, d, us, vs, rfl, hg.same s2, bg, s2 _ _ hd, ok, m2, fun H3 s3 => ?_⟩⟩
      exact ⟨_, _, rfl, rfl, k H3 (s2.trans s3)⟩
theorem ok_Same_is_met {n : Nat} {f : Addr} {fd : FuncData} (F : Fun K "is_met" "Same.is_met" s_Same_is_met f fd) (Z0 : Cf K mg Z) (c_worth_of : Cal P w K mg base 1 "worth_of" ["form", "table"] (spWorth Z.form)) : FnG P w K mg base 2 f fd ["self", "table"] (spMet K Z n 2) := by
  refine okG F sc_Same_is_met (fun vs H Q E h => ?_) (fun cdv A outer s H vs Q hr h => ?_)
  · obtain ⟨a, d, c, us, rfl, _⟩ := h
    rfl
  · obtain ⟨a, d, c, us, rfl, ca, ck, _, _, hd, ok, hm, k⟩ := h
    refine ⟨_, (pss_cons (ps_asg (pe_fld (pv 0) rfl) (pg_tup rfl (pgs_cons (pg_name (i := 2) sc_Same_is_met.nd rfl (by first | exact .inl rfl | exact .inr rfl)) (pgs_cons (pg_name (i := 3) sc_Same_is_met.nd rfl (by first | exact .inl rfl | exact .inr rfl)) pgs_nil))))
  (pss_one (ps_ret (pe_cmpR op_eq (pe_c c_worth_of hr (by decide) rfl (pa_cons (pv 2) (pa_cons (pv 1) pa_nil))) (pe_c c_worth_of hr (by decide) rfl (pa_cons (pv 3) (pa_cons (pv 1) pa_nil))) (nomark _))))), ?_⟩
    cases ca with
    | more ha hp hq hr hz nd so hl hk h1 => exact absurd (show 3 + _ = 2 from ck) (by omega)
    | @two _ dx p q r f g k0 ts vs zs ha hp hq hr hz nd so hf hg bf bg hk =>
      obtain rfl : k0 = 2 := ck
      have kc := Z0.kc _ ⟨2, hk, .inl rfl⟩
      have m1 : ∀ q ∈ ts, q.1 ∈ us.map (·.1) := fun q m => hm _ (List.mem_append_left _ (List.mem_map_of_mem m))
      have m2 : ∀ q ∈ vs, q.1 ∈ us.map (·.1) := fun q m => hm _ (List.mem_append_right _ (List.mem_map_of_mem m))
      refine ⟨_, rfl, a, _, dx, _, _, rfl, ha, kc.cls, kc.nF, rfl, p, _, rfl, hp, rfl, _, _, rfl, _, _, rfl, rfl, ?_⟩
      refine ⟨_, rfl, _, rfl, f, d, us, ts, rfl, hf, bf, hd, ok, m1, fun H2 s2 => ⟨_, rfl, _, rfl, g, d, us, vs, rfl, hg.same s2, bg, s2 _ _ hd, ok, m2, fun H3 s3 => ?_⟩⟩
      refine ⟨rfl, ?_⟩
      have e : decide (V.int (sumE ts us) = V.int (sumE vs us)) = cmpK 2 (sumE ts us) (sumE vs us) := by
        show _ = decide (_ = _)
        rw [Bool.eq_iff_iff, decide_eq_true_iff, decide_eq_true_iff]
        exact ⟨V.int.inj, congrArg V.int⟩
      rw [e]
      exact k H3 (s2.trans s3)
theorem ok_Not_is_met {n : Nat} {f : Addr} {fd : FuncData} (F : Fun K "is_met" "Not.is_met" s_Not_is_met f fd) (Z0 : Cf K mg Z) (M_is_met : Met P w K mg base Z n) : FnG P w K mg base (2 + n + 1) f fd ["self", "table"] (spMet K Z (n + 1) 3) := by
  refine okG F sc_Not_is_met (fun vs H Q E h => ?_) (fun cdv A outer s H vs Q hr h => ?_)
  · obtain ⟨a, d, c, us, rfl, _⟩ := h
    rfl
  · obtain ⟨a, d, c, us, rfl, ca, ck, cp, cd, hd, ok, hm, k⟩ := h
    refine ⟨_, (pss_one (ps_ret (pe_not (pe_meD (pe_ix ix_tup (pe_fld (pv 0) rfl) pe_int (fun _ _ => rfl)) M_is_met hr (Nat.le_refl _) (pa_cons (pv 1) pa_nil))))), ?_⟩
    cases ca with
    | @two _ dx p q r f g k0 ts vs zs ha hp hq hr hz nd so hf hg bf bg hk => exact absurd (show k0 = 3 from ck) (by omega)
    | @more _ dx p q r k0 as l zs ha hp hq hr hz nd so hl hk h1 =>
      obtain rfl : k0 = 0 := by
        have : 3 + k0 = 3 := ck
        omega
      obtain ⟨c', rfl⟩ := List.length_eq_one_iff.mp (h1 rfl)
      have kc := Z0.kc _ ⟨0, hk, .inr rfl⟩
      have dm := depth_mem (c := c') (l := [c']) List.mem_cons_self
      have pm := parts_mem (c := c') (l := [c']) List.mem_cons_self
      have cd : 1 + depthL [c'] ≤ n + 1 := cd
      have cp : 1 + partsL [c'] ≤ 12 := cp
      cases hl with
      | @cons a' _ _ _ ca' r' =>
        cases r'
        obtain ⟨dx', p', q', r', zs', ha', kn', _⟩ := ca'.ins
        refine ⟨_, rfl, a, _, dx, _, _, rfl, ha, kc.cls, kc.nC, rfl, q, _, 0, _, rfl, rfl, hq, rfl, a', c'.cls Z, dx', _, c'.kind, rfl, ha', ca'.knd, rfl, _, rfl, a', d, c', us, rfl, ca', rfl, by omega, by omega, hd, ok, fun z m => hm z (mem_symsL.mpr ⟨0, c', rfl, m⟩), fun H2 s2 => ⟨_, rfl, ?_⟩⟩
        have e : (Cd.more 0 [c']).holds us = !(c'.holds us) := by
          show (!(c'.holds us && true)) = _
          rw [Bool.and_true]
        rw [← e]
        exact k H2 s2
theorem ok_All_is_met {n : Nat} {f : Addr} {fd : FuncData} (F : Fun K "is_met" "All.is_met" s_All_is_met f fd) (T : Ta mg) (TC : Tc mg) (Z0 : Cf K mg Z) (M_is_met : Met P w K mg base Z n) : FnG P w K mg base (2 + n + 1) f fd ["self", "table"] (spMet K Z (n + 1) 4) := by
  refine okG F sc_All_is_met (fun vs H Q E h => ?_) (fun cdv A outer s H vs Q hr h => ?_)
  · obtain ⟨a, d, c, us, rfl, _⟩ := h
    rfl
  · obtain ⟨a, d, c, us, rfl, ca, ck, cp, cd, hd, ok, hm, k⟩ := h
    refine ⟨_, (pss_one (ps_ret (pe_callB (cr_all (by rfl)) (by rfl) T.b_all (by decide +kernel) (pa_cons (pe_lc (own := [("part", 2)]) (g := gName 2) (tt := tYes) rfl sc_All_is_met.nd (pi_tup (pe_fld (pv 0) rfl)) (blkOk_by (own := [("part", 2)]) (N := n_All_is_met) (sc := defScope s_All_is_met) (by decide +kernel)) (fun _ _ _ _ _ => pg_name (i := 2) sc_All_is_met.nd rfl (Or.inl rfl)) (fun _ _ _ _ _ => pts_nil) (fun _ _ _ _ _ => (pe_meD (pv 2) M_is_met hr (Nat.le_refl _) (pa_cons (pv 1) pa_nil)))) pa_nil)))), ?_⟩
    cases ca with
    | @two _ dx p q r f g k0 ts vs zs ha hp hq hr hz nd so hf hg bf bg hk => exact absurd (show k0 = 4 from ck) (by omega)
    | @more _ dx p q r k0 as l zs ha hp hq hr hz nd so hl hk h1 =>
      obtain rfl : k0 = 1 := by
        have : 3 + k0 = 4 := ck
        omega
      have kc := Z0.kc _ ⟨1, hk, .inr rfl⟩
      have cd : 1 + depthL l ≤ n + 1 := cd
      have cp : 1 + partsL l ≤ 12 := cp
      have pl := parts_len l
      have len := hl.len
      refine ⟨_, rfl, a, _, dx, _, _, rfl, ha, kc.cls, kc.nC, rfl, q, rfl, ⟨_, hq⟩, fun D hD => lc_fn (walk_tup (K := K) (a := q) (xs := as.map V.ref)) (fun i => .bl ((l.map (·.holds us)).getD i false)) (by rw [List.length_map]; omega) hD (fun H' s' => sqT_same s' hq) (fun i v H2 H3 Q' hi s2 y kq => ?_) fun H2 s2 d2 => ?_⟩
      · obtain ⟨rfl, hv⟩ := y
        obtain ⟨a', c', rfl, hc, ca'⟩ := hl.get hv
        have mc := List.mem_of_getElem? hc
        have dm := depth_mem mc
        have pm := parts_mem mc
        have ca2 := ca'.same s2
        obtain ⟨dx', p', q', r', zs', ha', kn', _⟩ := ca2.ins
        refine ⟨rfl, _, rfl, a', c'.cls Z, dx', _, c'.kind, rfl, ha', ca2.knd, rfl, _, rfl, a', d, c', us, rfl, ca2, rfl, by omega, by omega, s2 _ _ hd, ok, fun z m => hm z (mem_symsL.mpr ⟨i, c', hc, m⟩), fun H4 s4 => ?_⟩
        have := kq H4 s4
        rwa [show (l.map (·.holds us)).getD i false = c'.holds us by rw [List.getD_eq_getElem?_getD, List.getElem?_map, hc]; rfl] at this
      · have e1 : (as.map V.ref).length = (l.map (·.holds us)).length := by rw [List.length_map, List.length_map, len]
        rw [e1, range_getD (l := l.map (·.holds us)) (g := V.bl) false (fun i _ => rfl)] at d2
        refine ⟨D, _, rfl, SqL.of d2, ?_⟩
        rw [← allL_map]
        exact k H2 s2
theorem ok_Any_is_met {n : Nat} {f : Addr} {fd : FuncData} (F : Fun K "is_met" "Any.is_met" s_Any_is_met f fd) (T : Ta mg) (TC : Tc mg) (Z0 : Cf K mg Z) (M_is_met : Met P w K mg base Z n) : FnG P w K mg base (2 + n + 1) f fd ["self", "table"] (spMet K Z (n + 1) 5) := by
  refine okG F sc_Any_is_met (fun vs H Q E h => ?_) (fun cdv A outer s H vs Q hr h => ?_)
  · obtain ⟨a, d, c, us, rfl, _⟩ := h
    rfl
  · obtain ⟨a, d, c, us, rfl, ca, ck, cp, cd, hd, ok, hm, k⟩ := h
    refine ⟨_, (pss_one (ps_ret (pe_callB (cr_any (by rfl)) (by rfl) TC.b_any (by decide +kernel) (pa_cons (pe_lc (own := [("part", 2)]) (g := gName 2) (tt := tYes) rfl sc_Any_is_met.nd (pi_tup (pe_fld (pv 0) rfl)) (blkOk_by (own := [("part", 2)]) (N := n_Any_is_met) (sc := defScope s_Any_is_met) (by decide +kernel)) (fun _ _ _ _ _ => pg_name (i := 2) sc_Any_is_met.nd rfl (Or.inl rfl)) (fun _ _ _ _ _ => pts_nil) (fun _ _ _ _ _ => (pe_meD (pv 2) M_is_met hr (Nat.le_refl _) (pa_cons (pv 1) pa_nil)))) pa_nil)))), ?_⟩
    cases ca with
    | @two _ dx p q r f g k0 ts vs zs ha hp hq hr hz nd so hf hg bf bg hk => exact absurd (show k0 = 5 from ck) (by omega)
    | @more _ dx p q r k0 as l zs ha hp hq hr hz nd so hl hk h1 =>
      obtain rfl : k0 = 2 := by
        have : 3 + k0 = 5 := ck
        omega
      have kc := Z0.kc _ ⟨2, hk, .inr rfl⟩
      have cd : 1 + depthL l ≤ n + 1 := cd
      have cp : 1 + partsL l ≤ 12 := cp
      have pl := parts_len l
      have len := hl.len
      refine ⟨_, rfl, a, _, dx, _, _, rfl, ha, kc.cls, kc.nC, rfl, q, rfl, ⟨_, hq⟩, fun D hD => lc_fn (walk_tup (K := K) (a := q) (xs := as.map V.ref)) (fun i => .bl ((l.map (·.holds us)).getD i false)) (by rw [List.length_map]; omega) hD (fun H' s' => sqT_same s' hq) (fun i v H2 H3 Q' hi s2 y kq => ?_) fun H2 s2 d2 => ?_⟩
      · obtain ⟨rfl, hv⟩ := y
        obtain ⟨a', c', rfl, hc, ca'⟩ := hl.get hv
        have mc := List.mem_of_getElem? hc
        have dm := depth_mem mc
        have pm := parts_mem mc
        have ca2 := ca'.same s2
        obtain ⟨dx', p', q', r', zs', ha', kn', _⟩ := ca2.ins
        refine ⟨rfl, _, rfl, a', c'.cls Z, dx', _, c'.kind, rfl, ha', ca2.knd, rfl, _, rfl, a', d, c', us, rfl, ca2, rfl, by omega, by omega, s2 _ _ hd, ok, fun z m => hm z (mem_symsL.mpr ⟨i, c', hc, m⟩), fun H4 s4 => ?_⟩
        have := kq H4 s4
        rwa [show (l.map (·.holds us)).getD i false = c'.holds us by rw [List.getD_eq_getElem?_getD, List.getElem?_map, hc]; rfl] at this
      · have e1 : (as.map V.ref).length = (l.map (·.holds us)).length := by rw [List.length_map, List.length_map, len]
        rw [e1, range_getD (l := l.map (·.holds us)) (g := V.bl) false (fun i _ => rfl)] at d2
        refine ⟨D, _, rfl, SqL.of d2, ?_⟩
        rw [← anyL_map]
        exact k H2 s2
theorem ok_Condition_call {f : Addr} {fd : FuncData} (F : Fun K "__call__" "Condition.__call__" s_Condition_call f fd) (Z0 : Cf K mg Z) (M_is_met : Met P w K mg base Z 4) (c_table_of : Cal P w K mg base 5 "table_of" ["values", "symbols"] spTable) : FnG P w K mg base 7 f fd ["self", "values"] (spCall K Z) := by
  refine okG F sc_Condition_call (fun vs H Q E h => ?_) (fun cdv A outer s H vs Q hr h => ?_)
  · obtain ⟨a, p, c, us, rfl, _⟩ := h
    rfl
  · obtain ⟨a, p, c, us, rfl, ca, cp, c4, hv, ok, hm, k⟩ := h
    refine ⟨_, (pss_one (ps_ret (pe_meD (pv 0) M_is_met hr (Nat.le_refl _) (pa_cons (pe_c c_table_of hr (by decide) rfl (pa_cons (pv 1) (pa_cons (pe_fld (pv 0) rfl) pa_nil))) pa_nil)))), ?_⟩
    obtain ⟨dx, p', q', r, zs, ha, kn, hr', hz, _⟩ := ca.ins
    have kc := Z0.kc _ kn
    have hs : SymsAt H r (zs.map fun z => (z, (0 : Int))) := by
      show TupF H r _
      rw [List.map_map]
      exact hr'
    refine ⟨_, rfl, a, c.cls Z, dx, _, c.kind, rfl, ha, ca.knd, rfl, _, rfl, _, rfl, a, _, dx, _, _, rfl, ha, kc.cls, kc.nS, rfl, p, r, us, zs.map fun z => (z, (0 : Int)), rfl, hv, ok, hs, fun q m => ?_, fun d H2 s2 hd => ⟨a, d, c, us, rfl, ca.same s2, rfl, cp, c4, hd, ok, hm, fun H3 s3 => k H3 (s2.trans s3)⟩⟩
    obtain ⟨z, mz, rfl⟩ := List.mem_map.mp m
    exact hm z ((hz z).mp mz)
/-- a method's def, as the head tells it -/
def DefM (K : PySem.W.Frag) (C : Addr) (m qual : Str) (st : Stmt) (p1 p2 : Str) : Prop := ∃ (f : Addr) (fd : FuncData), Fun K m qual st f fd ∧ Meth K C m f ∧ (∀ us : List Value, us.length = [p1, p2].length → bindArgs fd ⟨us, []⟩ = pure ([p1, p2].zip us)) ∧
    (∀ (u v : Value) (a b : Str), [p1, p2] = [a, b] → bindArgs fd ⟨[u], [(b, v)]⟩ = pure ([a, b].zip [u, v]))
/-- the defs of is_met -/
structure MetF (K : PySem.W.Frag) (Z : Cz) : Prop where
  d0 : DefM K (Z.two 0) "is_met" "Below.is_met" s_Below_is_met "self" "table"
  d1 : DefM K (Z.two 1) "is_met" "Upto.is_met" s_Upto_is_met "self" "table"
  d2 : DefM K (Z.two 2) "is_met" "Same.is_met" s_Same_is_met "self" "table"
  d3 : DefM K (Z.more 0) "is_met" "Not.is_met" s_Not_is_met "self" "table"
  d4 : DefM K (Z.more 1) "is_met" "All.is_met" s_All_is_met "self" "table"
  d5 : DefM K (Z.more 2) "is_met" "Any.is_met" s_Any_is_met "self" "table"
theorem DefM.mt {C : Addr} {m qual : Str} {st : Stmt} {p1 p2 : Str} {k : Nat} {sp : Sp} (d : DefM K C m qual st p1 p2) (h : ∀ f fd, Fun K m qual st f fd → FnG P w K mg base k f fd [p1, p2] sp) : Mt P w K mg base k C m [p1, p2] sp := by
  obtain ⟨f, fd, F, hm, b, b2⟩ := d
  exact ⟨f, fd, h f fd F, hm, b, b2⟩
theorem met_all (T : Ta mg) (TC : Tc mg) (Z0 : Cf K mg Z) (D : MetF K Z) (c_worth_of : Cal P w K mg base 1 "worth_of" ["form", "table"] (spWorth Z.form)) : ∀ n, Met P w K mg base Z n
  | 0 => fun κ C kn => by
    have no : ∀ {f : Addr} {fd : FuncData}, FnG P w K mg base 2 f fd ["self", "table"] (spMet K Z 0 κ) := fun {f fd} => ⟨fun vs H Q E ⟨a, d, c, us, _, _, _, _, cd, _⟩ => absurd (depth_pos c) (by omega), fun A outer s H args us vs Q _ _ _ _ ⟨a, d, c, us, _, _, _, _, cd, _⟩ => absurd (depth_pos c) (by omega)⟩
    rcases kn with ⟨h, rfl⟩ | ⟨h3, h6, rfl⟩
    · refine ⟨(Z0.kc _ ⟨κ, h, .inl rfl⟩).cls, ?_⟩
      match κ, h with
      | 0, _ => exact D.d0.mt fun f fd F => no
      | 1, _ => exact D.d1.mt fun f fd F => no
      | 2, _ => exact D.d2.mt fun f fd F => no
    · refine ⟨(Z0.kc _ ⟨κ - 3, by omega, .inr rfl⟩).cls, ?_⟩
      match κ, h3, h6 with
      | 3, _, _ => exact D.d3.mt fun f fd F => no
      | 4, _, _ => exact D.d4.mt fun f fd F => no
      | 5, _, _ => exact D.d5.mt fun f fd F => no
  | n + 1 => fun κ C kn => by
    have M := met_all T TC Z0 D c_worth_of n
    rcases kn with ⟨h, rfl⟩ | ⟨h3, h6, rfl⟩
    · refine ⟨(Z0.kc _ ⟨κ, h, .inl rfl⟩).cls, ?_⟩
      match κ, h with
      | 0, _ => exact D.d0.mt fun f fd F => (ok_Below_is_met F Z0 c_worth_of).mono (by omega)
      | 1, _ => exact D.d1.mt fun f fd F => (ok_Upto_is_met F Z0 c_worth_of).mono (by omega)
      | 2, _ => exact D.d2.mt fun f fd F => (ok_Same_is_met F Z0 c_worth_of).mono (by omega)
    · refine ⟨(Z0.kc _ ⟨κ - 3, by omega, .inr rfl⟩).cls, ?_⟩
      match κ, h3, h6 with
      | 3, _, _ => exact D.d3.mt fun f fd F => ok_Not_is_met F Z0 M
      | 4, _, _ => exact D.d4.mt fun f fd F => ok_All_is_met F T TC Z0 M
      | 5, _, _ => exact D.d5.mt fun f fd F => ok_Any_is_met F T TC Z0 M
end
end Lw

/-! ## CdF -/
set_option maxHeartbeats 1000000
namespace Lw
open PySem PySem.Spec PyProof.Rows L2
open Fm (cf Asc Nm)
abbrev s__law_tree : Stmt := topS 61
abbrev n__law_tree : List Str := ["_law_heap_here", "_law_symbols", "_law_deep", "_law_way", "_law_word", "_law_many", "_law_inner", "_law_k"]
theorem sc__law_tree : FnScope n__law_tree ["_law_heap_here", "_law_symbols", "_law_deep"] (defScope s__law_tree) := ⟨rfl, rfl, rfl, by decide +kernel, rfl, by decide +kernel, by decide +kernel⟩
def wordT : Nat → Str
  | 0 => "<"
  | 1 => "<="
  | _ => "="
def wordM : Nat → Str
  | 0 => "not"
  | 1 => "all"
  | _ => "any"
mutual
/-- the law's tree of a condition -/
inductive TreeAt (K : PySem.W.Frag) (H : Hp) : Addr → Cd → Prop
  | two {a p q : Addr} {k : Nat} {ts us : Tms} (ha : SqT K H a [.str (wordT k), .ref p, .ref q]) (hp : LTerms H p ts) (hq : LTerms H q us) (hk : k < 3) : TreeAt K H a (.two k ts us)
  | more {a : Addr} {k : Nat} {as : List Addr} {l : List Cd} (ha : SqT K H a (.str (wordM k) :: as.map V.ref)) (hl : TreesAt K H as l) (hk : k < 3) (h3 : l.length ≤ 3) : TreeAt K H a (.more k l)
inductive TreesAt (K : PySem.W.Frag) (H : Hp) : List Addr → List Cd → Prop
  | nil : TreesAt K H [] []
  | cons {a : Addr} {c : Cd} {as : List Addr} {l : List Cd} (h : TreeAt K H a c) (r : TreesAt K H as l) : TreesAt K H (a :: as) (c :: l)
end
mutual
theorem TreeAt.same {K : PySem.W.Frag} {H H' : Hp} (s : Same H H') : ∀ {a : Addr} {c : Cd}, TreeAt K H a c → TreeAt K H' a c
  | _, _, .two ha hp hq hk => .two (sqT_same s ha) (hp.same s) (hq.same s) hk
  | _, _, .more ha hl hk h3 => .more (sqT_same s ha) (TreesAt.same s hl) hk h3
theorem TreesAt.same {K : PySem.W.Frag} {H H' : Hp} (s : Same H H') : ∀ {as : List Addr} {l : List Cd}, TreesAt K H as l → TreesAt K H' as l
  | _, _, .nil => .nil
  | _, _, .cons h r => .cons (TreeAt.same s h) (TreesAt.same s r)
end
theorem TreesAt.len {K : PySem.W.Frag} {H : Hp} : ∀ {as : List Addr} {l : List Cd}, TreesAt K H as l → as.length = l.length
  | _, _, .nil => rfl
  | _, _, .cons _ r => congrArg Nat.succ r.len
theorem TreesAt.get {K : PySem.W.Frag} {H : Hp} : ∀ {as : List Addr} {l : List Cd}, TreesAt K H as l → ∀ {i : Nat} {v : V}, (as.map V.ref)[i]? = some v → ∃ a c, v = .ref a ∧ l[i]? = some c ∧ TreeAt K H a c
  | _, _, .nil, i, v, h => by simp at h
  | _, _, .cons h r, 0, v, e => by
    cases e
    exact ⟨_, _, rfl, rfl, h⟩
  | _, _, .cons h r, i + 1, v, e => r.get (i := i) e
theorem TreesAt.snoc {K : PySem.W.Frag} {H : Hp} {a : Addr} {c : Cd} (h : TreeAt K H a c) : ∀ {as : List Addr} {l : List Cd}, TreesAt K H as l → TreesAt K H (as ++ [a]) (l ++ [c])
  | _, _, .nil => .cons h .nil
  | _, _, .cons k r => .cons k (TreesAt.snoc h r)
/-- terms over the symbols W, at most two -/
structure GTm (W : List Str) (ts : Tms) : Prop where
  nm : Nm ts
  rd : Rd99 ts
  mem : ∀ e ∈ ts, e.1 ∈ W
mutual
def Cd.good (W : List Str) : Cd → Prop
  | .two _ f g => GTm W f ∧ GTm W g
  | .more k l => (k = 0 → l.length = 1) ∧ goodL W l
def goodL (W : List Str) : List Cd → Prop
  | [] => True
  | c :: r => c.good W ∧ goodL W r
end
theorem goodL_mem {W : List Str} {c : Cd} : ∀ {l : List Cd}, goodL W l → c ∈ l → c.good W
  | d :: r, g, h => by
    rcases List.mem_cons.mp h with rfl | h
    · exact g.1
    · exact goodL_mem g.2 h
theorem goodL_of {W : List Str} : ∀ {l : List Cd}, (∀ c ∈ l, c.good W) → goodL W l
  | [], _ => True.intro
  | c :: r, h => ⟨h c List.mem_cons_self, goodL_of fun d m => h d (List.mem_cons_of_mem _ m)⟩
theorem depthL_le {n : Nat} : ∀ {l : List Cd}, (∀ c ∈ l, c.depth ≤ n) → depthL l ≤ n
  | [], _ => Nat.zero_le _
  | c :: r, h => by
    have h1 := h c List.mem_cons_self
    have h2 := depthL_le (l := r) fun d m => h d (List.mem_cons_of_mem _ m)
    show max c.depth (depthL r) ≤ n
    omega
mutual
theorem Cd.good_syms {W : List Str} : ∀ {c : Cd}, c.good W → ∀ z ∈ c.syms, z ∈ W
  | .two k f g, h, z, m => by
    rcases List.mem_append.mp (show z ∈ f.map (·.1) ++ g.map (·.1) from m) with m | m
    · obtain ⟨q, mq, rfl⟩ := List.mem_map.mp m
      exact h.1.mem q mq
    · obtain ⟨q, mq, rfl⟩ := List.mem_map.mp m
      exact h.2.mem q mq
  | .more k l, h, z, m => goodL_syms h.2 z m
theorem goodL_syms {W : List Str} : ∀ {l : List Cd}, goodL W l → ∀ z ∈ symsL l, z ∈ W
  | [], _, z, m => nomatch m
  | c :: r, h, z, m => by
    rcases List.mem_append.mp (show z ∈ c.syms ++ symsL r from m) with m | m
    · exact Cd.good_syms h.1 z m
    · exact goodL_syms h.2 z m
end
/-- what of H' was no list in H -/
def Nl (H H' : Hp) : Hp := fun b => match H b with
  | some (.lst _) => none
  | _ => H' b
theorem nl_get {H H' : Hp} {b : Addr} {o : HO} (e : Nl H H' b = some o) : (∀ xs, H b ≠ some (.lst xs)) ∧ H' b = some o := by
  unfold Nl at e
  split at e
  · cases e
  · rename_i h
    exact ⟨fun xs q => h xs q, e⟩
theorem nl_of {H H' : Hp} {b : Addr} {o : HO} (e : H' b = some o) (n : ∀ xs, H b ≠ some (.lst xs)) : Nl H H' b = some o := by
  unfold Nl
  split
  · rename_i xs q
    exact absurd q (n xs)
  · exact e
theorem nl_sub {H H' : Hp} : Same (Nl H H') H' := fun b o e => (nl_get e).2
theorem nl_mono {H B H1 H2 : Hp} (h1 : ∀ b xs, B b = some (.lst xs) → ∃ ys, H b = some (.lst ys)) (h2 : ∀ b o, (∀ xs, B b ≠ some (.lst xs)) → H1 b = some o → H2 b = some o) : Same (Nl H H1) (Nl B H2) := fun b o e => by
  obtain ⟨n, e⟩ := nl_get e
  have nb : ∀ xs, B b ≠ some (.lst xs) := fun xs q => let ⟨ys, z⟩ := h1 b xs q; n ys z
  exact nl_of (h2 b o nb e) nb
theorem nl_terms {H H' : Hp} {q : Addr} {ts : Tms} (s : Same H H') (hn : H q = none) (h : LTerms H' q ts) : LTerms (Nl H H') q ts := by
  obtain ⟨ps, h, k⟩ := h
  refine ⟨ps, nl_of h (fun xs e => by rw [hn] at e; cases e), k.tups fun b z e => nl_of e fun xs q => ?_⟩
  have := s _ _ q
  rw [e] at this
  cases this
theorem trees_of {K : PySem.W.Frag} {H : Hp} {Pc : Cd → Prop} : ∀ {ys : List V}, (∀ y ∈ ys, ∃ q c, y = .ref q ∧ TreeAt K H q c ∧ Pc c) → ∃ as l, ys = as.map V.ref ∧ TreesAt K H as l ∧ ∀ c ∈ l, Pc c
  | [], _ => ⟨[], [], rfl, .nil, nofun⟩
  | y :: r, h => by
    obtain ⟨q, c, rfl, t, pc⟩ := h y List.mem_cons_self
    obtain ⟨as, l, rfl, ta, pl⟩ := trees_of fun z m => h z (List.mem_cons_of_mem _ m)
    refine ⟨q :: as, c :: l, rfl, .cons t ta, fun d m => ?_⟩
    rcases List.mem_cons.mp m with rfl | m
    · exact pc
    · exact pl d m
def spTree (K : PySem.W.Frag) (n : Nat) : Sp := fun vs H Q _ => ∃ (a p : Addr) (zs : List Str) (d : Nat), vs = [.ref a, .ref p, .int (d : Int)] ∧ H a = some (DrawO a) ∧ H p = some (.lst (zs.map V.str)) ∧ zs.Nodup ∧ (∀ z ∈ zs, SyN z) ∧ zs.length ≤ 20 ∧ 1 ≤ d ∧ d ≤ n ∧ n ≤ 4 ∧
  ∀ q H' c, Same H H' → TreeAt K (Nl H H') q c → c.good zs → c.depth ≤ d → Q (.ref q) H'
section
variable {P : Program} {w : World} {K : PySem.W.Frag} {mg : Str → Option Value} {base : Heap}
variable (c__law_roll : Cal P w K mg base 1 "_law_roll" ["_law_heap_here", "_law_many"] spRoll) (c__law_terms : Cal P w K mg base 3 "_law_terms" ["_law_heap_here", "_law_symbols", "_law_most"] spLTerms)
include c__law_roll c__law_terms
theorem ok_law_tree {n : Nat} {f : Addr} {fd : FuncData} (F : Fun K "_law_tree" "_law_tree" s__law_tree f fd) (T : Ta mg) (c__law_tree : Cal P w K mg base (3 + n) "_law_tree" ["_law_heap_here", "_law_symbols", "_law_deep"] (spTree K n)) : FnG P w K mg base (3 + n + 1) f fd ["_law_heap_here", "_law_symbols", "_law_deep"] (spTree K (n + 1)) := by
  refine okG F sc__law_tree (fun vs H Q E h => ?_) (fun cdv A outer s H vs Q hr h => ?_)
  · obtain ⟨a, p, zs, d, rfl, _⟩ := h
    rfl
  · obtain ⟨a, p, zs, d, rfl, ha, hp, nd, sy, lz, d1, dn, n4, k⟩ := h
    refine ⟨_, (pss_cons (ps_set (i := 3) sc__law_tree.nd rfl (by first | exact .inl rfl | exact .inr rfl) (pe_c c__law_roll hr (by omega) rfl (pa_cons (pv 0) (pa_cons pe_int pa_nil))))
  (pss_cons (ps_if (PW.pt (pw_or (pt_cmpR op_lt (pv 2) pe_int (nomark _)) (pw_or1 (pt_cmpR op_lt (pv 3) pe_int (nomark _)))))
    (pss_cons (ps_set (i := 4) sc__law_tree.nd rfl (by first | exact .inl rfl | exact .inr rfl) (pe_ix ix_list (pe_lstS (pa_cons pe_str (pa_cons pe_str (pa_cons pe_str (pa_cons pe_str pa_nil))))) (pe_c c__law_roll hr (by omega) rfl (pa_cons (pv 0) (pa_cons pe_int pa_nil))) (fun _ _ => rfl)))
  (pss_one (ps_ret (pe_tupS (pa_cons (pv 4) (pa_cons (pe_c c__law_terms hr (by omega) rfl (pa_cons (pv 0) (pa_cons (pv 1) (pa_cons pe_int pa_nil)))) (pa_cons (pe_c c__law_terms hr (by omega) rfl (pa_cons (pv 0) (pa_cons (pv 1) (pa_cons pe_int pa_nil)))) pa_nil)))))))
    pss_nil)
  (pss_cons (ps_set (i := 5) sc__law_tree.nd rfl (by first | exact .inl rfl | exact .inr rfl) (pe_mid (pe_ifExp (pt_cmpR op_eq (pv 3) pe_int (nomark _)) pe_int (pe_c c__law_roll hr (by omega) rfl (pa_cons (pv 0) (pa_cons (pe_mid (pe_ifExp (pt_cmpR op_lt (pv 2) pe_int (nomark _)) pe_int pe_int)) pa_nil))))))
  (pss_cons (ps_setLc (i := 6) (own := [("_law_k", 7)]) (g := gName 7) (tt := tYes) rfl sc__law_tree.nd rfl rfl (sw_true rfl rfl rfl (by decide +kernel)) (pi_range1 rfl T.b_range (pa_cons (pv 5) pa_nil)) (blkOk_by (own := [("_law_k", 7)]) (N := n__law_tree) (sc := defScope s__law_tree) (by decide +kernel)) (fun _ _ _ _ _ => pg_name (i := 7) sc__law_tree.nd rfl (Or.inl rfl)) (fun _ _ _ _ _ => pts_nil) (fun _ _ _ _ _ => (pe_c c__law_tree hr (Nat.le_refl _) rfl (pa_cons (pv 0) (pa_cons (pv 1) (pa_cons (pe_op op_sub (pv 2) pe_int) pa_nil))))))
  (pss_one (ps_ret (pe_callTy call_tupleF (by rfl) T.b_tuple (by decide +kernel) (pa_cons (pe_op op_catS (pe_lstS (pa_cons (pe_ix ix_list (pe_lstS (pa_cons pe_str (pa_cons pe_str (pa_cons pe_str (pa_cons pe_str pa_nil))))) (pe_op op_sub (pv 3) pe_int) (fun _ _ => rfl)) pa_nil)) (pv 6)) pa_nil)))))))), ?_⟩
    refine ⟨_, rfl, a, 8, rfl, ha, (by decide), (by decide), fun wy w0 w8 => ?_⟩
    by_cases hw : (d : Int) < 2 ∨ wy < 4
    · refine ⟨_, rfl, _, _, rfl, rfl, _, rfl, ite2 (fun _ => iteT (B := True) ?_) fun h1 => ⟨_, rfl, _, _, rfl, rfl, _, rfl, ite2 (fun _ => iteT (B := True) ?_) fun h2 => absurd hw (fun q => q.elim (fun q => h1 (decide_eq_true q)) fun q => h2 (decide_eq_true q))⟩⟩
      all_goals
        refine ⟨(by show 4 ≤ sizeLine; decide), fun g H2 ng s2 hg => ⟨_, rfl, a, 4, rfl, s2 _ _ ha, (by decide), (by decide), fun r r0 r4 => ?_⟩⟩
        obtain ⟨k0, hk, hat⟩ : ∃ k0, k0 < 3 ∧ atI [V.str "<", .str "<=", .str "=", .str "<="] r = some (V.str (wordT k0)) := by
          have : r = 0 ∨ r = 1 ∨ r = 2 ∨ r = 3 := by omega
          rcases this with rfl | rfl | rfl | rfl
          · exact ⟨0, by decide, rfl⟩
          · exact ⟨1, by decide, rfl⟩
          · exact ⟨2, by decide, rfl⟩
          · exact ⟨1, by decide, rfl⟩
        refine ⟨g, _, r, _, rfl, rfl, SqL.of hg, hat, ?_⟩
        refine ⟨_, rfl, _, rfl, _, rfl, a, p, zs, 2, rfl, s2 _ _ ha, s2 _ _ hp, nd, sy, lz, fun q1 H3 ts s3 nq1 l1 nm1 rd1 m1 => ?_⟩
        have s23 := s2.trans s3
        refine ⟨_, rfl, _, rfl, a, p, zs, 2, rfl, s23 _ _ ha, s23 _ _ hp, nd, sy, lz, fun q2 H4 us s4 nq2 l2 nm2 rd2 m2 => ?_⟩
        refine ⟨(by show 3 ≤ sizeLine; decide), fun t H5 nt s5 ht => ?_⟩
        have s24 := s23.trans s4
        have s25 := s24.trans s5
        have nn : ∀ {b : Addr} {H0 : Hp}, Same H H0 → H0 b = none → H b = none := fun {b H0} s e => by
          cases q : H b with
          | none => rfl
          | some o => rw [s _ _ q] at e; cases e
        have n1 := nn s2 nq1
        have n2 := nn s23 nq2
        have n3 := nn s24 nt
        refine k t H5 (.two k0 ts us) s25 (.two (.inl (.inl (nl_of ht fun xs e => by rw [n3] at e; cases e))) (nl_terms s25 n1 (l1.same (s4.trans s5))) (nl_terms s25 n2 (l2.same s5)) hk) ⟨⟨nm1, rd1, m1⟩, ⟨nm2, rd2, m2⟩⟩ d1
    · refine ⟨_, rfl, _, _, rfl, rfl, _, rfl, ite2 (fun h1 => absurd (.inl (of_decide_eq_true h1)) hw) fun h1 => ⟨_, rfl, _, _, rfl, rfl, _, rfl, ite2 (fun h2 => absurd (.inr (of_decide_eq_true h2)) hw) fun h2 => iteF (A := True) ?_⟩⟩
      have hd2 : 2 ≤ d := by
        have : ¬ (d : Int) < 2 := fun q => hw (.inl q)
        omega
      have hw4 : 4 ≤ wy := by
        have : ¬ wy < 4 := fun q => hw (.inr q)
        omega
      refine ⟨fun v H2 => ∃ m : Nat, v = .int (m : Int) ∧ m ≤ 3 ∧ (wy = 4 → m = 1) ∧ H2 = H, ?_, ?_⟩
      · refine ⟨_, rfl, rfl, _, rfl, ite2 (fun h => ⟨1, rfl, by decide, fun _ => rfl, rfl⟩) fun h => ?_⟩
        have n4' : wy ≠ 4 := fun e => h (by rw [e]; exact decide_eq_true rfl)
        refine ⟨_, rfl, fun v H2 => (v = .int 4 ∨ v = .int 3) ∧ H2 = H, ⟨_, rfl, _, _, rfl, rfl, _, rfl, ite2 (fun _ => ⟨.inl rfl, rfl⟩) fun _ => ⟨.inr rfl, rfl⟩⟩, ?_⟩
        rintro v H2 ⟨hv, rfl⟩
        rcases hv with rfl | rfl
        · refine ⟨a, 4, rfl, ha, (by decide), (by decide), fun r r0 r4 => ⟨r.toNat, by rw [Int.toNat_of_nonneg r0], by omega, fun e => absurd e n4', rfl⟩⟩
        · refine ⟨a, 3, rfl, ha, (by decide), (by decide), fun r r0 r4 => ⟨r.toNat, by rw [Int.toNat_of_nonneg r0], by omega, fun e => absurd e n4', rfl⟩⟩
      · rintro v H2 ⟨m, rfl, m3, m1, rfl⟩
        obtain ⟨k0, hk, h0, hat⟩ : ∃ k0, k0 < 3 ∧ (k0 = 0 → wy = 4) ∧ atI [V.str "not", .str "all", .str "any", .str "all"] (wy - 4) = some (V.str (wordM k0)) := by
          have : wy = 4 ∨ wy = 5 ∨ wy = 6 ∨ wy = 7 := by omega
          rcases this with rfl | rfl | rfl | rfl
          · exact ⟨0, by decide, fun _ => rfl, rfl⟩
          · exact ⟨1, by decide, fun e => absurd e (by decide), rfl⟩
          · exact ⟨2, by decide, fun e => absurd e (by decide), rfl⟩
          · exact ⟨1, by decide, fun e => absurd e (by decide), rfl⟩
        refine ⟨_, rfl, (m : Int), rfl, by omega, by omega, fun D hD => lc_gen (walk_range (lo := 0) (n := m)) (R := fun i y H' => ∃ q c, y = .ref q ∧ TreeAt K (Nl (upd H2 D (.lst [])) H') q c ∧ c.good zs ∧ c.depth ≤ d - 1) (by omega) hD
          (fun i y H H' ⟨q, c, e, t, r⟩ k2 => ⟨q, c, e, t.same (nl_mono (fun b xs e => ⟨xs, e⟩) fun b o n e => k2 b o (fun q => n [] (by rw [q]; exact upd_same)) e), r⟩) (fun _ _ => True.intro) (fun i x H3 H3' ys Q' hi s3 hDy y kq => ?_) fun H3 ys s3 d3 ly ry => ?_⟩
        · obtain ⟨rfl, rfl⟩ := y
          refine ⟨rfl, _, rfl, _, rfl, _, rfl, _, _, rfl, rfl, a, p, zs, d - 1, ?_, s3 _ _ ha, s3 _ _ hp, nd, sy, lz, by omega, by omega, by omega, fun q H4 c s4 t g dp => kq (.ref q) H4 s4 ⟨q, c, rfl, t.same (nl_mono (fun b xs e => ?_) fun b o n e => e), g, dp⟩⟩
          · rw [show ((d - 1 : Nat) : Int) = (d : Int) - 1 by omega]
            rfl
          · by_cases hb : b = D
            · exact ⟨ys, by rw [hb]; exact hDy⟩
            · rw [upd_ne hb] at e
              exact ⟨xs, s3 _ _ e⟩
        · obtain ⟨as, l, rfl, tl, pl⟩ := trees_of (Pc := fun c => c.good zs ∧ c.depth ≤ d - 1) fun y my => by
            obtain ⟨i, hi⟩ := List.mem_iff_getElem?.mp my
            obtain ⟨q, c, e, t, r⟩ := ry i y hi
            exact ⟨q, c, e, t, r⟩
          have len := tl.len
          rw [List.length_map] at ly
          refine ⟨(by show 4 ≤ sizeLine; decide), fun g H4 ng s4 hg => ⟨_, rfl, _, _, rfl, rfl, g, _, _, _, rfl, rfl, SqL.of hg, hat, (by show 1 ≤ sizeLine; decide), fun w5 H5 nw s5 hw5 => ⟨_, rfl, w5, D, _, _, rfl, rfl, hw5, s5 _ _ (s4 _ _ d3), ?_, fun x H6 nx s6 hx => ⟨x, _, rfl, SqL.of hx, fun r H7 nr s7 tr => ?_⟩⟩⟩⟩
          · show 1 + (as.map V.ref).length ≤ sizeLine
            rw [List.length_map]
            exact Nat.le_trans (show 1 + as.length ≤ 4 by omega) (by decide)
          · have s37 := ((s4.trans s5).trans s6).trans s7
            have s27 := s3.trans s37
            have s26 := ((s3.trans s4).trans s5).trans s6
            have nr2 : H2 r = none := by
              cases q : H2 r with
              | none => rfl
              | some o => rw [s26 _ _ q] at nr; cases nr
            obtain ⟨o, od, ho⟩ := tr
            refine k r H7 (.more k0 l) s27 (.more (.inl (.inr ⟨o, nl_of ho fun xs e => by rw [nr2] at e; cases e⟩)) (tl.same (nl_mono (fun b xs e => ?_) fun b o n e => s37 _ _ e)) hk (by omega)) ⟨fun e => ?_, goodL_of fun c m => (pl c m).1⟩ ?_
            · by_cases hb : b = D
              · rw [hb, hD] at e
                cases e
              · exact ⟨xs, by rw [upd_ne hb]; exact e⟩
            · rw [← len, ly, m1 (h0 e)]
            · have := depthL_le (n := d - 1) fun c m => (pl c m).2
              show 1 + depthL l ≤ d
              omega
/-- what the head tells of a recursive def of the module -/
def RecF (K : PySem.W.Frag) (mg : Str → Option Value) (x : Str) (st : Stmt) (ps : List Str) : Prop := ∃ (f : Addr) (fd : FuncData), Fun K x x st f fd ∧ mg x = some (.ref f) ∧ PySem.W.keepIn K (.ref f) = true ∧ (∀ us : List Value, us.length = ps.length → bindArgs fd ⟨us, []⟩ = pure (ps.zip us)) ∧
    (∀ u : Value, ps.length = 1 → bindArgs fd ⟨[], ps.zip [u]⟩ = pure (ps.zip [u]))
omit c__law_roll c__law_terms in
theorem RecF.cal {x : Str} {st : Stmt} {ps : List Str} {k : Nat} {sp : Sp} (d : RecF K mg x st ps) (h : ∀ f fd, Fun K x x st f fd → FnG P w K mg base k f fd ps sp) : Cal P w K mg base k x ps sp := by
  obtain ⟨f, fd, F, r⟩ := d
  exact ⟨f, fd, h f fd F, r⟩
theorem tree_all (T : Ta mg) (D : RecF K mg "_law_tree" s__law_tree ["_law_heap_here", "_law_symbols", "_law_deep"]) : ∀ n, Cal P w K mg base (3 + n) "_law_tree" ["_law_heap_here", "_law_symbols", "_law_deep"] (spTree K n)
  | 0 => D.cal fun f fd F => ⟨fun vs H Q E ⟨a, p, zs, d, _, _, _, _, _, _, d1, d0, _⟩ => absurd d1 (by omega), fun A outer s H args us vs Q _ _ _ _ ⟨a, p, zs, d, _, _, _, _, _, _, d1, d0, _⟩ => absurd d1 (by omega)⟩
  | n + 1 => D.cal fun f fd F => ok_law_tree c__law_roll c__law_terms F T (tree_all T D n)
end
end Lw

/-! ## CdG -/
set_option maxHeartbeats 1000000
namespace Lw
open PySem PySem.Spec PyProof.Rows L2
open Fm (cf Asc Nm)
abbrev s__law_parts : Stmt := topS 62
abbrev n__law_parts : List Str := ["_law_tree_here", "_law_each"]
theorem sc__law_parts : FnScope n__law_parts ["_law_tree_here"] (defScope s__law_parts) := ⟨rfl, rfl, rfl, by decide +kernel, rfl, by decide +kernel, by decide +kernel⟩
def spLParts (K : PySem.W.Frag) (n : Nat) : Sp := fun vs H Q _ => ∃ (q : Addr) (c : Cd), vs = [.ref q] ∧ TreeAt K H q c ∧ c.depth ≤ n ∧ ∀ H', Same H H' → Q (.int (c.parts : Int)) H'
theorem in_words {k : Nat} (h : k < 3) : inV (V.str (wordT k)) [V.str "<", .str "<=", .str "="] = true := by
  match k, h with
  | 0, _ => decide +kernel
  | 1, _ => decide +kernel
  | 2, _ => decide +kernel
theorem out_words {k : Nat} (h : k < 3) : inV (V.str (wordM k)) [V.str "<", .str "<=", .str "="] = false := by
  match k, h with
  | 0, _ => decide +kernel
  | 1, _ => decide +kernel
  | 2, _ => decide +kernel
theorem at_zero {α : Type} {x : α} {xs : List α} : atI (x :: xs) 0 = some x := by
  unfold atI ixN
  simp
theorem tail_cut {x : V} {xs : List V} : cutV (x :: xs) (some 1) none = xs := by
  unfold cutV
  have e : HT.sIx (x :: xs).length 0 (some 1) = 1 := by
    show (if (1 : Int) < 0 then ((1 : Int) + ((xs.length + 1 : Nat) : Int)).toNat else min (1 : Int).toNat (xs.length + 1)) = 1
    rw [if_neg (by decide)]
    show min 1 (xs.length + 1) = 1
    omega
  rw [e]
  show (xs.take (xs.length + 1 - 1)) = xs
  rw [Nat.add_sub_cancel, List.take_length]
theorem tail_not {x : V} {xs : List V} : ¬ (HT.sIx (x :: xs).length 0 (some 1) = 0 ∧ HT.sIx (x :: xs).length (x :: xs).length none = (x :: xs).length) := by
  rintro ⟨h, _⟩
  have e : HT.sIx (x :: xs).length 0 (some 1) = 1 := by
    show (if (1 : Int) < 0 then ((1 : Int) + ((xs.length + 1 : Nat) : Int)).toNat else min (1 : Int).toNat (xs.length + 1)) = 1
    rw [if_neg (by decide)]
    show min 1 (xs.length + 1) = 1
    omega
  rw [e] at h
  cases h
section
variable {P : Program} {w : World} {K : PySem.W.Frag} {mg : Str → Option Value} {base : Heap} {Z : Cz}
theorem ok_law_parts {n : Nat} {f : Addr} {fd : FuncData} (F : Fun K "_law_parts" "_law_parts" s__law_parts f fd) (T : Ta mg) (c__law_parts : Cal P w K mg base (1 + n) "_law_parts" ["_law_tree_here"] (spLParts K n)) : FnG P w K mg base (1 + n + 1) f fd ["_law_tree_here"] (spLParts K (n + 1)) := by
  refine okG F sc__law_parts (fun vs H Q E h => ?_) (fun cdv A outer s H vs Q hr h => ?_)
  · obtain ⟨q, c, rfl, _⟩ := h
    rfl
  · obtain ⟨q, c, rfl, ht, hc, k⟩ := h
    refine ⟨_, (pss_cons (ps_if (pt_cmpR (r := rIn K false) op_in_seq (pe_ix ix_tup (pv 0) pe_int (fun _ _ => rfl)) (pe_lstS (pa_cons pe_str (pa_cons pe_str (pa_cons pe_str pa_nil)))) rfl)
    (pss_one (ps_ret pe_int))
    pss_nil)
  (pss_one (ps_ret (pe_op op_add pe_int (pe_callB (cr_sum (by rfl)) (by rfl) T.b_sum (by decide +kernel) (pa_cons (pe_lc (own := [("_law_each", 1)]) (g := gName 1) (tt := tYes) rfl sc__law_parts.nd (pi_tup (pe_slice sl_tup (pv 0) (po_some pe_int) po_none)) (blkOk_by (own := [("_law_each", 1)]) (N := n__law_parts) (sc := defScope s__law_parts) (by decide +kernel)) (fun _ _ _ _ _ => pg_name (i := 1) sc__law_parts.nd rfl (Or.inl rfl)) (fun _ _ _ _ _ => pts_nil) (fun _ _ _ _ _ => (pe_c c__law_parts hr (Nat.le_refl _) rfl (pa_cons (pv 1) pa_nil)))) pa_nil)))))), ?_⟩
    cases ht with
    | @two _ p1 p2 k0 ts us ha hp hq hk =>
      refine ⟨_, rfl, q, _, 0, _, rfl, rfl, ha, rfl, (by show 3 ≤ sizeLine; decide), fun g H2 ng s2 hg => ⟨g, _, rfl, .inl (SqL.of hg), rfl, rfl, ?_⟩⟩
      rw [in_words hk]
      exact ⟨_, rfl, iteT (k H2 s2)⟩
    | @more _ k0 as l ha hl hk h3 =>
      have lp := hl.len
      refine ⟨_, rfl, q, _, 0, .str (wordM k0), rfl, rfl, ha, at_zero, (by show 3 ≤ sizeLine; decide), fun g H2 ng s2 hg => ⟨g, _, rfl, .inl (SqL.of hg), rfl, rfl, ?_⟩⟩
      rw [out_words hk]
      refine ⟨_, rfl, iteF ?_⟩
      refine ⟨_, rfl, 1, rfl, q, _, rfl, sqT_same s2 ha, tail_not, fun t nt => ?_⟩
      rw [tail_cut]
      have s3 := s2.trans (Same.new nt (o := .tup (as.map V.ref)))
      have t3 : upd H2 t (.tup (as.map V.ref)) t = some (.tup (as.map V.ref)) := upd_same
      generalize upd H2 t (.tup (as.map V.ref)) = H3 at s3 t3 ⊢
      refine ⟨t, rfl, ⟨_, SqT.of t3⟩, fun D hD => lc_fn (walk_tup (K := K) (a := t) (xs := as.map V.ref)) (fun i => .int ((l.map fun c => (c.parts : Int)).getD i 0)) (by rw [List.length_map]; omega) hD (fun H' s' => SqT.of (s' _ _ t3)) (fun i v H4 H5 Q' hi s4 y kq => ?_) fun H4 s4 d4 => ?_⟩
      · obtain ⟨rfl, hv⟩ := y
        obtain ⟨a, c, rfl, hc2, tc⟩ := hl.get hv
        have dm := depth_mem (List.mem_of_getElem? hc2)
        have hc : 1 + depthL l ≤ n + 1 := hc
        refine ⟨rfl, _, rfl, a, c, rfl, (tc.same s3).same s4, by omega, fun H6 s6 => ?_⟩
        have := kq H6 s6
        rwa [show (l.map fun c => (c.parts : Int)).getD i 0 = (c.parts : Int) by rw [List.getD_eq_getElem?_getD, List.getElem?_map, hc2]; rfl] at this
      · have e1 : (as.map V.ref).length = (l.map fun c => (c.parts : Int)).length := by rw [List.length_map, List.length_map, lp]
        rw [e1, range_getD (l := l.map fun c => (c.parts : Int)) (g := V.int) 0 (fun i _ => rfl)] at d4
        refine ⟨D, _, rfl, SqL.of d4, _, _, rfl, rfl, ?_⟩
        rw [partsL_sum]
        exact k H4 (s3.trans s4)
theorem parts_all (T : Ta mg) (D : RecF K mg "_law_parts" s__law_parts ["_law_tree_here"]) : ∀ n, Cal P w K mg base (1 + n) "_law_parts" ["_law_tree_here"] (spLParts K n)
  | 0 => D.cal fun f fd F => ⟨fun vs H Q E ⟨q, c, _, _, d, _⟩ => absurd (depth_pos c) (by omega), fun A outer s H args us vs Q _ _ _ _ ⟨q, c, _, _, d, _⟩ => absurd (depth_pos c) (by omega)⟩
  | n + 1 => D.cal fun f fd F => ok_law_parts F T (parts_all T D n)
end
end Lw

/-! ## CdH -/
set_option maxHeartbeats 1000000
namespace Lw
open PySem PySem.Spec PyProof.Rows L2
open Fm (cf Asc Nm)
abbrev s__law_sum : Stmt := topS 60
abbrev n__law_sum : List Str := ["_law_terms_here", "_law_numbers", "_law_symbol", "_law_factor"]
theorem sc__law_sum : FnScope n__law_sum ["_law_terms_here", "_law_numbers"] (defScope s__law_sum) := ⟨rfl, rfl, rfl, by decide +kernel, rfl, by decide +kernel, by decide +kernel⟩
abbrev s__law_true : Stmt := topS 63
abbrev n__law_true : List Str := ["_law_tree_here", "_law_numbers", "_law_one", "_law_two", "_law_held", "_law_each"]
theorem sc__law_true : FnScope n__law_true ["_law_tree_here", "_law_numbers"] (defScope s__law_true) := ⟨rfl, rfl, rfl, by decide +kernel, rfl, by decide +kernel, by decide +kernel⟩
def spLSum : Sp := fun vs H Q _ => ∃ (p d : Addr) (ts us : Tms), vs = [.ref p, .ref d] ∧ LTerms H p ts ∧ H d = some (.dK (us.map entK)) ∧ Bd 60 200 ts ∧ (∀ s, (cf us s).natAbs < 2 ^ 110) ∧ (∀ q ∈ ts, q.1 ∈ us.map (·.1)) ∧ ∀ H', Same H H' → Q (.int (sumE ts us)) H'
/-- what the law may ask of a tree -/
def spLTrue (K : PySem.W.Frag) (n : Nat) : Sp := fun vs H Q _ => ∃ (q d : Addr) (c : Cd) (us : Tms) (W : List Str), vs = [.ref q, .ref d] ∧ TreeAt K H q c ∧ c.good W ∧ W.length ≤ 20 ∧ c.depth ≤ n ∧ H d = some (.dK (us.map entK)) ∧ (∀ s, (cf us s).natAbs < 2 ^ 110) ∧ (∀ z ∈ c.syms, z ∈ us.map (·.1)) ∧ ∀ H', Same H H' → Q (.bl (c.holds us)) H'
theorem GTm.bd {W : List Str} {ts : Tms} {k : Nat} (h : GTm W ts) (hk : W.length ≤ k) : Bd k 200 ts := by
  refine ⟨Nat.le_trans ?_ hk, fun q m => Nat.lt_of_lt_of_le (h.rd q m).2.2.le (by decide +kernel)⟩
  have nd : (ts.map (·.1)).Nodup := asc_nodup h.nm.asc
  have := nodup_le' nd fun z hz => by
    obtain ⟨q, mq, rfl⟩ := List.mem_map.mp hz
    exact h.mem q mq
  rwa [List.length_map] at this
theorem in_false : ∀ bs : List Bool, inV (.bl false) (bs.map V.bl) = !(bs.all id)
  | [] => rfl
  | b :: r => by
    have ih := in_false r
    unfold inV at ih ⊢
    cases b <;> simp_all [eqV]
theorem in_true : ∀ bs : List Bool, inV (.bl true) (bs.map V.bl) = bs.any id
  | [] => rfl
  | b :: r => by
    have ih := in_true r
    unfold inV at ih ⊢
    cases b <;> simp_all [eqV]
theorem flat_bls : ∀ bs : List Bool, (bs.map V.bl).all flatV = true
  | [] => rfl
  | b :: r => by
    show (flatV (.bl b) && (r.map V.bl).all flatV) = true
    rw [flat_bls r]
    rfl
theorem word_index {k : Nat} (h : k < 3) : [V.str "<", .str "<=", .str "="][k]? = some (V.str (wordT k)) ∧ eqV (V.str (wordT k)) (V.str (wordT k)) = true ∧ ∀ (m : Nat) (z : V), m < k → [V.str "<", .str "<=", .str "="][m]? = some z → eqV z (V.str (wordT k)) = false := by
  match k, h with
  | 0, _ => exact ⟨rfl, by decide +kernel, fun m z h => absurd h (Nat.not_lt_zero m)⟩
  | 1, _ =>
    refine ⟨rfl, by decide +kernel, fun m z h e => ?_⟩
    match m, h with
    | 0, _ =>
      cases e
      decide +kernel
  | 2, _ =>
    refine ⟨rfl, by decide +kernel, fun m z h e => ?_⟩
    match m, h with
    | 0, _ =>
      cases e
      decide +kernel
    | 1, _ =>
      cases e
      decide +kernel
theorem cmp_pick {k : Nat} {a b : Int} (h : k < 3) : atI [V.bl (decide (a < b)), .bl (decide (a ≤ b)), .bl (decide (V.int a = V.int b))] (k : Int) = some (.bl (cmpK k a b)) := by
  match k, h with
  | 0, _ => rfl
  | 1, _ => rfl
  | 2, _ =>
    have e : decide (V.int a = V.int b) = cmpK 2 a b := by
      show _ = decide (_ = _)
      rw [Bool.eq_iff_iff, decide_eq_true_iff, decide_eq_true_iff]
      exact ⟨V.int.inj, congrArg V.int⟩
    rw [e]
    rfl
section
variable {P : Program} {w : World} {K : PySem.W.Frag} {mg : Str → Option Value} {base : Heap}
theorem ok_law_sum {f : Addr} {fd : FuncData} (F : Fun K "_law_sum" "_law_sum" s__law_sum f fd) (T : Ta mg) : FnG P w K mg base 1 f fd ["_law_terms_here", "_law_numbers"] spLSum := by
  refine okG F sc__law_sum (fun vs H Q E h => ?_) (fun cdv A outer s H vs Q hr h => ?_)
  · obtain ⟨a, d, ts, us, rfl, _⟩ := h
    rfl
  · obtain ⟨a, d, ts, us, rfl, ⟨ps, ht, hp⟩, hd, ⟨l1, b1⟩, cl, hm, k⟩ := h
    refine ⟨_, (pss_one (ps_ret (pe_callB (cr_sum (by rfl)) (by rfl) T.b_sum (by decide +kernel) (pa_cons (pe_lc (own := [("_law_symbol", 2), ("_law_factor", 3)]) (g := gTup K 2 (gCons (gName 2) (gCons (gName 3) gNil))) (tt := tYes) rfl sc__law_sum.nd (pi_list (pv 0)) (blkOk_by (own := [("_law_symbol", 2), ("_law_factor", 3)]) (N := n__law_sum) (sc := defScope s__law_sum) (by decide +kernel)) (fun _ _ _ _ _ => pg_tup rfl (pgs_cons (pg_name (i := 2) sc__law_sum.nd rfl (Or.inl rfl) (Or.inr rfl)) (pgs_cons (pg_name (i := 3) sc__law_sum.nd rfl (Or.inl rfl) (Or.inr rfl)) pgs_nil))) (fun _ _ _ _ _ => pts_nil) (fun _ _ _ _ _ => (pe_op op_mulW (pv 3) (pe_dget (hu_of hr.rm) (pv 1) (pv 2) (fun _ _ => rfl))))) pa_nil)))), ?_⟩
    have hl := hp.len
    refine ⟨_, rfl, a, rfl, ⟨_, SqL.of ht⟩, fun D hD => lc_fn walk_list (fun i => .int ((ts.map fun q => q.2 * cf us q.1).getD i 0)) (by rw [List.length_map]; omega) hD (fun H' s' => SqL.of (s' _ _ ht)) (fun i x H2 H3 Q' hi s2 y kq => ?_) fun H2 s2 d2 => ?_⟩
    · obtain ⟨rfl, hx⟩ := y
      obtain ⟨p, q, rfl, hq, hpq⟩ := hp.get hx
      obtain ⟨z, g⟩ := q
      have mq := List.mem_of_getElem? hq
      refine ⟨p, _, rfl, SqT.of (s2 _ _ hpq), rfl, _, _, rfl, _, _, rfl, rfl, rfl, _, rfl, _, rfl, _, rfl, d, _, rfl, .inl ⟨_, Sum.inr z, .inl (s2 _ _ hd), rfl, (val_cf (hm _ mq)).symm⟩, _, _, rfl, rfl, wide_mul (b1 _ mq) (cl z) (by decide) (by decide) (by decide), ?_⟩
      have := kq _ (Same.refl _)
      rw [show (ts.map fun q => q.2 * cf us q.1).getD i 0 = g * cf us z by rw [List.getD_eq_getElem?_getD, List.getElem?_map, hq]; rfl] at this
      exact this
    · have e1 : (List.range (ps.map V.ref).length).map (fun i => V.int ((ts.map fun q => q.2 * cf us q.1).getD i 0)) = (ts.map fun q => q.2 * cf us q.1).map V.int := by
        apply List.ext_getElem?
        intro i
        rw [List.getElem?_map, List.getElem?_map, List.length_map, hl]
        by_cases hi : i < ts.length
        · rw [List.getElem?_range hi, List.getElem?_eq_getElem (by rw [List.length_map]; exact hi)]
          show some (V.int ((ts.map fun q => q.2 * cf us q.1).getD i 0)) = some _
          rw [List.getD_eq_getElem?_getD, List.getElem?_eq_getElem (by rw [List.length_map]; exact hi)]
          rfl
        · rw [List.getElem?_eq_none (by simp; omega), List.getElem?_eq_none (by simp; omega)]
          rfl
      rw [e1] at d2
      exact ⟨D, _, rfl, SqL.of d2, k H2 s2⟩
theorem ok_law_true {n : Nat} {f : Addr} {fd : FuncData} (F : Fun K "_law_true" "_law_true" s__law_true f fd) (T : Ta mg) (c__law_sum : Cal P w K mg base 1 "_law_sum" ["_law_terms_here", "_law_numbers"] spLSum) (c__law_true : Cal P w K mg base (1 + n) "_law_true" ["_law_tree_here", "_law_numbers"] (spLTrue K n)) : FnG P w K mg base (1 + n + 1) f fd ["_law_tree_here", "_law_numbers"] (spLTrue K (n + 1)) := by
  refine okG F sc__law_true (fun vs H Q E h => ?_) (fun cdv A outer s H vs Q hr h => ?_)
  · obtain ⟨q, d, c, us, W, rfl, _⟩ := h
    rfl
  · obtain ⟨q, d, c, us, W, rfl, ht, hg, hW, hc, hd, cl, hm, k⟩ := h
    refine ⟨_, (pss_cons (ps_if (pt_cmpR (r := rIn K false) op_in_seq (pe_ix ix_tup (pv 0) pe_int (fun _ _ => rfl)) (pe_lstS (pa_cons pe_str (pa_cons pe_str (pa_cons pe_str pa_nil)))) rfl)
    (pss_cons (ps_par (i := 2) (j := 3) (by rfl) sc__law_true.nd rfl rfl (by decide) rfl rfl (pa_cons (pe_c c__law_sum hr (by omega) rfl (pa_cons (pe_ix ix_tup (pv 0) pe_int (fun _ _ => rfl)) (pa_cons (pv 1) pa_nil))) (pa_cons (pe_c c__law_sum hr (by omega) rfl (pa_cons (pe_ix ix_tup (pv 0) pe_int (fun _ _ => rfl)) (pa_cons (pv 1) pa_nil))) pa_nil)) (by rfl))
  (pss_one (ps_ret (pe_ix ix_list (pe_lstS (pa_cons (pe_cmpR op_lt (pv 2) (pv 3) (nomark _)) (pa_cons (pe_cmpR op_le (pv 2) (pv 3) (nomark _)) (pa_cons (pe_cmpR op_eq (pv 2) (pv 3) (nomark _)) pa_nil)))) (pe_bm PySem.F.plainAttrs_list PySem.F.slot_list_index PySem.F.type_list_index mt_index (pe_lstS (pa_cons pe_str (pa_cons pe_str (pa_cons pe_str pa_nil)))) (pa_cons (pe_ix ix_tup (pv 0) pe_int (fun _ _ => rfl)) pa_nil)) (fun _ _ => rfl)))))
    pss_nil)
  (pss_cons (ps_setLc (i := 4) (own := [("_law_each", 5)]) (g := gName 5) (tt := tYes) rfl sc__law_true.nd rfl rfl (sw_true rfl rfl rfl (by decide +kernel)) (pi_tup (pe_slice sl_tup (pv 0) (po_some pe_int) po_none)) (blkOk_by (own := [("_law_each", 5)]) (N := n__law_true) (sc := defScope s__law_true) (by decide +kernel)) (fun _ _ _ _ _ => pg_name (i := 5) sc__law_true.nd rfl (Or.inl rfl)) (fun _ _ _ _ _ => pts_nil) (fun _ _ _ _ _ => (pe_c c__law_true hr (Nat.le_refl _) rfl (pa_cons (pv 5) (pa_cons (pv 1) pa_nil)))))
  (pss_cons (ps_if (pt_cmpR op_eq (pe_ix ix_tup (pv 0) pe_int (fun _ _ => rfl)) pe_str (nomark _))
    (pss_one (ps_ret (pe_not (pe_ix ix_list (pv 4) pe_int (fun _ _ => rfl)))))
    pss_nil)
  (pss_one (ps_ret (pe_mid (pe_ifExp (pt_cmpR op_eq (pe_ix ix_tup (pv 0) pe_int (fun _ _ => rfl)) pe_str (nomark _)) (pe_cmpR (r := rIn K true) op_notIn_seq pe_bl (pv 4) rfl) (pe_cmpR (r := rIn K false) op_in_seq pe_bl (pv 4) rfl)))))))), ?_⟩
    cases ht with
    | @two _ p1 p2 k0 ts vs ha hp hq hk =>
      refine ⟨_, rfl, q, _, 0, .str (wordT k0), rfl, rfl, ha, at_zero, (by show 3 ≤ sizeLine; decide), fun g H2 ng s2 hg2 => ⟨g, _, rfl, .inl (SqL.of hg2), rfl, rfl, ?_⟩⟩
      rw [in_words hk]
      refine ⟨_, rfl, iteT ?_⟩
      have m1 : ∀ q ∈ ts, q.1 ∈ us.map (·.1) := fun q m => hm _ (List.mem_append_left _ (List.mem_map_of_mem m))
      have m2 : ∀ q ∈ vs, q.1 ∈ us.map (·.1) := fun q m => hm _ (List.mem_append_right _ (List.mem_map_of_mem m))
      refine ⟨_, rfl, q, _, 1, _, rfl, rfl, sqT_same s2 ha, rfl, _, rfl, p1, d, ts, us, rfl, hp.same s2, s2 _ _ hd, hg.1.bd (by omega), cl, m1, fun H3 s3 => ?_⟩
      have s23 := s2.trans s3
      refine ⟨_, rfl, q, _, 2, _, rfl, rfl, sqT_same s23 ha, rfl, _, rfl, p2, d, vs, us, rfl, hq.same s23, s23 _ _ hd, hg.2.bd (by omega), cl, m2, fun H4 s4 => ⟨_, _, rfl, ?_⟩⟩
      have s24 := s23.trans s4
      refine ⟨_, rfl, _, rfl, _, _, rfl, rfl, _, rfl, _, rfl, _, _, rfl, rfl, _, rfl, _, rfl, rfl, (by show 3 ≤ sizeLine; decide), fun L H5 nL s5 hL => ?_⟩
      refine ⟨(by show 3 ≤ sizeLine; decide), fun g2 H6 ng2 s6 hg6 => ⟨.inl ⟨rfl, _, SqL.of hg6⟩, ?_⟩⟩
      have s26 := (s24.trans s5).trans s6
      obtain ⟨w1, w2, w3⟩ := word_index hk
      refine ⟨_, rfl, q, _, 0, .str (wordT k0), rfl, rfl, sqT_same s26 ha, at_zero, g2, _, .str (wordT k0), k0, _, rfl, rfl, SqL.of hg6, rfl, rfl, w1, w2, w3, ?_⟩
      exact ⟨L, _, _, _, rfl, rfl, SqL.of (s6 _ _ hL), cmp_pick hk, k H6 s26⟩
    | @more _ k0 as l ha hl hk h3 =>
      refine ⟨_, rfl, q, _, 0, .str (wordM k0), rfl, rfl, ha, at_zero, (by show 3 ≤ sizeLine; decide), fun g H2 ng s2 hg2 => ⟨g, _, rfl, .inl (SqL.of hg2), rfl, rfl, ?_⟩⟩
      rw [out_words hk]
      refine ⟨_, rfl, iteF ?_⟩
      have lp := hl.len
      refine ⟨_, rfl, 1, rfl, q, _, rfl, sqT_same s2 ha, tail_not, fun t nt => ?_⟩
      rw [tail_cut]
      have s3 := s2.trans (Same.new nt (o := .tup (as.map V.ref)))
      have t3 : upd H2 t (.tup (as.map V.ref)) t = some (.tup (as.map V.ref)) := upd_same
      generalize upd H2 t (.tup (as.map V.ref)) = H3 at s3 t3 ⊢
      refine ⟨t, rfl, ⟨_, SqT.of t3⟩, fun D hD => lc_fn (walk_tup (K := K) (a := t) (xs := as.map V.ref)) (fun i => .bl ((l.map (·.holds us)).getD i false)) (by rw [List.length_map]; omega) hD (fun H' s' => SqT.of (s' _ _ t3)) (fun i v H4 H5 Q' hi s4 y kq => ?_) fun H4 s4 d4 => ?_⟩
      · obtain ⟨rfl, hv⟩ := y
        obtain ⟨a, c, rfl, hc2, tc⟩ := hl.get hv
        have mc := List.mem_of_getElem? hc2
        have dm := depth_mem mc
        have hc : 1 + depthL l ≤ n + 1 := hc
        have s34 := s3.trans s4
        refine ⟨rfl, _, rfl, _, rfl, a, d, c, us, W, rfl, tc.same s34, goodL_mem hg.2 mc, hW, by omega, s34 _ _ hd, cl, fun z m => hm z (mem_symsL.mpr ⟨i, c, hc2, m⟩), fun H6 s6 => ?_⟩
        have := kq H6 s6
        rwa [show (l.map (·.holds us)).getD i false = c.holds us by rw [List.getD_eq_getElem?_getD, List.getElem?_map, hc2]; rfl] at this
      · have e1 : (as.map V.ref).length = (l.map (·.holds us)).length := by rw [List.length_map, List.length_map, lp]
        rw [e1, range_getD (l := l.map (·.holds us)) (g := V.bl) false (fun i _ => rfl)] at d4
        have s24 := s3.trans s4
        have ha4 := sqT_same s24 ha
        have hk3 : k0 = 0 ∨ k0 = 1 ∨ k0 = 2 := by omega
        refine ⟨_, rfl, q, _, 0, .str (wordM k0), rfl, rfl, ha4, at_zero, rfl, _, rfl, ?_⟩
        rcases hk3 with rfl | rfl | rfl
        · refine ite2 (fun _ => ?_) fun h => absurd (decide_eq_true rfl) h
          obtain ⟨c', rfl⟩ := List.length_eq_one_iff.mp (hg.1 rfl)
          have e : (Cd.more 0 [c']).holds us = !(c'.holds us) := by
            show (!(c'.holds us && true)) = _
            rw [Bool.and_true]
          refine ⟨_, rfl, D, _, 0, .bl (c'.holds us), rfl, rfl, SqL.of d4, rfl, _, rfl, ?_⟩
          rw [← e]
          exact k H4 s24
        · refine ite2 (fun h => absurd (V.str.inj (of_decide_eq_true h)) (by decide)) fun _ => ?_
          refine ⟨fun v H' => v = .bl ((Cd.more 1 l).holds us) ∧ H' = H4, ⟨_, rfl, q, _, 0, .str (wordM 1), rfl, rfl, ha4, at_zero, rfl, _, rfl, ite2 (fun _ => ⟨_, rfl, D, _, rfl, .inl (SqL.of d4), rfl, flat_bls _, ?_, rfl⟩) fun h => absurd (decide_eq_true rfl) h⟩, ?_⟩
          · show V.bl (!(inV (.bl false) _)) = .bl (allL us l)
            rw [in_false, Bool.not_not, allL_map]
          · rintro v H' ⟨rfl, rfl⟩
            exact k _ s24
        · refine ite2 (fun h => absurd (V.str.inj (of_decide_eq_true h)) (by decide)) fun _ => ?_
          refine ⟨fun v H' => v = .bl ((Cd.more 2 l).holds us) ∧ H' = H4, ⟨_, rfl, q, _, 0, .str (wordM 2), rfl, rfl, ha4, at_zero, rfl, _, rfl, ite2 (fun h => absurd (V.str.inj (of_decide_eq_true h)) (by decide)) fun _ => ⟨_, rfl, D, _, rfl, .inl (SqL.of d4), rfl, flat_bls _, ?_, rfl⟩⟩, ?_⟩
          · show V.bl (inV (.bl true) _) = .bl (anyL us l)
            rw [in_true, anyL_map]
          · rintro v H' ⟨rfl, rfl⟩
            exact k _ s24
theorem true_all (T : Ta mg) (c__law_sum : Cal P w K mg base 1 "_law_sum" ["_law_terms_here", "_law_numbers"] spLSum) (D : RecF K mg "_law_true" s__law_true ["_law_tree_here", "_law_numbers"]) : ∀ n, Cal P w K mg base (1 + n) "_law_true" ["_law_tree_here", "_law_numbers"] (spLTrue K n)
  | 0 => D.cal fun f fd F => ⟨fun vs H Q E ⟨q, d, c, us, W, _, _, _, _, dd, _⟩ => absurd (depth_pos c) (by omega), fun A outer s H args us vs Q _ _ _ _ ⟨q, d, c, _, W, _, _, _, _, dd, _⟩ => absurd (depth_pos c) (by omega)⟩
  | n + 1 => D.cal fun f fd F => ok_law_true F T c__law_sum (true_all T c__law_sum D n)
end
end Lw

/-! ## CdI -/
set_option maxHeartbeats 1000000
namespace Lw
open PySem PySem.Spec PyProof.Rows L2
open Fm (cf Asc Nm)
abbrev s__law_made : Stmt := topS 64
abbrev n__law_made : List Str := ["_law_tree_here", "_law_one", "_law_two", "_law_inner", "_law_each", "_law_three"]
theorem sc__law_made : FnScope n__law_made ["_law_tree_here"] (defScope s__law_made) := ⟨rfl, rfl, rfl, by decide +kernel, rfl, by decide +kernel, by decide +kernel⟩
/-- H' has all of H that is no list -/
def NoL (H H' : Hp) : Prop := ∀ b o, (∀ xs, o ≠ .lst xs) → H b = some o → H' b = some o
theorem NoL.form {C : Addr} {H H' : Hp} {f : Addr} {ts : Tms} (s : NoL H H') (h : FormAt C H f ts) : FormAt C H' f ts := by
  obtain ⟨dx', t, u, ha, ⟨ps, ⟨o, hd, hf⟩, hp⟩, ⟨o', hd', hf'⟩⟩ := h
  refine ⟨dx', t, u, s _ _ (fun xs q => nomatch q) ha, ⟨ps, ⟨o, hd, s _ _ (fun xs q => nomatch q) hf⟩, ?_⟩, ⟨o', hd', s _ _ (fun xs q => nomatch q) hf'⟩⟩
  exact hp.tups fun b z e => s _ _ (fun xs q => nomatch q) e
theorem NoL.sq {K : PySem.W.Frag} {H H' : Hp} {b : Addr} {xs : List V} (s : NoL H H') (h : SqT K H b xs) : SqT K H' b xs :=
  h.imp (fun h => h.imp (fun h => s _ _ (fun xs q => nomatch q) h) fun ⟨o, h⟩ => ⟨o, s _ _ (fun xs q => nomatch q) h⟩) id
theorem NoL.tf {H H' : Hp} {b : Addr} {xs : List V} (s : NoL H H') (h : TupF H b xs) : TupF H' b xs := by
  obtain ⟨o, d, h⟩ := h
  exact ⟨o, d, s _ _ (fun xs q => nomatch q) h⟩
theorem NoL.ins {H H' : Hp} {b C dx : Addr} {fs : List (Str × V)} (s : NoL H H') (h : H b = some (.ins C dx fs)) : H' b = some (.ins C dx fs) := s _ _ (fun xs q => nomatch q) h
mutual
theorem CondAt.nol {K : PySem.W.Frag} {Z : Cz} {H H' : Hp} (s : NoL H H') : ∀ {a : Addr} {c : Cd}, CondAt K Z H a c → CondAt K Z H' a c
  | _, _, .two ha hp hq hr hz nd so hf hg bf bg hk => .two (s.ins ha) (s.sq hp) (s.sq hq) (s.tf hr) hz nd so (s.form hf) (s.form hg) bf bg hk
  | _, _, .more ha hp hq hr hz nd so hl hk h1 => .more (s.ins ha) (s.sq hp) (s.sq hq) (s.tf hr) hz nd so (CondsAt.nol s hl) hk h1
theorem CondsAt.nol {K : PySem.W.Frag} {Z : Cz} {H H' : Hp} (s : NoL H H') : ∀ {as : List Addr} {l : List Cd}, CondsAt K Z H as l → CondsAt K Z H' as l
  | _, _, .nil => .nil
  | _, _, .cons h r => .cons (CondAt.nol s h) (CondsAt.nol s r)
end
section
variable {K : PySem.W.Frag} {Z : Cz} {H1 : Hp} {Q : VK}
theorem off_new {x : Addr} {H1 H0 H' : Hp} (hx : H1 x = none) (s : Same H1 H0) (o : Off x H0 H') : Same H1 H' := fun b u e => o b u (ne_of_none e hx) (s b u e)
theorem same_new2 {x dx C : Addr} (hx : H1 x = none) (hdx : H1 dx = none) : Same H1 (upd (upd H1 dx (.own x)) x (.ins C dx [])) := same_upd hx (same_upd hdx (Same.refl _))
theorem use_two {f g : Addr} {k : Nat} {ts us : Tms} (hf : FormAt Z.form H1 f ts) (hg : FormAt Z.form H1 g us) (bf : Bd 30 200 ts) (bg : Bd 30 200 us) (fin : ∀ a H', Same H1 H' → CondAt K Z H' a (.two k ts us) → Q (.ref a) H') :
    ∀ x dx, H1 x = Option.none → H1 dx = Option.none → dx ≠ x → spTwo K Z k [.ref x, .ref f, .ref g] (upd (upd H1 dx (.own x)) x (.ins (Z.two k) dx [])) (fun v H2 => v = .non ∧ Q (.ref x) H2) E0 := fun x dx hx hdx _ =>
  have s := same_new2 (C := Z.two k) hx hdx
  ⟨x, dx, f, g, ts, us, rfl, upd_same, hf.same s, hg.same s, bf, bg, fun H' o hc => ⟨rfl, fin x H' (off_new hx s o) hc⟩⟩
theorem use_not {a : Addr} {c : Cd} {Wd : List Str} (ha : CondAt K Z H1 a c) (h12 : 1 + c.parts ≤ 12) (h4 : 1 + c.depth ≤ 4) (hW : Wd.length ≤ 60) (hs : ∀ z ∈ c.syms, z ∈ Wd) (fin : ∀ a H', Same H1 H' → CondAt K Z H' a (.more 0 [c]) → Q (.ref a) H') :
    ∀ x dx, H1 x = Option.none → H1 dx = Option.none → dx ≠ x → spNot K Z [.ref x, .ref a] (upd (upd H1 dx (.own x)) x (.ins (Z.more 0) dx [])) (fun v H2 => v = .non ∧ Q (.ref x) H2) E0 := fun x dx hx hdx _ =>
  have s := same_new2 (C := Z.more 0) hx hdx
  ⟨x, dx, a, c, Wd, rfl, upd_same, ha.same s, h12, h4, hW, hs, fun H' o hc => ⟨rfl, fin x H' (off_new hx s o) hc⟩⟩
/-- what a class of many promises of its __init__ -/
def spMk (K : PySem.W.Frag) (Z : Cz) (k : Nat) : Sp := fun vs H Q E => ∃ ws rest, vs = ws ++ rest ∧ ws.length = ["self"].length ∧ rest.length ≤ sizeLine ∧ ∀ p, H p = Option.none → spMany K Z k (ws ++ [V.ref p]) (upd H p (.tup rest)) Q E
theorem use_many {as : List Addr} {l : List Cd} {k : Nat} {vs : List V} {Wd : List Str} (ev : vs = as.map V.ref) (hl : CondsAt K Z H1 as l) (h12 : 1 + partsL l ≤ 12) (h4 : 1 + depthL l ≤ 4) (hW : Wd.length ≤ 60) (hs : ∀ z ∈ symsL l, z ∈ Wd) (fin : ∀ a H', Same H1 H' → CondAt K Z H' a (.more k l) → Q (.ref a) H') :
    ∀ x dx, H1 x = Option.none → H1 dx = Option.none → dx ≠ x → spMk K Z k (V.ref x :: vs) (upd (upd H1 dx (.own x)) x (.ins (Z.more k) dx [])) (fun v H2 => v = .non ∧ Q (.ref x) H2) E0 := fun x dx hx hdx _ => by
  subst ev
  have s := same_new2 (C := Z.more k) hx hdx
  have len := hl.len
  have pl := parts_len l
  refine ⟨[.ref x], as.map V.ref, rfl, rfl, by rw [List.length_map]; exact Nat.le_trans (show as.length ≤ 12 by omega) (by decide), fun p hp => ?_⟩
  have s2 := s.trans (Same.new hp (o := .tup (as.map V.ref)))
  have hx2 : upd (upd (upd H1 dx (.own x)) x (.ins (Z.more k) dx [])) p (.tup (as.map V.ref)) x = some (.ins (Z.more k) dx []) := by
    rw [upd_ne fun e => by rw [← e, upd_same] at hp; cases hp]
    exact upd_same
  exact ⟨x, dx, p, as, l, Wd, rfl, hx2, SqT.of upd_same, hl.same s2, h12, h4, hW, hs, fun H' o hc => ⟨rfl, fin x H' (off_new hx s2 o) hc⟩⟩
end
/-- the classes, as they are called -/
structure MkC (P : Program) (w : World) (K : PySem.W.Frag) (mg : Str → Option Value) (base : Heap) (Z : Cz) : Prop where
  below : MkP P w K mg base 3 "Below" (Z.two 0) (fun vs H Q _ => spTwo K Z 0 vs H Q E0)
  upto : MkP P w K mg base 3 "Upto" (Z.two 1) (fun vs H Q _ => spTwo K Z 1 vs H Q E0)
  same : MkP P w K mg base 3 "Same" (Z.two 2) (fun vs H Q _ => spTwo K Z 2 vs H Q E0)
  not_ : MkP P w K mg base 3 "Not" (Z.more 0) (fun vs H Q _ => spNot K Z vs H Q E0)
  all : MkP P w K mg base 3 "All" (Z.more 1) (spMk K Z 1)
  any : MkP P w K mg base 3 "Any" (Z.more 2) (spMk K Z 2)
def spLMade (K : PySem.W.Frag) (Z : Cz) (n : Nat) : Sp := fun vs H Q _ => ∃ (q : Addr) (c : Cd) (W : List Str), vs = [.ref q] ∧ TreeAt K H q c ∧ c.good W ∧ W.length ≤ 20 ∧ c.parts ≤ 12 ∧ c.depth ≤ n ∧ n ≤ 4 ∧ ∀ a H', Same H H' → CondAt K Z H' a c → Q (.ref a) H'
theorem conds_of {K : PySem.W.Frag} {Z : Cz} {H : Hp} : ∀ {ys : List V} {l : List Cd}, ys.length = l.length → (∀ (i : Nat) (y : V), ys[i]? = some y → ∃ a c, y = V.ref a ∧ l[i]? = some c ∧ CondAt K Z H a c) → ∃ as, ys = as.map V.ref ∧ CondsAt K Z H as l
  | [], [], _, _ => ⟨[], rfl, .nil⟩
  | y :: r, c :: l, e, h => by
    obtain ⟨a, c', rfl, hc, ca⟩ := h 0 y rfl
    cases hc
    obtain ⟨as, rfl, hl⟩ := conds_of (ys := r) (l := l) (Nat.succ.inj e) fun i z hz => h (i + 1) z hz
    exact ⟨a :: as, rfl, .cons ca hl⟩
section
variable {P : Program} {w : World} {K : PySem.W.Frag} {mg : Str → Option Value} {base : Heap} {Z : Cz}
theorem ok_law_made {n : Nat} {f : Addr} {fd : FuncData} (F : Fun K "_law_made" "_law_made" s__law_made f fd) (T : Ta mg) (C0 : Fc K mg Z.form) (MK : MkC P w K mg base Z) (c__law_text : Cal P w K mg base 1 "_law_text" ["_law_terms_here"] spLText) (M_read : StM P w K mg base 8 Z.form "read" ["text"] (spIn Z.form))
    (c__law_made : Cal P w K mg base (8 + n) "_law_made" ["_law_tree_here"] (spLMade K Z n)) : FnG P w K mg base (8 + n + 1) f fd ["_law_tree_here"] (spLMade K Z (n + 1)) := by
  refine okG F sc__law_made (fun vs H Q E h => ?_) (fun cdv A outer s H vs Q hr h => ?_)
  · obtain ⟨q, c, W, rfl, _⟩ := h
    rfl
  · obtain ⟨q, c, W, rfl, ht, hg, hW, hp, hc, n4, k⟩ := h
    refine ⟨_, (pss_cons (ps_if (pt_cmpR (r := rIn K false) op_in_seq (pe_ix ix_tup (pv 0) pe_int (fun _ _ => rfl)) (pe_lstS (pa_cons pe_str (pa_cons pe_str (pa_cons pe_str pa_nil)))) rfl)
    (pss_cons (ps_par (i := 1) (j := 2) (by rfl) sc__law_made.nd rfl rfl (by decide) rfl rfl (pa_cons (pe_sm (pe_gl (v := .ref Z.form) rfl C0.g_Form) M_read hr (by omega) (pa_cons (pe_c c__law_text hr (by omega) rfl (pa_cons (pe_ix ix_tup (pv 0) pe_int (fun _ _ => rfl)) pa_nil)) pa_nil)) (pa_cons (pe_sm (pe_gl (v := .ref Z.form) rfl C0.g_Form) M_read hr (by omega) (pa_cons (pe_c c__law_text hr (by omega) rfl (pa_cons (pe_ix ix_tup (pv 0) pe_int (fun _ _ => rfl)) pa_nil)) pa_nil)) pa_nil)) (by rfl))
  (pss_cons (ps_if (pt_cmpR op_eq (pe_ix ix_tup (pv 0) pe_int (fun _ _ => rfl)) pe_str (nomark _))
    (pss_one (ps_ret (pe_makeP MK.below hr (by omega) rfl (pa_cons (pv 1) (pa_cons (pv 2) pa_nil)))))
    pss_nil)
  (pss_one (ps_ret (pe_mid (pe_ifExp (pt_cmpR op_eq (pe_ix ix_tup (pv 0) pe_int (fun _ _ => rfl)) pe_str (nomark _)) (pe_makeP MK.upto hr (by omega) rfl (pa_cons (pv 1) (pa_cons (pv 2) pa_nil))) (pe_makeP MK.same hr (by omega) rfl (pa_cons (pv 1) (pa_cons (pv 2) pa_nil)))))))))
    pss_nil)
  (pss_cons (ps_setLc (i := 3) (own := [("_law_each", 4)]) (g := gName 4) (tt := tYes) rfl sc__law_made.nd rfl rfl (sw_true rfl rfl rfl (by decide +kernel)) (pi_tup (pe_slice sl_tup (pv 0) (po_some pe_int) po_none)) (blkOk_by (own := [("_law_each", 4)]) (N := n__law_made) (sc := defScope s__law_made) (by decide +kernel)) (fun _ _ _ _ _ => pg_name (i := 4) sc__law_made.nd rfl (Or.inl rfl)) (fun _ _ _ _ _ => pts_nil) (fun _ _ _ _ _ => (pe_c c__law_made hr (Nat.le_refl _) rfl (pa_cons (pv 4) pa_nil))))
  (pss_cons (ps_if (pt_cmpR op_eq (pe_ix ix_tup (pv 0) pe_int (fun _ _ => rfl)) pe_str (nomark _))
    (pss_one (ps_ret (pe_makeP MK.not_ hr (by omega) rfl (pa_cons (pe_ix ix_list (pv 3) pe_int (fun _ _ => rfl)) pa_nil))))
    pss_nil)
  (pss_cons (ps_if (pt_cmpR op_eq (pe_callB call_len_seq (by rfl) T.b_len (by decide +kernel) (pa_cons (pv 3) pa_nil)) pe_int (nomark _))
    (pss_one (ps_ret (pe_mid (pe_ifExp (pt_cmpR op_eq (pe_ix ix_tup (pv 0) pe_int (fun _ _ => rfl)) pe_str (nomark _)) (pe_makeP0 MK.all hr (by omega) rfl) (pe_makeP0 MK.any hr (by omega) rfl)))))
    pss_nil)
  (pss_cons (ps_if (pt_cmpR op_eq (pe_callB call_len_seq (by rfl) T.b_len (by decide +kernel) (pa_cons (pv 3) pa_nil)) pe_int (nomark _))
    (pss_one (ps_ret (pe_mid (pe_ifExp (pt_cmpR op_eq (pe_ix ix_tup (pv 0) pe_int (fun _ _ => rfl)) pe_str (nomark _)) (pe_makeP MK.all hr (by omega) rfl (pa_cons (pe_ix ix_list (pv 3) pe_int (fun _ _ => rfl)) pa_nil)) (pe_makeP MK.any hr (by omega) rfl (pa_cons (pe_ix ix_list (pv 3) pe_int (fun _ _ => rfl)) pa_nil))))))
    pss_nil)
  (pss_cons (ps_if (pt_cmpR op_eq (pe_callB call_len_seq (by rfl) T.b_len (by decide +kernel) (pa_cons (pv 3) pa_nil)) pe_int (nomark _))
    (pss_one (ps_ret (pe_mid (pe_ifExp (pt_cmpR op_eq (pe_ix ix_tup (pv 0) pe_int (fun _ _ => rfl)) pe_str (nomark _)) (pe_makeP MK.all hr (by omega) rfl (pa_cons (pe_ix ix_list (pv 3) pe_int (fun _ _ => rfl)) (pa_cons (pe_ix ix_list (pv 3) pe_int (fun _ _ => rfl)) pa_nil))) (pe_makeP MK.any hr (by omega) rfl (pa_cons (pe_ix ix_list (pv 3) pe_int (fun _ _ => rfl)) (pa_cons (pe_ix ix_list (pv 3) pe_int (fun _ _ => rfl)) pa_nil)))))))
    pss_nil)
  (pss_cons (ps_asg (pv 3) (pg_lst rfl (pgs_cons (pg_name (i := 1) sc__law_made.nd rfl (by first | exact .inl rfl | exact .inr rfl)) (pgs_cons (pg_name (i := 2) sc__law_made.nd rfl (by first | exact .inl rfl | exact .inr rfl)) (pgs_cons (pg_name (i := 5) sc__law_made.nd rfl (by first | exact .inl rfl | exact .inr rfl)) pgs_nil)))))
  (pss_one (ps_ret (pe_mid (pe_ifExp (pt_cmpR op_eq (pe_ix ix_tup (pv 0) pe_int (fun _ _ => rfl)) pe_str (nomark _)) (pe_makeP MK.all hr (by omega) rfl (pa_cons (pv 1) (pa_cons (pv 2) (pa_cons (pv 5) pa_nil)))) (pe_makeP MK.any hr (by omega) rfl (pa_cons (pv 1) (pa_cons (pv 2) (pa_cons (pv 5) pa_nil))))))))))))))), ?_⟩
    cases ht with
    | @two _ p1 p2 k0 ts vs ha hp1 hq1 hk =>
      refine ⟨_, rfl, q, _, 0, .str (wordT k0), rfl, rfl, ha, at_zero, (by show 3 ≤ sizeLine; decide), fun g H2 ng s2 hg2 => ⟨g, _, rfl, .inl (SqL.of hg2), rfl, rfl, ?_⟩⟩
      rw [in_words hk]
      refine ⟨_, rfl, iteT ?_⟩
      have g1 := hg.1
      have g2 := hg.2
      have b1 := g1.bd hW
      have b2 := g2.bd hW
      refine ⟨rfl, _, rfl, q, _, 1, _, rfl, rfl, sqT_same s2 ha, rfl, p1, ts, rfl, hp1.same s2, g1.rd.bd (k := 60) (by have := b1.len; omega), g1.rd.sy, fun H3 s3 => ⟨ts, rfl, g1.nm, g1.rd, b1.len, fun a H4 s4 ha4 => ?_⟩⟩
      have s24 := (s2.trans s3).trans s4
      refine ⟨rfl, _, rfl, q, _, 2, _, rfl, rfl, sqT_same s24 ha, rfl, p2, vs, rfl, hq1.same s24, g2.rd.bd (k := 60) (by have := b2.len; omega), g2.rd.sy, fun H5 s5 => ⟨vs, rfl, g2.nm, g2.rd, b2.len, fun b H6 s6 hb6 => ⟨_, _, rfl, ?_⟩⟩⟩
      have s46 := s5.trans s6
      have s26 := s24.trans s46
      have bb1 : Bd 30 200 ts := ⟨by have := b1.len; omega, b1.lt⟩
      have bb2 : Bd 30 200 vs := ⟨by have := b2.len; omega, b2.lt⟩
      have hk3 : k0 = 0 ∨ k0 = 1 ∨ k0 = 2 := by omega
      refine ⟨_, rfl, q, _, 0, .str (wordT k0), rfl, rfl, sqT_same s26 ha, at_zero, rfl, _, rfl, ?_⟩
      rcases hk3 with rfl | rfl | rfl
      · refine ite2 (fun _ => ?_) fun h => absurd (decide_eq_true rfl) h
        exact ⟨_, rfl, _, rfl, use_two (ha4.same s46) hb6 bb1 bb2 fun a H' s hc => k a H' (s26.trans s) hc⟩
      · refine ite2 (fun h => absurd (V.str.inj (of_decide_eq_true h)) (by decide)) fun _ => ?_
        refine ⟨fun v H' => ∃ a, v = .ref a ∧ Same H H' ∧ CondAt K Z H' a (.two 1 ts vs), ⟨_, rfl, q, _, 0, .str (wordT 1), rfl, rfl, sqT_same s26 ha, at_zero, rfl, _, rfl, ?_⟩, fun v H' ⟨a, e, s, hc⟩ => by
          subst e
          exact k a H' s hc⟩
        refine ite2 (fun _ => ?_) fun h => absurd (decide_eq_true rfl) h
        exact ⟨_, rfl, _, rfl, use_two (Q := fun v H' => ∃ a, v = .ref a ∧ Same H H' ∧ CondAt K Z H' a (.two 1 ts vs)) (ha4.same s46) hb6 bb1 bb2 fun a H' s hc => ⟨a, rfl, s26.trans s, hc⟩⟩
      · refine ite2 (fun h => absurd (V.str.inj (of_decide_eq_true h)) (by decide)) fun _ => ?_
        refine ⟨fun v H' => ∃ a, v = .ref a ∧ Same H H' ∧ CondAt K Z H' a (.two 2 ts vs), ⟨_, rfl, q, _, 0, .str (wordT 2), rfl, rfl, sqT_same s26 ha, at_zero, rfl, _, rfl, ?_⟩, fun v H' ⟨a, e, s, hc⟩ => by
          subst e
          exact k a H' s hc⟩
        refine ite2 (fun h => absurd (V.str.inj (of_decide_eq_true h)) (by decide)) fun _ => ?_
        exact ⟨_, rfl, _, rfl, use_two (Q := fun v H' => ∃ a, v = .ref a ∧ Same H H' ∧ CondAt K Z H' a (.two 2 ts vs)) (ha4.same s46) hb6 bb1 bb2 fun a H' s hc => ⟨a, rfl, s26.trans s, hc⟩⟩
    | @more _ k0 as l ha hl hk h3 =>
      refine ⟨_, rfl, q, _, 0, .str (wordM k0), rfl, rfl, ha, at_zero, (by show 3 ≤ sizeLine; decide), fun g H2 ng s2 hg2 => ⟨g, _, rfl, .inl (SqL.of hg2), rfl, rfl, ?_⟩⟩
      rw [out_words hk]
      refine ⟨_, rfl, iteF ?_⟩
      have lp := hl.len
      have hc : 1 + depthL l ≤ n + 1 := hc
      have hp12 : 1 + partsL l ≤ 12 := hp
      refine ⟨_, rfl, 1, rfl, q, _, rfl, sqT_same s2 ha, tail_not, fun t nt => ?_⟩
      rw [tail_cut]
      have s3 := s2.trans (Same.new nt (o := .tup (as.map V.ref)))
      have t3 : upd H2 t (.tup (as.map V.ref)) t = some (.tup (as.map V.ref)) := upd_same
      generalize upd H2 t (.tup (as.map V.ref)) = H3 at s3 t3 ⊢
      refine ⟨t, rfl, ⟨_, SqT.of t3⟩, fun D hD => lc_gen (walk_tup (K := K) (a := t) (xs := as.map V.ref)) (R := fun i y H' => ∃ a c, y = .ref a ∧ l[i]? = some c ∧ CondAt K Z (Nl (upd H3 D (.lst [])) H') a c) (by rw [List.length_map]; omega) hD
        (fun i y H H' ⟨a, c, e, hc, t⟩ k2 => ⟨a, c, e, hc, t.same (nl_mono (fun b xs e => ⟨xs, e⟩) fun b o n e => k2 b o (fun q => n [] (by rw [q]; exact upd_same)) e)⟩) (fun H' s' => SqT.of (s' _ _ t3)) (fun i v H4 H5 ys Q' hi s4 hDy y kq => ?_) fun H4 ys s4 d4 ly ry => ?_⟩
      · obtain ⟨rfl, hv⟩ := y
        obtain ⟨a, c, rfl, hc2, tc⟩ := hl.get hv
        have mc := List.mem_of_getElem? hc2
        have dm := depth_mem mc
        have pm := parts_mem mc
        refine ⟨rfl, _, rfl, a, c, W, rfl, (tc.same s3).same s4, goodL_mem hg.2 mc, hW, by omega, by omega, by omega, fun b H6 s6 hb => kq (.ref b) H6 s6 ⟨b, c, rfl, hc2, hb.nol fun e o no h => nl_of h fun xs hB => ?_⟩⟩
        by_cases he : e = D
        · have := s6 _ _ hDy
          rw [← he, h] at this
          exact no _ (Option.some.inj this)
        · rw [upd_ne he] at hB
          have := s6 _ _ (s4 _ _ hB)
          rw [h] at this
          exact no _ (Option.some.inj this)
      · rw [List.length_map, lp] at ly
        obtain ⟨bs, rfl, hl4⟩ := conds_of ly ry
        have hl4 := hl4.same nl_sub
        have s24 := s3.trans s4
        have ha4 := sqT_same s24 ha
        have hW' : W.length ≤ 60 := by omega
        have hs4 : ∀ z ∈ symsL l, z ∈ W := goodL_syms hg.2
        have d41 : 1 + depthL l ≤ 4 := by omega
        have lb := hl4.len
        have hk3 : k0 = 0 ∨ k0 = 1 ∨ k0 = 2 := by omega
        refine ⟨_, rfl, q, _, 0, .str (wordM k0), rfl, rfl, ha4, at_zero, rfl, _, rfl, ?_⟩
        rcases hk3 with rfl | rfl | rfl
        · refine ite2 (fun _ => ?_) fun h => absurd (decide_eq_true rfl) h
          obtain ⟨c', rfl⟩ := List.length_eq_one_iff.mp (hg.1 rfl)
          cases hl4 with
          | @cons b0 _ _ _ hb r0 =>
            cases r0
            exact ⟨_, rfl, D, _, 0, _, rfl, rfl, SqL.of d4, rfl, use_not hb (by simpa [partsL] using hp12) (by simpa [depthL] using d41) hW' (by simpa [symsL] using hs4) fun a H' s hc => k a H' (s24.trans s) hc⟩
        · refine ite2 (fun h => absurd (V.str.inj (of_decide_eq_true h)) (by decide)) fun _ => ?_
          have lb3 : bs.length ≤ 3 := by omega
          match bs, lb3, hl4, d4, lb with
          | [], _, hl4, d4, lb =>
            refine ⟨_, rfl, D, _, rfl, .inl (SqL.of d4), rfl, _, rfl, ite2 (fun _ => ?_) fun h => absurd (decide_eq_true rfl) h⟩
            refine ⟨fun v H' => ∃ a, v = .ref a ∧ Same H H' ∧ CondAt K Z H' a (.more 1 l), ⟨_, rfl, q, _, 0, .str (wordM 1), rfl, rfl, ha4, at_zero, rfl, _, rfl, ?_⟩, fun v H' ⟨a, e, s, hc⟩ => by
              subst e
              exact k a H' s hc⟩
            refine ite2 (fun _ => ?_) fun h => absurd (decide_eq_true rfl) h
            exact use_many (Q := fun v H' => ∃ a, v = .ref a ∧ Same H H' ∧ CondAt K Z H' a (.more 1 l)) rfl hl4 hp12 d41 hW' hs4 fun a H' s hc => ⟨a, rfl, s24.trans s, hc⟩
          | [b0], _, hl4, d4, lb =>
            refine ⟨_, rfl, D, _, rfl, .inl (SqL.of d4), rfl, _, rfl, ite2 (fun h => absurd (V.int.inj (of_decide_eq_true h)) (by simp)) fun _ => ?_⟩
            refine ⟨_, rfl, D, _, rfl, .inl (SqL.of d4), rfl, _, rfl, ite2 (fun _ => ?_) fun h => absurd (decide_eq_true rfl) h⟩
            refine ⟨fun v H' => ∃ a, v = .ref a ∧ Same H H' ∧ CondAt K Z H' a (.more 1 l), ⟨_, rfl, q, _, 0, .str (wordM 1), rfl, rfl, ha4, at_zero, rfl, _, rfl, ?_⟩, fun v H' ⟨a, e, s, hc⟩ => by
              subst e
              exact k a H' s hc⟩
            refine ite2 (fun _ => ?_) fun h => absurd (decide_eq_true rfl) h
            exact ⟨_, rfl, D, _, 0, _, rfl, rfl, SqL.of d4, rfl, use_many (Q := fun v H' => ∃ a, v = .ref a ∧ Same H H' ∧ CondAt K Z H' a (.more 1 l)) rfl hl4 hp12 d41 hW' hs4 fun a H' s hc => ⟨a, rfl, s24.trans s, hc⟩⟩
          | [b0, b1], _, hl4, d4, lb =>
            refine ⟨_, rfl, D, _, rfl, .inl (SqL.of d4), rfl, _, rfl, ite2 (fun h => absurd (V.int.inj (of_decide_eq_true h)) (by simp)) fun _ => ?_⟩
            refine ⟨_, rfl, D, _, rfl, .inl (SqL.of d4), rfl, _, rfl, ite2 (fun h => absurd (V.int.inj (of_decide_eq_true h)) (by simp)) fun _ => ?_⟩
            refine ⟨_, rfl, D, _, rfl, .inl (SqL.of d4), rfl, _, rfl, ite2 (fun _ => ?_) fun h => absurd (decide_eq_true rfl) h⟩
            refine ⟨fun v H' => ∃ a, v = .ref a ∧ Same H H' ∧ CondAt K Z H' a (.more 1 l), ⟨_, rfl, q, _, 0, .str (wordM 1), rfl, rfl, ha4, at_zero, rfl, _, rfl, ?_⟩, fun v H' ⟨a, e, s, hc⟩ => by
              subst e
              exact k a H' s hc⟩
            refine ite2 (fun _ => ?_) fun h => absurd (decide_eq_true rfl) h
            exact ⟨_, rfl, D, _, 0, _, rfl, rfl, SqL.of d4, rfl, _, rfl, D, _, 1, _, rfl, rfl, SqL.of d4, rfl, use_many (Q := fun v H' => ∃ a, v = .ref a ∧ Same H H' ∧ CondAt K Z H' a (.more 1 l)) rfl hl4 hp12 d41 hW' hs4 fun a H' s hc => ⟨a, rfl, s24.trans s, hc⟩⟩
          | [b0, b1, b2], _, hl4, d4, lb =>
            refine ⟨_, rfl, D, _, rfl, .inl (SqL.of d4), rfl, _, rfl, ite2 (fun h => absurd (V.int.inj (of_decide_eq_true h)) (by simp)) fun _ => ?_⟩
            refine ⟨_, rfl, D, _, rfl, .inl (SqL.of d4), rfl, _, rfl, ite2 (fun h => absurd (V.int.inj (of_decide_eq_true h)) (by simp)) fun _ => ?_⟩
            refine ⟨_, rfl, D, _, rfl, .inl (SqL.of d4), rfl, _, rfl, ite2 (fun h => absurd (V.int.inj (of_decide_eq_true h)) (by simp)) fun _ => ?_⟩
            refine ⟨_, rfl, D, _, rfl, SqL.of d4, rfl, _, _, rfl, _, _, rfl, _, _, rfl, rfl, ?_⟩
            refine ⟨fun v H' => ∃ a, v = .ref a ∧ Same H H' ∧ CondAt K Z H' a (.more 1 l), ⟨_, rfl, q, _, 0, .str (wordM 1), rfl, rfl, ha4, at_zero, rfl, _, rfl, ?_⟩, fun v H' ⟨a, e, s, hc⟩ => by
              subst e
              exact k a H' s hc⟩
            refine ite2 (fun _ => ?_) fun h => absurd (decide_eq_true rfl) h
            exact ⟨_, rfl, _, rfl, _, rfl, use_many (Q := fun v H' => ∃ a, v = .ref a ∧ Same H H' ∧ CondAt K Z H' a (.more 1 l)) rfl hl4 hp12 d41 hW' hs4 fun a H' s hc => ⟨a, rfl, s24.trans s, hc⟩⟩
        · refine ite2 (fun h => absurd (V.str.inj (of_decide_eq_true h)) (by decide)) fun _ => ?_
          have lb3 : bs.length ≤ 3 := by omega
          match bs, lb3, hl4, d4, lb with
          | [], _, hl4, d4, lb =>
            refine ⟨_, rfl, D, _, rfl, .inl (SqL.of d4), rfl, _, rfl, ite2 (fun _ => ?_) fun h => absurd (decide_eq_true rfl) h⟩
            refine ⟨fun v H' => ∃ a, v = .ref a ∧ Same H H' ∧ CondAt K Z H' a (.more 2 l), ⟨_, rfl, q, _, 0, .str (wordM 2), rfl, rfl, ha4, at_zero, rfl, _, rfl, ?_⟩, fun v H' ⟨a, e, s, hc⟩ => by
              subst e
              exact k a H' s hc⟩
            refine ite2 (fun h => absurd (V.str.inj (of_decide_eq_true h)) (by decide)) fun _ => ?_
            exact use_many (Q := fun v H' => ∃ a, v = .ref a ∧ Same H H' ∧ CondAt K Z H' a (.more 2 l)) rfl hl4 hp12 d41 hW' hs4 fun a H' s hc => ⟨a, rfl, s24.trans s, hc⟩
          | [b0], _, hl4, d4, lb =>
            refine ⟨_, rfl, D, _, rfl, .inl (SqL.of d4), rfl, _, rfl, ite2 (fun h => absurd (V.int.inj (of_decide_eq_true h)) (by simp)) fun _ => ?_⟩
            refine ⟨_, rfl, D, _, rfl, .inl (SqL.of d4), rfl, _, rfl, ite2 (fun _ => ?_) fun h => absurd (decide_eq_true rfl) h⟩
            refine ⟨fun v H' => ∃ a, v = .ref a ∧ Same H H' ∧ CondAt K Z H' a (.more 2 l), ⟨_, rfl, q, _, 0, .str (wordM 2), rfl, rfl, ha4, at_zero, rfl, _, rfl, ?_⟩, fun v H' ⟨a, e, s, hc⟩ => by
              subst e
              exact k a H' s hc⟩
            refine ite2 (fun h => absurd (V.str.inj (of_decide_eq_true h)) (by decide)) fun _ => ?_
            exact ⟨_, rfl, D, _, 0, _, rfl, rfl, SqL.of d4, rfl, use_many (Q := fun v H' => ∃ a, v = .ref a ∧ Same H H' ∧ CondAt K Z H' a (.more 2 l)) rfl hl4 hp12 d41 hW' hs4 fun a H' s hc => ⟨a, rfl, s24.trans s, hc⟩⟩
          | [b0, b1], _, hl4, d4, lb =>
            refine ⟨_, rfl, D, _, rfl, .inl (SqL.of d4), rfl, _, rfl, ite2 (fun h => absurd (V.int.inj (of_decide_eq_true h)) (by simp)) fun _ => ?_⟩
            refine ⟨_, rfl, D, _, rfl, .inl (SqL.of d4), rfl, _, rfl, ite2 (fun h => absurd (V.int.inj (of_decide_eq_true h)) (by simp)) fun _ => ?_⟩
            refine ⟨_, rfl, D, _, rfl, .inl (SqL.of d4), rfl, _, rfl, ite2 (fun _ => ?_) fun h => absurd (decide_eq_true rfl) h⟩
            refine ⟨fun v H' => ∃ a, v = .ref a ∧ Same H H' ∧ CondAt K Z H' a (.more 2 l), ⟨_, rfl, q, _, 0, .str (wordM 2), rfl, rfl, ha4, at_zero, rfl, _, rfl, ?_⟩, fun v H' ⟨a, e, s, hc⟩ => by
              subst e
              exact k a H' s hc⟩
            refine ite2 (fun h => absurd (V.str.inj (of_decide_eq_true h)) (by decide)) fun _ => ?_
            exact ⟨_, rfl, D, _, 0, _, rfl, rfl, SqL.of d4, rfl, _, rfl, D, _, 1, _, rfl, rfl, SqL.of d4, rfl, use_many (Q := fun v H' => ∃ a, v = .ref a ∧ Same H H' ∧ CondAt K Z H' a (.more 2 l)) rfl hl4 hp12 d41 hW' hs4 fun a H' s hc => ⟨a, rfl, s24.trans s, hc⟩⟩
          | [b0, b1, b2], _, hl4, d4, lb =>
            refine ⟨_, rfl, D, _, rfl, .inl (SqL.of d4), rfl, _, rfl, ite2 (fun h => absurd (V.int.inj (of_decide_eq_true h)) (by simp)) fun _ => ?_⟩
            refine ⟨_, rfl, D, _, rfl, .inl (SqL.of d4), rfl, _, rfl, ite2 (fun h => absurd (V.int.inj (of_decide_eq_true h)) (by simp)) fun _ => ?_⟩
            refine ⟨_, rfl, D, _, rfl, .inl (SqL.of d4), rfl, _, rfl, ite2 (fun h => absurd (V.int.inj (of_decide_eq_true h)) (by simp)) fun _ => ?_⟩
            refine ⟨_, rfl, D, _, rfl, SqL.of d4, rfl, _, _, rfl, _, _, rfl, _, _, rfl, rfl, ?_⟩
            refine ⟨fun v H' => ∃ a, v = .ref a ∧ Same H H' ∧ CondAt K Z H' a (.more 2 l), ⟨_, rfl, q, _, 0, .str (wordM 2), rfl, rfl, ha4, at_zero, rfl, _, rfl, ?_⟩, fun v H' ⟨a, e, s, hc⟩ => by
              subst e
              exact k a H' s hc⟩
            refine ite2 (fun h => absurd (V.str.inj (of_decide_eq_true h)) (by decide)) fun _ => ?_
            exact ⟨_, rfl, _, rfl, _, rfl, use_many (Q := fun v H' => ∃ a, v = .ref a ∧ Same H H' ∧ CondAt K Z H' a (.more 2 l)) rfl hl4 hp12 d41 hW' hs4 fun a H' s hc => ⟨a, rfl, s24.trans s, hc⟩⟩
theorem made_all (T : Ta mg) (C0 : Fc K mg Z.form) (MK : MkC P w K mg base Z) (c__law_text : Cal P w K mg base 1 "_law_text" ["_law_terms_here"] spLText) (M_read : StM P w K mg base 8 Z.form "read" ["text"] (spIn Z.form)) (D : RecF K mg "_law_made" s__law_made ["_law_tree_here"]) : ∀ n, Cal P w K mg base (8 + n) "_law_made" ["_law_tree_here"] (spLMade K Z n)
  | 0 => D.cal fun f fd F => ⟨fun vs H Q E ⟨q, c, W, _, _, _, _, _, d, _⟩ => absurd (depth_pos c) (by omega), fun A outer s H args us vs Q _ _ _ _ ⟨q, c, W, _, _, _, _, _, d, _⟩ => absurd (depth_pos c) (by omega)⟩
  | n + 1 => D.cal fun f fd F => ok_law_made F T C0 MK c__law_text M_read (made_all T C0 MK c__law_text M_read D n)
end
end Lw

/-! ## CdJ -/
set_option maxHeartbeats 1000000
namespace Lw
open PySem PySem.Spec PyProof.Rows L2
open Fm (cf Asc Nm)
abbrev s__law_right : Stmt := topS 65
abbrev n__law_right : List Str := ["_law_heap_here", "_law_names_here", "_law_trees", "_law_turn", "_law_tree_here", "_law_clause", "_law_tables", "_law_menu", "_law_table", "_law_name_here", "_law_passed", "_law_due", "_law_row"]
theorem sc__law_right : FnScope n__law_right ["_law_heap_here"] (defScope s__law_right) := ⟨rfl, rfl, rfl, by decide +kernel, rfl, by decide +kernel, by decide +kernel⟩
section
variable {X : Cx} {K : PySem.W.Frag} {o : Expr} {to : TE} {name : Str} {apos cpos : Pos} {T id : String} {r : V → List V → Hp → VK → Prop}
def rTupF (K : PySem.W.Frag) : List V → Hp → VK → Prop := fun xs H Q => ∃ p ys, xs = [V.ref p] ∧ SqL K H p ys ∧ ∀ l H', H l = none → Same H H' → TupF H' l ys → Q (.ref l) H'
theorem call_tupleFB (hK : X.K = K) : CallR X (.type "tuple") (rTupF K) := by
  subst hK
  exact call_tupleF
theorem pe_bm0B (hK : X.K = K) (pa : PlainAttrs T) (slot : Slot T name id) (hty : typeOf (.builtin id) = pure (.type "method_descriptor")) (hm : MtR X id r) (ho : PE X o to)
    (hbase : attributeBase o name X.env (eval o X.env) = eval o X.env := by rfl) (hline : (apos.endLine == cpos.line) = true := by rfl) : PE X (.Call (.Attribute o name apos) [] [] cpos) (tBM0 K T r to) := by
  subst hK
  exact pe_bm0 pa slot hty hm ho hbase hline
end
def spRight : Sp := fun vs H Q _ => ∃ a, vs = [.ref a] ∧ H a = some (DrawO a) ∧ ∀ H', Same H H' → Q (.bl true) H'
/-- a table of values -/
structure TOk (zs : List Str) (us : Tms) : Prop where
  nd : (us.map (·.1)).Nodup
  has : ∀ z ∈ zs, z ∈ us.map (·.1)
  len : us.length ≤ 20
  sy : ∀ q ∈ us, SyN q.1
  pos : ∀ q ∈ us, 0 ≤ q.2
  lt : ∀ q ∈ us, q.2.natAbs < 2 ^ 110
theorem rows_of {H : Hp} {D : Addr} : ∀ {ys : List V} {zs : List Str}, ys.length = zs.length → (∀ (i : Nat) (y : V), ys[i]? = some y → ∃ t z v, y = V.ref t ∧ t ≠ D ∧ zs[i]? = some z ∧ H t = some (.tup [.str z, .int v]) ∧ 0 ≤ v ∧ v.natAbs < 2 ^ 110) →
    ∃ ps us, ys = ps.map V.ref ∧ us.map (·.1) = zs ∧ Prs H ps us ∧ ∀ q ∈ us, 0 ≤ q.2 ∧ q.2.natAbs < 2 ^ 110
  | [], [], _, _ => ⟨[], [], rfl, rfl, .nil, nofun⟩
  | y :: r, z :: zs, e, h => by
    obtain ⟨t, z', v, rfl, _, hz, ht, ok⟩ := h 0 y rfl
    cases hz
    obtain ⟨ps, us, rfl, rfl, hp, hk⟩ := rows_of (ys := r) (zs := zs) (Nat.succ.inj e) fun i y hy => h (i + 1) y hy
    refine ⟨t :: ps, (z, v) :: us, rfl, rfl, .cons ht hp, fun q m => ?_⟩
    rcases List.mem_cons.mp m with rfl | m
    · exact ok
    · exact hk q m
theorem putE_mem {us : Tms} {s : Str} {f : Int} {q : Str × Int} (h : q ∈ putE us s f) : q ∈ us ∨ q = (s, f) := by
  unfold putE at h
  split at h
  · obtain ⟨r, m, rfl⟩ := List.mem_map.mp h
    by_cases e : r.1 = s
    · rw [if_pos e]
      exact .inr (by rw [e])
    · rw [if_neg e]
      exact .inl m
  · rcases List.mem_append.mp h with m | m
    · exact .inl m
    · exact .inr (List.mem_singleton.mp m)
theorem prd_imp {R S : Addr → Tms → Prop} (h : ∀ a t, R a t → S a t) : ∀ {cs : List Addr} {Ls : List Tms}, Paired R cs Ls → Paired S cs Ls
  | _, _, .nil => .nil
  | _, _, .cons k r => .cons (h _ _ k) (prd_imp h r)
theorem prd_snoc {R : Addr → Tms → Prop} {c : Addr} {q : Tms} (k : R c q) : ∀ {cs : List Addr} {Ls : List Tms}, Paired R cs Ls → Paired R (cs ++ [c]) (Ls ++ [q])
  | _, _, .nil => .cons k .nil
  | _, _, .cons h r => .cons h (prd_snoc k r)
theorem prd_len {R : Addr → Tms → Prop} : ∀ {cs : List Addr} {Ls : List Tms}, Paired R cs Ls → cs.length = Ls.length
  | _, _, .nil => rfl
  | _, _, .cons _ r => congrArg Nat.succ (prd_len r)
theorem prd_get {R : Addr → Tms → Prop} : ∀ {cs : List Addr} {Ls : List Tms}, Paired R cs Ls → ∀ {i : Nat} {x : V}, (cs.map V.ref)[i]? = some x → ∃ c q, x = .ref c ∧ Ls[i]? = some q ∧ R c q
  | _, _, .nil, i, x, h => by simp at h
  | _, _, .cons h r, 0, x, e => by
    cases e
    exact ⟨_, _, rfl, rfl, h⟩
  | _, _, .cons h r, i + 1, x, e => prd_get r (i := i) e
theorem ents_prs {H : Hp} : ∀ {bs : List Ent}, (∀ b ∈ bs, H b.1 = some (.tup [.str b.2.1, .int b.2.2])) → Prs H (bs.map (·.1)) (bs.map (·.2))
  | [], _ => .nil
  | b :: r, h => .cons (h b List.mem_cons_self) (ents_prs fun c hc => h c (List.mem_cons_of_mem _ hc))
theorem cf_perm {ts us : Tms} (h : ts.Perm us) (n : (us.map (·.1)).Nodup) (s : Str) : cf ts s = cf us s := by
  have nt : (ts.map (·.1)).Nodup := (h.map (·.1)).nodup_iff.mpr n
  by_cases m : s ∈ us.map (·.1)
  · obtain ⟨⟨t, f⟩, hq, e⟩ := List.mem_map.mp m
    cases (show t = s from e)
    rw [cf_nodup n hq, cf_nodup nt (h.mem_iff.mpr hq)]
  · rw [cf_nin m, cf_nin fun k => m ((h.map (·.1)).mem_iff.mp k)]
theorem asc_strict {l : List Str} (h : l.Pairwise fun p q => ¬ q.cps.toList < p.cps.toList) (d : l.Nodup) : l.Pairwise lt' := by
  refine List.Pairwise.imp (S := lt') (R := fun a b => ¬ lt' b a ∧ a ≠ b) (fun {a b} k => ?_) (h.and d)
  exact Decidable.byContradiction fun c => k.2 (lt'_tri c k.1)
theorem cf_small {us : Tms} (h : ∀ q ∈ us, q.2.natAbs < 2 ^ 110) (s : Str) : (cf us s).natAbs < 2 ^ 110 := by
  induction us with
  | nil => exact (by decide +kernel : (0 : Int).natAbs < 2 ^ 110)
  | cons q r ih =>
    obtain ⟨t, f⟩ := q
    show (if t = s then f else cf r s).natAbs < _
    split
    · exact h _ List.mem_cons_self
    · exact ih fun q m => h q (List.mem_cons_of_mem _ m)
theorem sumE_cf {us vs : Tms} (h : ∀ s, cf us s = cf vs s) (ts : Tms) : sumE ts us = sumE ts vs := by
  unfold sumE
  congr 1
  exact List.map_congr_left fun q _ => by rw [h]
mutual
theorem Cd.holds_cf {us vs : Tms} (h : ∀ s, cf us s = cf vs s) : ∀ c : Cd, c.holds us = c.holds vs
  | .two k f g => by
    show cmpK k (sumE f us) (sumE g us) = cmpK k (sumE f vs) (sumE g vs)
    rw [sumE_cf h, sumE_cf h]
  | .more k l => by
    match k with
    | 0 => exact congrArg (fun b => !b) (allL_cf h l)
    | 1 => exact allL_cf h l
    | n + 2 => exact anyL_cf h l
theorem allL_cf {us vs : Tms} (h : ∀ s, cf us s = cf vs s) : ∀ l : List Cd, allL us l = allL vs l
  | [] => rfl
  | c :: r => by
    show (c.holds us && allL us r) = (c.holds vs && allL vs r)
    rw [Cd.holds_cf h c, allL_cf h r]
theorem anyL_cf {us vs : Tms} (h : ∀ s, cf us s = cf vs s) : ∀ l : List Cd, anyL us l = anyL vs l
  | [] => rfl
  | c :: r => by
    show (c.holds us || anyL us r) = (c.holds vs || anyL vs r)
    rw [Cd.holds_cf h c, anyL_cf h r]
end
theorem dp_bls {K : PySem.W.Frag} {H : Hp} : ∀ bs : List Bool, DpAll K H (bs.map V.bl) (bs.map PyData.bool)
  | [] => .nil
  | b :: r => .cons (.bl b) (dp_bls r)
theorem bls_ok {bs : List Bool} (h : bs.length = 6) : (PyData.list (bs.map PyData.bool)).showable = true ∧ (PyData.list (bs.map PyData.bool)).hasDict = false ∧ (PyData.list (bs.map PyData.bool)).depth ≤ 50 ∧ (PyData.list (bs.map PyData.bool)).shown.length ≤ sizeLine := by
  have all : ∀ b0 b1 b2 b3 b4 b5 : Bool, (PyData.list ([b0, b1, b2, b3, b4, b5].map PyData.bool)).showable = true ∧ (PyData.list ([b0, b1, b2, b3, b4, b5].map PyData.bool)).hasDict = false ∧ (PyData.list ([b0, b1, b2, b3, b4, b5].map PyData.bool)).depth ≤ 50 ∧ (PyData.list ([b0, b1, b2, b3, b4, b5].map PyData.bool)).shown.length ≤ sizeLine := by decide +kernel
  match bs, h with
  | [b0, b1, b2, b3, b4, b5], _ => exact all b0 b1 b2 b3 b4 b5
/-- a row of a table -/
structure Row (us vs : Tms) : Prop where
  ok : VOk vs
  cf : ∀ s, cf vs s = cf us s
  mem : ∀ z ∈ us.map (·.1), z ∈ vs.map (·.1)
theorem row_of {zs : List Str} {us : Tms} {L : List Ent} (t : TOk zs us) (pm : (L.map (·.2)).Perm us) (pw : L.Pairwise (fun p q => ¬ q.2.1.cps.toList < p.2.1.cps.toList)) : Row us (L.map (·.2)) := by
  have nd : ((L.map (·.2)).map (·.1)).Nodup := (pm.map (·.1)).nodup_iff.mpr t.nd
  refine ⟨⟨asc_strict ?_ nd, ?_, fun q m => (t.sy q (pm.mem_iff.mp m)).sym, fun q m => ?_, fun q m => t.pos q (pm.mem_iff.mp m), fun q m => t.lt q (pm.mem_iff.mp m)⟩, fun s => cf_perm pm t.nd s, fun z m => (pm.map (·.1)).mem_iff.mpr m⟩
  · rw [List.pairwise_map, List.pairwise_map]
    exact pw
  · have := t.len
    rw [pm.length_eq]
    omega
  · have := (t.sy q (pm.mem_iff.mp m)).len
    omega
theorem terms_nol {H H' : Hp} {t : Addr} {ts : Tms} (s : NoL H H') (h : TermsAt H t ts) : TermsAt H' t ts := by
  obtain ⟨ps, h, hp⟩ := h
  exact ⟨ps, s.tf h, hp.tups fun b z e => s _ _ (fun xs q => nomatch q) e⟩
/-- what the loop over the trees needs -/
structure LR (K : PySem.W.Frag) (H : Hp) (a p D : Addr) (zs : List Str) (cs : List Addr) (l : List Cd) : Prop where
  ha : H a = some (DrawO a)
  hp : H p = some (.lst (zs.map V.str))
  hD : H D = some (.lst (cs.map V.ref))
  na : ∀ z ∈ zs, Na z
  nd : zs.Nodup
  l1 : 1 ≤ zs.length
  l4 : zs.length ≤ 4
  ht : TreesAt K H cs l
  hg : ∀ c ∈ l, c.good zs ∧ c.depth ≤ 4
  lc : l.length = 3
section
variable {P : Program} {w : World} {K : PySem.W.Frag} {mg : Str → Option Value} {base : Heap} {Z : Cz}
variable (c__law_roll : Cal P w K mg base 1 "_law_roll" ["_law_heap_here", "_law_many"] spRoll) (c__law_pick : Cal P w K mg base 2 "_law_pick" ["_law_heap_here", "_law_things"] (spPick K)) (c__law_names : Cal P w K mg base 4 "_law_names" ["_law_heap_here", "_law_many"] spNames)
  (c__law_tree : Cal P w K mg base 7 "_law_tree" ["_law_heap_here", "_law_symbols", "_law_deep"] (spTree K 4)) (c__law_parts : Cal P w K mg base 5 "_law_parts" ["_law_tree_here"] (spLParts K 4)) (c__law_true : Cal P w K mg base 5 "_law_true" ["_law_tree_here", "_law_numbers"] (spLTrue K 4))
  (c__law_made : Cal P w K mg base 12 "_law_made" ["_law_tree_here"] (spLMade K Z 4)) (CALL : ∀ C, Kn Z C → CallD P w K mg base 7 C "self" "values" (spCall K Z))
include c__law_roll c__law_pick c__law_names c__law_tree c__law_parts c__law_true c__law_made CALL
theorem ok_law_right {f : Addr} {fd : FuncData} (F : Fun K "_law_right" "_law_right" s__law_right f fd) (T : Ta mg) : FnG P w K mg base 13 f fd ["_law_heap_here"] spRight := by
  refine okG F sc__law_right (fun vs H Q E h => ?_) (fun cdv A outer s H vs Q hr h => ?_)
  · obtain ⟨a, rfl, _⟩ := h
    rfl
  · obtain ⟨a, rfl, ha, k⟩ := h
    refine ⟨_, (pss_cons (ps_set (i := 1) sc__law_right.nd rfl (by first | exact .inl rfl | exact .inr rfl) (pe_c c__law_names hr (by decide) rfl (pa_cons (pv 0) (pa_cons (pe_op op_add pe_int (pe_c c__law_roll hr (by decide) rfl (pa_cons (pv 0) (pa_cons pe_int pa_nil)))) pa_nil))))
  (pss_cons (ps_setLc (i := 2) (own := [("_law_turn", 3)]) (g := gName 3) (tt := tYes) rfl sc__law_right.nd rfl rfl (sw_true rfl rfl rfl (by decide +kernel)) (pi_range1 rfl T.b_range (pa_cons pe_int pa_nil)) (blkOk_by (own := [("_law_turn", 3)]) (N := n__law_right) (sc := defScope s__law_right) (by decide +kernel)) (fun _ _ _ _ _ => pg_name (i := 3) sc__law_right.nd rfl (Or.inl rfl)) (fun _ _ _ _ _ => pts_nil) (fun _ _ _ _ _ => (pe_c c__law_tree hr (by decide) rfl (pa_cons (pv 0) (pa_cons (pv 1) (pa_cons (pe_op op_add pe_int (pe_c c__law_roll hr (by decide) rfl (pa_cons (pv 0) (pa_cons pe_int pa_nil)))) pa_nil))))))
  (pss_cons (ps_for PassesOwn.never rfl (pi_list (pv 2)) (pg_name (i := 4) sc__law_right.nd rfl (by first | exact .inl rfl | exact .inr rfl))
    (pss_cons (ps_mid (ps_if (pt_cmpR op_gt (pe_c c__law_parts hr (by decide) rfl (pa_cons (pv 4) pa_nil)) pe_int (nomark _))
    (pss_one (ps_set (i := 4) sc__law_right.nd rfl (by first | exact .inl rfl | exact .inr rfl) (pe_tupS (pa_cons pe_str (pa_cons (pe_tupS (pa_cons pe_str pa_nil)) pa_nil)))))
    pss_nil))
  (pss_cons (ps_asg (pe_tupS (pa_cons (pe_c c__law_made hr (by decide) rfl (pa_cons (pv 4) pa_nil)) (pa_cons (pe_lstS pa_nil) pa_nil))) (pg_tup rfl (pgs_cons (pg_name (i := 5) sc__law_right.nd rfl (by first | exact .inl rfl | exact .inr rfl)) (pgs_cons (pg_name (i := 6) sc__law_right.nd rfl (by first | exact .inl rfl | exact .inr rfl)) pgs_nil))))
  (pss_cons (ps_for PassesOwn.never rfl (pi_range1 rfl T.b_range (pa_cons pe_int pa_nil)) (pg_name (i := 3) sc__law_right.nd rfl (by first | exact .inl rfl | exact .inr rfl))
    (pss_cons (ps_set (i := 7) sc__law_right.nd rfl (by first | exact .inl rfl | exact .inr rfl) (pe_ix ix_list (pe_lstS (pa_cons (pe_lstS (pa_cons pe_int (pa_cons pe_int (pa_cons pe_int pa_nil)))) (pa_cons (pe_lstS (pa_cons pe_int (pa_cons pe_int pa_nil))) (pa_cons (pe_lstS (pa_cons pe_int (pa_cons pe_int (pa_cons (pe_op op_pow pe_int pe_int) (pa_cons (pe_op op_add (pe_op op_pow pe_int pe_int) pe_int) pa_nil))))) (pa_cons (pe_listRg rfl rfl T.b_list (prg_1 rfl T.b_range pe_int)) pa_nil))))) (pe_c c__law_roll hr (by decide) rfl (pa_cons (pv 0) (pa_cons pe_int pa_nil))) (fun _ _ => rfl)))
  (pss_cons (ps_set (i := 8) sc__law_right.nd rfl (by first | exact .inl rfl | exact .inr rfl) (pe_callTy (call_dictP (by rfl)) (by rfl) T.b_dict (by decide +kernel) (pa_cons (pe_lc (own := [("_law_name_here", 9)]) (g := gName 9) (tt := tYes) rfl sc__law_right.nd (pi_list (pv 1)) (blkOk_by (own := [("_law_name_here", 9)]) (N := n__law_right) (sc := defScope s__law_right) (by decide +kernel)) (fun _ _ _ _ _ => pg_name (i := 9) sc__law_right.nd rfl (Or.inl rfl)) (fun _ _ _ _ _ => pts_nil) (fun _ _ _ _ _ => (pe_tupS (pa_cons (pv 9) (pa_cons (pe_c c__law_pick hr (by decide) rfl (pa_cons (pv 0) (pa_cons (pv 7) pa_nil))) pa_nil))))) pa_nil)))
  (pss_cons (ps_dput (hu_of hr.rm) (pv 8) pe_str pe_int rfl)
  (pss_one (ps_expr (pe_bm PySem.F.plainAttrs_list PySem.F.slot_list_append PySem.F.type_list_append mt_append (pv 6) (pa_cons (pv 8) pa_nil))))))))
  (pss_cons (ps_setLc (i := 10) (own := [("_law_table", 8)]) (g := gName 8) (tt := tYes) rfl sc__law_right.nd rfl rfl (sw_true rfl rfl rfl (by decide +kernel)) (pi_list (pv 6)) (blkOk_by (own := [("_law_table", 8)]) (N := n__law_right) (sc := defScope s__law_right) (by decide +kernel)) (fun _ _ _ _ _ => pg_name (i := 8) sc__law_right.nd rfl (Or.inl rfl)) (fun _ _ _ _ _ => pts_nil) (fun _ _ _ _ _ => (pe_callTy (call_tupleFB (K := K) rfl) (by rfl) T.b_tuple (by decide +kernel) (pa_cons (pe_callB (call_sortItE hr (by rfl)) (by rfl) T.b_sorted (by decide +kernel) (pa_cons (pe_bm0B (K := K) rfl PySem.F.plainAttrs_dict PySem.F.slot_dict_items PySem.F.type_dict_items mt_itemsK (pv 8)) pa_nil)) pa_nil))))
  (pss_cons (ps_setLc (i := 11) (own := [("_law_table", 8)]) (g := gName 8) (tt := tYes) rfl sc__law_right.nd rfl rfl (sw_true rfl rfl rfl (by decide +kernel)) (pi_list (pv 6)) (blkOk_by (own := [("_law_table", 8)]) (N := n__law_right) (sc := defScope s__law_right) (by decide +kernel)) (fun _ _ _ _ _ => pg_name (i := 8) sc__law_right.nd rfl (Or.inl rfl)) (fun _ _ _ _ _ => pts_nil) (fun _ _ _ _ _ => (pe_c c__law_true hr (by decide) rfl (pa_cons (pv 4) (pa_cons (pv 8) pa_nil)))))
  (pss_cons (ps_if (pt_cmpR op_ne (pe_callB (call_repr hr) (by rfl) T.b_repr (by decide +kernel) (pa_cons (pe_lc (own := [("_law_row", 12)]) (g := gName 12) (tt := tYes) rfl sc__law_right.nd (pi_list (pv 10)) (blkOk_by (own := [("_law_row", 12)]) (N := n__law_right) (sc := defScope s__law_right) (by decide +kernel)) (fun _ _ _ _ _ => pg_name (i := 12) sc__law_right.nd rfl (Or.inl rfl)) (fun _ _ _ _ _ => pts_nil) (fun _ _ _ _ _ => (pe_callD (pv 5) CALL hr (by decide) (pa_cons (pv 12) pa_nil)))) pa_nil)) (pe_callB (call_repr hr) (by rfl) T.b_repr (by decide +kernel) (pa_cons (pv 11) pa_nil)) (nomark _))
    (pss_one (ps_ret pe_bl))
    pss_nil)
  (pss_one (ps_if (pt_cmpR op_ne (pe_callB (call_repr hr) (by rfl) T.b_repr (by decide +kernel) (pa_cons (pe_lc (own := [("_law_row", 12)]) (g := gName 12) (tt := tYes) rfl sc__law_right.nd (pi_list (pe_revL (pv 10))) (blkOk_by (own := [("_law_row", 12)]) (N := n__law_right) (sc := defScope s__law_right) (by decide +kernel)) (fun _ _ _ _ _ => pg_name (i := 12) sc__law_right.nd rfl (Or.inl rfl)) (fun _ _ _ _ _ => pts_nil) (fun _ _ _ _ _ => (pe_callDk (pv 5) CALL hr (by decide) (pk_cons (pv 12) pk_nil)))) pa_nil)) (pe_callB (call_repr hr) (by rfl) T.b_repr (by decide +kernel) (pa_cons (pe_revL (pv 11)) pa_nil)) (nomark _))
    (pss_one (ps_ret pe_bl))
    pss_nil)))))))))
  (pss_one (ps_ret pe_bl))))), ?_⟩
    refine ⟨_, rfl, _, rfl, a, 4, rfl, ha, (by decide), (by decide), fun r r0 r4 => ⟨_, _, rfl, rfl, a, 1 + r, rfl, ha, by omega, by omega, fun zs p H1 lz na nd s1 np hp => ?_⟩⟩
    have lz1 : 1 ≤ zs.length := by omega
    have lz4 : zs.length ≤ 4 := by omega
    have sy : ∀ z ∈ zs, SyN z := fun z m => .inl (na z m)
    refine ⟨3, rfl, by decide, by decide, fun D hD => lc_gen (walk_range (lo := 0) (n := 3)) (R := fun i y H' => ∃ q c, y = .ref q ∧ TreeAt K (Nl (upd H1 D (.lst [])) H') q c ∧ c.good zs ∧ c.depth ≤ 4) (by decide) hD
      (fun i y H H' ⟨q, c, e, t, r⟩ k2 => ⟨q, c, e, t.same (nl_mono (fun b xs e => ⟨xs, e⟩) fun b o n e => k2 b o (fun q => n [] (by rw [q]; exact upd_same)) e), r⟩) (fun _ _ => True.intro) (fun i x H3 H3' ys Q' hi s3 hDy y kq => ?_) fun H3 ys s3 d3 ly ry => ?_⟩
    · obtain ⟨rfl, rfl⟩ := y
      have ha3 := s3 _ _ (s1 _ _ ha)
      refine ⟨rfl, _, rfl, _, rfl, _, rfl, a, 4, rfl, ha3, (by decide), (by decide), fun r r0 r4 => ⟨_, _, rfl, rfl, a, p, zs, 1 + r.toNat, ?_, ha3, s3 _ _ hp, nd, sy, by omega, by omega, by omega, by decide, fun q H4 c s4 t g dp => kq (.ref q) H4 s4 ⟨q, c, rfl, t.same (nl_mono (fun b xs e => ?_) fun b o n e => e), g, by omega⟩⟩⟩
      · rw [show ((1 + r.toNat : Nat) : Int) = 1 + r by omega]
        rfl
      · by_cases hb : b = D
        · exact ⟨ys, by rw [hb]; exact hDy⟩
        · rw [upd_ne hb] at e
          exact ⟨xs, s3 _ _ e⟩
    · obtain ⟨cs, l, rfl, tl, pl⟩ := trees_of (Pc := fun c => c.good zs ∧ c.depth ≤ 4) fun y my => by
        obtain ⟨i, hi⟩ := List.mem_iff_getElem?.mp my
        obtain ⟨q, c, e, t, r⟩ := ry i y hi
        exact ⟨q, c, e, t, r⟩
      have tl3 := tl.same nl_sub
      have lr : LR K H3 a p D zs cs l := ⟨s3 _ _ (s1 _ _ ha), s3 _ _ hp, d3, na, nd, lz1, lz4, tl3, pl, by rw [← tl.len]; simpa using ly⟩
      have s13 := s1.trans s3
      clear tl ry ly
      refine ⟨_, rfl, D, rfl, ⟨_, SqL.of d3⟩, for_it walk_list (fun i σ H' => ∃ x3 x4 x5 x6 x7 x8 x9 x10 x11 x12 : Option V, σ = [some (.ref a), some (.ref p), some (.ref D), x3, x4, x5, x6, x7, x8, x9, x10, x11, x12] ∧ Same H3 H') ⟨_, _, _, _, _, _, _, _, _, _, rfl, Same.refl _⟩ (fun i σ H' _ ⟨_, _, _, _, _, _, _, _, _, _, _, s'⟩ => SqL.of (s' _ _ d3)) ?_ ?_⟩
      · rintro i x σ H4 H4' hi ⟨x3, x4, x5, x6, x7, x8, x9, x10, x11, x12, rfl, s4⟩ ⟨rfl, hx⟩
        obtain ⟨q, c, rfl, hc, tc⟩ := lr.ht.get hx
        have mc := List.mem_of_getElem? hc
        obtain ⟨gc, dc⟩ := lr.hg c mc
        refine ⟨fun σ' H' => ∃ q' c', σ' = [some (.ref a), some (.ref p), some (.ref D), x3, some (.ref q'), x5, x6, x7, x8, x9, x10, x11, x12] ∧ Same H3 H' ∧ TreeAt K H' q' c' ∧ c'.good zs ∧ c'.depth ≤ 4 ∧ c'.parts ≤ 12, ?_, ?_⟩
        · refine ⟨_, rfl, q, c, rfl, tc.same s4, dc, fun H5 s5 => ⟨_, _, rfl, rfl, _, rfl, ite2 (fun h => ?_) fun h => ⟨q, c, rfl, s4.trans s5, (tc.same s4).same s5, gc, dc, ?_⟩⟩⟩
          · refine ⟨(by show 1 ≤ sizeLine; decide), fun t1 H6 n1 s6 h1 => ⟨(by show 2 ≤ sizeLine; decide), fun t2 H7 n2 s7 h2 => ⟨t2, .more 0 [.more 2 []], rfl, ((s4.trans s5).trans s6).trans s7, ?_, ?_, (by decide), (by decide)⟩⟩⟩
            · exact .more (as := [t1]) (SqT.of h2) (.cons (.more (as := []) (SqT.of (s7 _ _ h1)) .nil (by decide) (by decide)) .nil) (by decide) (by decide)
            · exact ⟨fun _ => rfl, ⟨⟨fun e => absurd e (by decide), True.intro⟩, True.intro⟩⟩
          · have : ¬ (12 : Int) < (c.parts : Int) := fun q => h (decide_eq_true q)
            omega
        · rintro σ' H5 ⟨q', c', rfl, s5, tq, gq, dq, pq⟩
          refine ⟨_, rfl, q', c', zs, rfl, tq, gq, by have := lr.l4; omega, pq, dq, by decide, fun a2 H6 s6 ca => ?_⟩
          refine ⟨(by show 0 ≤ sizeLine; decide), fun L H7 nL s7 hL => ⟨(by show 2 ≤ sizeLine; decide), fun t H8 nt s8 ht => ⟨t, _, rfl, SqT.of ht, rfl, _, _, rfl, _, _, rfl, rfl, ?_⟩⟩⟩
          have hL8 := s8 _ _ hL
          have nL' : H6 L = none := nL
          have s68 := s7.trans s8
          have ha6 := s6 _ _ (s5 _ _ lr.ha)
          have hp6 := s6 _ _ (s5 _ _ lr.hp)
          refine ⟨6, rfl, by decide, by decide, for_it (walk_range (lo := 0) (n := 6)) (fun i σ H' => ∃ (y3 y7 y8 y9 : Option V) (ds : List Addr) (uss : List Tms), σ = [some (.ref a), some (.ref p), some (.ref D), y3, some (.ref q'), some (.ref a2), some (.ref L), y7, y8, y9, x10, x11, x12] ∧ Same H6 H' ∧ H' L = some (.lst (ds.map V.ref)) ∧ Paired (fun d us => H' d = some (.dK (us.map entK)) ∧ TOk zs us) ds uss ∧ uss.length = i)
            ⟨_, _, _, _, [], [], rfl, s68, hL8, .nil, rfl⟩ (fun _ _ _ _ _ => True.intro) ?_ ?_⟩
          · rintro j y σ H9 H9' hj ⟨y3, y7, y8, y9, ds, uss, rfl, s9, hL9, prs, ul⟩ ⟨rfl, rfl⟩
            have ha9 := s9 _ _ ha6
            refine ⟨(by show 3 ≤ sizeLine; decide), fun g1 K1 m1 t1 e1 => ⟨(by show 2 ≤ sizeLine; decide), fun g2 K2 m2 t2 e2 => ⟨_, _, rfl, rfl, ⟨by decide, by decide, by decide⟩, _, _, rfl, rfl, ⟨by decide, by decide, by decide⟩, _, _, rfl, rfl, (by show 4 ≤ sizeLine; decide), fun g3 K3 m3 t3 e3 => ⟨40, rfl, RgOk.of_le (by decide) (by decide) (by decide) (by decide), fun g4 m4 => ?_⟩⟩⟩⟩
            have e4 : upd K3 g4 (.lst (rgV 0 40)) g4 = some (.lst (rgV 0 40)) := upd_same
            have t4 : Same K3 (upd K3 g4 (.lst (rgV 0 40))) := Same.new m4
            generalize upd K3 g4 (.lst (rgV 0 40)) = K4 at e4 t4 ⊢
            refine ⟨(by show 4 ≤ sizeLine; decide), fun g5 K5 m5 t5 e5 => ?_⟩
            have t05 := (((t1.trans t2).trans t3).trans t4).trans t5
            refine ⟨_, rfl, a, 4, rfl, t05 _ _ ha9, (by decide), (by decide), fun r2 q0 q4 => ?_⟩
            obtain ⟨mn, fs, hat, hmn, fne, fl, fok⟩ : ∃ (mn : Addr) (fs : List Int), atI [V.ref g1, .ref g2, .ref g3, .ref g4] r2 = some (V.ref mn) ∧ K5 mn = some (.lst (fs.map V.int)) ∧ fs ≠ [] ∧ fs.length ≤ 1000 ∧ ∀ f ∈ fs, 0 ≤ f ∧ f.natAbs < 2 ^ 110 := by
              have : r2 = 0 ∨ r2 = 1 ∨ r2 = 2 ∨ r2 = 3 := by omega
              rcases this with rfl | rfl | rfl | rfl
              · exact ⟨g1, [0, 1, 2], rfl, (((t2.trans t3).trans t4).trans t5) _ _ e1, by decide, by decide, by decide +kernel⟩
              · exact ⟨g2, [0, 1], rfl, ((t3.trans t4).trans t5) _ _ e2, by decide, by decide, by decide +kernel⟩
              · exact ⟨g3, [3, 99, 10 ^ 30, 10 ^ 30 + 1], rfl, (t4.trans t5) _ _ e3, by decide, by decide, by decide +kernel⟩
              · refine ⟨g4, (List.range 40).map fun i : Nat => (i : Int), rfl, ?_, by decide, by decide, by decide +kernel⟩
                rw [t5 _ _ e4]
                rfl
            refine ⟨g5, _, r2, _, rfl, rfl, SqL.of e5, hat, ?_⟩
            have t95 := s9.trans t05
            refine ⟨_, rfl, p, rfl, ⟨_, SqL.of (t95 _ _ hp6)⟩, fun D5 hD5 => lc_gen (walk_list (K := K) (a := p) (xs := zs.map V.str)) (R := fun i y H' => ∃ t z v, y = .ref t ∧ t ≠ D5 ∧ zs[i]? = some z ∧ H' t = some (.tup [.str z, .int v]) ∧ 0 ≤ v ∧ v.natAbs < 2 ^ 110) (by rw [List.length_map]; have := lr.l4; omega) hD5
              (fun i y H H' ⟨t, z, v, e, n, hz, h, r⟩ k2 => ⟨t, z, v, e, n, hz, k2 _ _ n h, r⟩) (fun H' s' => SqL.of (s' _ _ (t95 _ _ hp6))) (fun i x K6 K6' ys Q' hi t6 hDy y kq => ?_) fun K6 ys t6 d6 ly ry => ?_⟩
            · obtain ⟨rfl, hx⟩ := y
              rw [List.getElem?_map] at hx
              obtain ⟨z, hz, rfl⟩ := Option.map_eq_some_iff.mp hx
              refine ⟨rfl, _, rfl, _, rfl, _, rfl, a, .ref mn, _, rfl, t6 _ _ (t05 _ _ ha9), Pick.lst (SqL.of (t6 _ _ hmn)) (by simpa using fne) (by simpa using fl), fun v hv => ?_⟩
              obtain ⟨f, hf, rfl⟩ := List.mem_map.mp hv
              refine ⟨(by show 2 ≤ sizeLine; decide), fun t K7 nt t7 et => kq (.ref t) K7 t7 ⟨t, z, f, rfl, fun e => ?_, hz, et, (fok f hf).1, (fok f hf).2⟩⟩
              rw [e, hDy] at nt
              cases nt
            · rw [List.length_map] at ly
              obtain ⟨ps, us0, rfl, eus, prs0, ok0⟩ := rows_of ly ry
              have nd0 : (us0.map (·.1)).Nodup := by
                rw [eus]
                exact lr.nd
              refine ⟨D5, ps, us0.map entK, rfl, SqL.of d6, pairs_ent prs0, fun d nd => ?_⟩
              rw [show mergeK [] (us0.map entK) = us0.map entK from merge_app us0 [] nd0]
              have edd : upd K6 d (.dK (us0.map entK)) d = some (.dK (us0.map entK)) := upd_same
              have tdd : Same K6 (upd K6 d (.dK (us0.map entK))) := Same.new nd
              generalize upd K6 d (.dK (us0.map entK)) = K7 at edd tdd ⊢
              have t97 := (t05.trans t6).trans tdd
              have hL7 := t97 _ _ hL9
              have nLd : L ≠ d := fun e => by
                rw [e, edd] at hL7
                cases hL7
              have lus0 : us0.length = zs.length := by rw [← eus, List.length_map]
              have h4 := lr.l4
              refine ⟨_, rfl, d, _, rfl, DPut.k (k := Sum.inr "@") edd (by rw [List.length_map, lus0]; exact Nat.lt_of_le_of_lt h4 (by decide)), ?_⟩
              rw [put_ent]
              have hL8' : upd K7 d (.dK ((putE us0 "@" 5).map entK)) L = some (.lst (ds.map V.ref)) := by
                rw [upd_ne nLd]
                exact hL7
              have ldl : ds.length = j := (prd_len prs).trans ul
              refine ⟨_, rfl, .inl ⟨rfl, _, SqL.of hL8'⟩, _, rfl, L, _, _, rfl, rfl, hL8', ?_, ?_⟩
              · rw [List.length_map, ldl]
                exact Nat.lt_of_lt_of_le hj (by decide)
              have n6d : H6 d = none := by
                cases q : H6 d with
                | none => rfl
                | some o => rw [((s9.trans t05).trans t6) _ _ q] at nd; cases nd
              refine ⟨_, _, _, _, ds ++ [d], uss ++ [putE us0 "@" 5], rfl, same_upd nL' (same_upd n6d ((s9.trans t97))), ?_, ?_, ?_⟩
              · rw [upd_same, List.map_append]
                rfl
              · refine prd_snoc ⟨?_, ?_⟩ (prd_imp (fun b us hb => ⟨?_, hb.2⟩) prs)
                · rw [upd_ne (Ne.symm nLd)]
                  exact upd_same
                · refine ⟨put_nodup nd0 _ _, fun z hz => ?_, ?_, fun q m => ?_, fun q m => ?_, fun q m => ?_⟩
                  · rw [put_keys, eus]
                    split
                    · exact hz
                    · exact List.mem_append_left _ hz
                  · have := put_len us0 "@" 5
                    omega
                  · rcases putE_mem m with m | rfl
                    · exact .inl (lr.na _ (by rw [← eus]; exact List.mem_map_of_mem m))
                    · exact .inr rfl
                  · rcases putE_mem m with m | rfl
                    · exact (ok0 _ m).1
                    · show (0 : Int) ≤ 5
                      decide
                  · rcases putE_mem m with m | rfl
                    · exact (ok0 _ m).2
                    · show (5 : Int).natAbs < 2 ^ 110
                      decide +kernel
                · have hb7 := t97 _ _ hb.1
                  rw [upd_ne (fun e => by rw [e, hL7] at hb7; cases hb7), upd_ne (fun e => by
                    have := (t05.trans t6) _ _ hb.1
                    rw [e, nd] at this
                    cases this)]
                  exact hb7
              · rw [List.length_append, ul]
                rfl
          · rintro σ H9 ⟨y3, y7, y8, y9, ds, uss, rfl, s9, hL9, prs, ul⟩
            have ldl : ds.length = 6 := (prd_len prs).trans ul
            refine ⟨_, rfl, L, rfl, ⟨_, SqL.of hL9⟩, fun D6 hD6 => lc_gen (walk_list (K := K) (a := L) (xs := ds.map V.ref)) (R := fun i y H' => ∃ t us vs, y = .ref t ∧ uss[i]? = some us ∧ TermsAt (Nl (upd H9 D6 (.lst [])) H') t vs ∧ Row us vs ∧ TOk zs us) (by rw [List.length_map, ldl]; decide) hD6
              (fun i y H H' ⟨t, us, vs, e, hu, ht, r⟩ k2 => ⟨t, us, vs, e, hu, ht.same (nl_mono (fun b xs e => ⟨xs, e⟩) fun b o n e => k2 b o (fun q => n [] (by rw [q]; exact upd_same)) e), r⟩) (fun H' s' => SqL.of (s' _ _ hL9)) (fun i x H10 H10' ys Q' hi s10 hDy y kq => ?_) fun H10 rows s10 d10 lr10 rr10 => ?_⟩
            · obtain ⟨rfl, hx⟩ := y
              obtain ⟨d, us, rfl, hu, hd, tok⟩ := prd_get prs hx
              have hd10 := s10 _ _ hd
              refine ⟨rfl, _, rfl, .inr (.inr (.inl ⟨rfl, .inl ⟨_, hd10⟩⟩)), d, _, rfl, rfl, hd10, fun pv nv => ?_⟩
              have sv : Same H10' (upd H10' pv (L2.DX.itemsO pv d)) := Same.new nv
              refine ⟨pv, d, us, rfl, upd_same, sv _ _ hd10, by have := tok.len; omega, fun H11 l Lx s11 nl pm pw hl hb => ⟨l, _, rfl, SqL.of hl, fun t H12 nt s12 tf => ?_⟩⟩
              have s1012 := (sv.trans s11).trans s12
              refine kq (.ref t) H12 s1012 ⟨t, us, Lx.map (·.2), rfl, hu, terms_nol (fun e o no h => nl_of h fun xs hB => ?_) ⟨Lx.map (·.1), ?_, (ents_prs hb).same s12⟩, row_of tok pm pw, tok⟩
              · by_cases he : e = D6
                · have := s1012 _ _ hDy
                  rw [← he, h] at this
                  exact no _ (Option.some.inj this)
                · rw [upd_ne he] at hB
                  have := s1012 _ _ (s10 _ _ hB)
                  rw [h] at this
                  exact no _ (Option.some.inj this)
              · rw [List.map_map]
                exact tf
            · rw [List.length_map, ldl] at lr10
              obtain ⟨bs, hbs⟩ : ∃ bs : List Bool, bs = uss.map fun us => c'.holds us := ⟨_, rfl⟩
              have lbs : bs.length = 6 := by rw [hbs, List.length_map, ul]
              have s510 := (s6.trans s9).trans s10
              refine ⟨_, rfl, L, rfl, ⟨_, SqL.of (s10 _ _ hL9)⟩, fun D7 hD7 => lc_fn (walk_list (K := K) (a := L) (xs := ds.map V.ref)) (fun i => .bl (bs.getD i false)) (by rw [List.length_map, ldl]; decide) hD7 (fun H' s' => SqL.of (s' _ _ (s10 _ _ hL9))) (fun i x H11 H11' Q' hi s11 y kq => ?_) fun H11 s11 d11 => ?_⟩
              · obtain ⟨rfl, hx⟩ := y
                obtain ⟨d, us, rfl, hu, hd, tok⟩ := prd_get prs hx
                refine ⟨rfl, _, rfl, _, rfl, q', d, c', us, zs, rfl, tq.same (s510.trans s11), gq, by have := lr.l4; omega, dq, s11 _ _ (s10 _ _ hd), cf_small tok.lt, fun z m => tok.has z (Cd.good_syms gq z m), fun H' s' => ?_⟩
                have := kq H' s'
                rwa [show bs.getD i false = c'.holds us by rw [hbs, List.getD_eq_getElem?_getD, List.getElem?_map, hu]; rfl] at this
              · rw [show (ds.map V.ref).length = bs.length by rw [List.length_map, ldl, lbs], range_getD (l := bs) (g := V.bl) false (fun i _ => rfl)] at d11
                obtain ⟨ok1, ok2, ok3, ok4⟩ := bls_ok lbs
                have d10' := s11 _ _ d10
                have ca11 := ca.same ((s9.trans s10).trans s11)
                have row : ∀ {i : Nat} {x : V}, rows[i]? = some x → ∃ t us vs, x = .ref t ∧ uss[i]? = some us ∧ TermsAt H11 t vs ∧ Row us vs ∧ TOk zs us := fun {i x} hx => by
                  obtain ⟨t, us, vs, e, hu, ht, r⟩ := rr10 i x hx
                  exact ⟨t, us, vs, e, hu, (ht.same nl_sub).same s11, r⟩
                refine ⟨_, rfl, D6, rfl, ⟨_, SqL.of d10'⟩, fun D8 hD8 => lc_fn (walk_list (K := K) (a := D6) (xs := rows)) (fun i => .bl (bs.getD i false)) (by rw [lr10]; decide) hD8 (fun H' s' => SqL.of (s' _ _ d10')) (fun i x H12 H12' Q' hi s12 y kq => ?_) fun H12 s12 d12 => ?_⟩
                · obtain ⟨rfl, hx⟩ := y
                  obtain ⟨t, us, vs, rfl, hu, ht, rw1, tok⟩ := row hx
                  have ca12 := ca11.same s12
                  obtain ⟨dx', p', q2, r', zs', ha', kn', _⟩ := ca12.ins
                  refine ⟨rfl, _, rfl, a2, rfl, _, rfl, _, dx', _, ha', kn', a2, t, c', vs, rfl, ca12, pq, dq, ht.same s12, rw1.ok, fun z m => rw1.mem z (tok.has z (Cd.good_syms gq z m)), fun H' s' => ?_⟩
                  have := kq H' s'
                  rwa [show bs.getD i false = c'.holds vs by rw [Cd.holds_cf rw1.cf c', hbs, List.getD_eq_getElem?_getD, List.getElem?_map, hu]; rfl] at this
                · rw [show rows.length = bs.length by rw [lr10, lbs], range_getD (l := bs) (g := V.bl) false (fun i _ => rfl)] at d12
                  refine ⟨D8, _, rfl, .lst (SqL.of d12) (dp_bls bs), ok1, ok2, ok3, ok4, _, rfl, D7, _, rfl, .lst (SqL.of (s12 _ _ d11)) (dp_bls bs), ok1, ok2, ok3, ok4, rfl, _, rfl, ite2 (fun h => absurd h (by simp)) fun _ => ?_⟩
                  have d10'' := s12 _ _ d10'
                  have lrev : bs.reverse.length = 6 := by rw [List.length_reverse, lbs]
                  obtain ⟨ok5, ok6, ok7, ok8⟩ := bls_ok lrev
                  refine ⟨_, rfl, D6, _, rfl, SqL.of d10'', fun R1 nR => ?_⟩
                  have eR : upd H12 R1 (.lst rows.reverse) R1 = some (.lst rows.reverse) := upd_same
                  have sR : Same H12 (upd H12 R1 (.lst rows.reverse)) := Same.new nR
                  generalize upd H12 R1 (.lst rows.reverse) = H13 at eR sR ⊢
                  refine ⟨R1, rfl, ⟨_, SqL.of eR⟩, fun D9 hD9 => lc_fn (walk_list (K := K) (a := R1) (xs := rows.reverse)) (fun i => .bl (bs.reverse.getD i false)) (by rw [List.length_reverse, lr10]; decide) hD9 (fun H' s' => SqL.of (s' _ _ eR)) (fun i x H14 H14' Q' hi s14 y kq => ?_) fun H14 s14 d14 => ?_⟩
                  · obtain ⟨rfl, hx⟩ := y
                    have hi6 : i < 6 := by rw [List.length_reverse, lr10] at hi; exact hi
                    have hx' : rows[5 - i]? = some x := by
                      rw [List.getElem?_reverse (by omega), lr10] at hx
                      exact hx
                    obtain ⟨t, us, vs, rfl, hu, ht, rw1, tok⟩ := row hx'
                    have ss := (s12.trans sR).trans s14
                    have ca12 := ca11.same ss
                    obtain ⟨dx', p', q2, r', zs', ha', kn', _⟩ := ca12.ins
                    refine ⟨rfl, _, rfl, a2, rfl, _, rfl, _, dx', _, ha', kn', a2, t, c', vs, rfl, ca12, pq, dq, ht.same ss, rw1.ok, fun z m => rw1.mem z (tok.has z (Cd.good_syms gq z m)), fun H' s' => ?_⟩
                    have := kq H' s'
                    have e : bs.reverse.getD i false = c'.holds vs := by
                      rw [List.getD_eq_getElem?_getD, List.getElem?_reverse (by omega), lbs, hbs, List.getElem?_map, hu, Cd.holds_cf rw1.cf c']
                      rfl
                    rwa [e] at this
                  · rw [show rows.reverse.length = bs.reverse.length by rw [List.length_reverse, List.length_reverse, lr10, lbs], range_getD (l := bs.reverse) (g := V.bl) false (fun i _ => rfl)] at d14
                    have d11' := s14 _ _ (sR _ _ (s12 _ _ d11))
                    refine ⟨D9, _, rfl, .lst (SqL.of d14) (dp_bls bs.reverse), ok5, ok6, ok7, ok8, _, rfl, D7, _, rfl, SqL.of d11', fun R2 nR2 => ⟨R2, _, rfl, .lst (xs := bs.reverse.map V.bl) ?_ (dp_bls bs.reverse), ok5, ok6, ok7, ok8, rfl, _, rfl, ite2 (fun h => absurd h (by simp)) fun _ => ?_⟩⟩
                    · rw [List.map_reverse]
                      exact SqL.of upd_same
                    · have s3e := ((((s5.trans s510).trans s11).trans s12).trans sR).trans s14
                      exact ⟨_, _, _, _, _, _, _, _, _, _, rfl, s3e.trans (Same.new nR2)⟩
      · rintro σ H4 ⟨x3, x4, x5, x6, x7, x8, x9, x10, x11, x12, rfl, s4⟩
        exact k _ (s13.trans s4)
end
end Lw

/-! ## CdK -/
set_option maxHeartbeats 1000000
namespace Lw
open PySem PySem.Spec PyProof.Rows L2
open Fm (cf Asc Nm)
abbrev s__law_by_hand : Stmt := topS 66
abbrev n__law_by_hand : List Str := ["_law_one", "_law_two", "_law_row", "_law_told"]
theorem sc__law_by_hand : FnScope n__law_by_hand [] (defScope s__law_by_hand) := ⟨rfl, rfl, rfl, by decide +kernel, rfl, by decide +kernel, by decide +kernel⟩
/-- C(k = e, ..), the __init__ of plain parameters -/
structure MkG (P : Program) (w : World) (K : PySem.W.Frag) (mg : Str → Option Value) (base : Heap) (k : Nat) (x : Str) (C : Addr) (ps ks : List Str) (sp : Sp) : Prop where
  ex : ∃ (f : Addr) (fd : FuncData), Mk K C f ∧ FnG P w K mg base k f fd ps sp ∧ mg x = some (.ref C) ∧ ∀ (u : Value) (us : List Value), us.length = ks.length → bindArgs fd ⟨[u], ks.zip us⟩ = pure (ps.zip (u :: us))
section
variable {X : Cx} {k j : Nat} {C : Addr} {sp : Sp} {x : Str} {ps ks : List Str} {kws : List Keyword} {tk : TA} {p pos : Pos}
theorem pe_makeGk (M : MkG X.prog X.w X.K X.mg X.base k x C ps ks sp) (hr : RoomG j X.A) (hk : k + 1 ≤ j) (hg : Gl X x) (hkw : PK X kws tk)
    (hall : (backToKw pos (keywordEach kws X.env)).all (·.1.isSome) = true := by rfl) (hks : (backToKw pos (keywordEach kws X.env)).filterMap (·.1) = ks := by rfl) (hps : ps.length = ks.length + 1 := by rfl) (hdb : (x == ("__debug__" : Str)) = false := by decide)
    (hpl : ((backTo pos (starEach [] X.env)).any (·.1) || (backToKw pos (keywordEach kws X.env)).any (·.1.isNone)) = false := by rfl) : PE X (.Call (.Name x p) [] kws pos) (tMakeP C sp tk) := by
  obtain ⟨f, fd, M, F, hm, hb⟩ := M.ex
  refine ⟨fun pins s σ H Q I h => ?_⟩
  refine wpAny_Call_Name_kw (ld_glob I hg hm ?_ hdb)
  refine PySem.W.callWith_KW0 (first := []) (h₀ := X.base) I.ok.mod.kin M.kp hall (thn (hkw.run pos pins s σ H _ I h) fun us s1 ⟨vs, H1, I1, r, q⟩ => ⟨I1.kIn, ?_⟩) hpl
  rw [hks]
  have hq := q (s1.heap.objs.size + 1) s1.heap.objs.size (I1.hok.fresh (Nat.le_succ _)) (I1.hok.fresh (Nat.le_refl _)) (Nat.ne_of_lt (Nat.lt_succ_self _))
  have I2 := Inv.made (C := C) I1
  have lu : us.length = ks.length := by
    have e1 := F.len _ _ _ _ hq
    have e2 := r.length
    simp only [List.length_cons] at e1
    omega
  refine wpAny_call (make_map (f := f) I1.kIn M.makes M.init (beq_iff_eq.mp M.fn) (codeAny_mono (F.run _ X.stack _ _ _ (Value.ref (s1.heap.objs.size + 1) :: us) _ _ ((hr.mono hk).make C [] (ks.zip us)) (I2.env0.make C [] (ks.zip us)) (.of_eq (hb _ us lu)) (show Vals (V.ref (s1.heap.objs.size + 1) :: vs) (Value.ref (s1.heap.objs.size + 1) :: us) from .cons rfl r) hq) fun r s' hq' => ?_))
  cases r with
  | error e => exact False.elim hq'
  | ok fl =>
    cases fl with
    | ret u =>
      obtain ⟨v, H', I3, rv, ev, q3⟩ := I2.after hq'
      subst ev
      exact ⟨rv, ⟨V.ref (s1.heap.objs.size + 1), H', I3, rfl, q3⟩⟩
    | next => exact False.elim hq'
    | brk => exact False.elim hq'
    | cont => exact False.elim hq'
/-- (x, ..), of which the object is known -/
def tTupFS (t : TA) : TE := fun σ H Q => t σ H fun xs H1 => xs.length ≤ sizeLine ∧ ∀ p H', H1 p = none → Same H1 H' → TupF H' p xs → Q (.ref p) H'
theorem pe_tupFS {es : List Expr} {t : TA} {x1} (h : PA X es t) : PE X (.Tuple es x1 pos) (tTupFS t) := ⟨fun pins s σ H Q I hq => wpAny_Tuple_spliced (thn (h.run pos pins s σ H _ I hq) fun us s1 ⟨xs, H1, I1, r, z, q⟩ => by
  have hf : H1 s1.heap.objs.size = none := I1.hok.fresh (Nat.le_refl _)
  have I2 : Inv X pins σ (upd H1 s1.heap.objs.size (.frz { cls := .type "tuple", data := .seq us.toArray } (.tup xs))) { s1 with heap := s1.heap.push { cls := .type "tuple", data := .seq us.toArray } } :=
    I1.laid (t' := s1.toks) (fun b o e => Heap.get?_push_of_some _ e) (Nat.le_refl _) (show ObjOk X.prog X.w _ _ _ (.frz _ (.tup xs)) from ⟨Heap.get?_push_size _ rfl, z, us, r, IsTup.new _ _⟩)
  exact ⟨by rw [← r.length]; exact z, .ref s1.heap.objs.size, _, I2, rfl, q _ _ hf (Same.new hf) ⟨_, rfl, upd_same⟩⟩)⟩
end
/-- by keywords -/
structure MkK2 (P : Program) (w : World) (K : PySem.W.Frag) (mg : Str → Option Value) (base : Heap) (Z : Cz) : Prop where
  same : MkG P w K mg base 3 "Same" (Z.two 2) ["self", "first", "second"] ["first", "second"] (spTwo K Z 2)
  not_ : MkG P w K mg base 3 "Not" (Z.more 0) ["self", "condition"] ["condition"] (spNot K Z)
section
variable {K : PySem.W.Frag} {Z : Cz} {H H1 : Hp} {Q : VK}
theorem use_new1 {C : Addr} {z : Str} {n : Int} (hn : n ≠ 0) (fin : ∀ a H', Same H1 H' → FormAt C H' a [(z, n)] → Q (.ref a) H') :
    ∃ ns : List Int, [V.int n] = ns.map V.int ∧ ns.length = [z].length ∧ ∀ x dx, H1 x = none → H1 dx = none → dx ≠ x → spNewK C [z] (.ref x) ns (upd (upd H1 dx (.own x)) x (.ins C dx [])) (fun v H2 => v = .non ∧ Q (.ref x) H2) := by
  refine ⟨[n], rfl, rfl, fun x dx hx hdx _ => ⟨x, dx, rfl, upd_same, rfl, fun H' ts off fa nm hc _ => ⟨rfl, fin x H' (off_new hx (same_new2 (C := C) hx hdx) off) ?_⟩⟩⟩
  have nm2 : Nm [(z, n)] := ⟨(⟨(fun q m => nomatch m), True.intro⟩ : Asc [(z, n)]), fun q m => by
    rw [List.mem_singleton.mp m]
    exact hn⟩
  have e : ts = [(z, n)] := Fm.nm_ext nm nm2 hc
  rw [← e]
  exact fa
theorem use_call {a p : Addr} {c : Cd} {us : Tms} (ca : CondAt K Z H a c) (h12 : c.parts ≤ 12) (h4 : c.depth ≤ 4) (hv : TermsAt H p us) (ok : VOk us) (mem : ∀ z ∈ c.syms, z ∈ us.map (·.1)) (fin : ∀ H', Same H H' → Q (.bl (c.holds us)) H') :
    ∃ C dx fs, H a = some (.ins C dx fs) ∧ Kn Z C ∧ spCall K Z [.ref a, .ref p] H Q E0 := by
  obtain ⟨dx, p', q2, r', zs', ha', kn', _⟩ := ca.ins
  exact ⟨_, dx, _, ha', kn', a, p, c, us, rfl, ca, h12, h4, hv, ok, mem, fin⟩
end
section
variable {K : PySem.W.Frag} {Z : Cz} {H1 : Hp} {R : Addr → Hp → Prop}
theorem use_new1R {C : Addr} {z : Str} {n : Int} (hn : n ≠ 0) (fin : ∀ a H', Same H1 H' → FormAt C H' a [(z, n)] → R a H') :
    ∃ ns : List Int, [V.int n] = ns.map V.int ∧ ns.length = [z].length ∧ ∀ x dx, H1 x = none → H1 dx = none → dx ≠ x → spNewK C [z] (.ref x) ns (upd (upd H1 dx (.own x)) x (.ins C dx [])) (fun v H2 => v = .non ∧ R x H2) := by
  refine ⟨[n], rfl, rfl, fun x dx hx hdx _ => ⟨x, dx, rfl, upd_same, rfl, fun H' ts off fa nm hc _ => ⟨rfl, fin x H' (off_new hx (same_new2 (C := C) hx hdx) off) ?_⟩⟩⟩
  have nm2 : Nm [(z, n)] := ⟨(⟨(fun q m => nomatch m), True.intro⟩ : Asc [(z, n)]), fun q m => by
    rw [List.mem_singleton.mp m]
    exact hn⟩
  have e : ts = [(z, n)] := Fm.nm_ext nm nm2 hc
  rw [← e]
  exact fa
theorem use_twoR {f g : Addr} {k : Nat} {ts us : Tms} (hf : FormAt Z.form H1 f ts) (hg : FormAt Z.form H1 g us) (bf : Bd 30 200 ts) (bg : Bd 30 200 us) (fin : ∀ a H', Same H1 H' → CondAt K Z H' a (.two k ts us) → R a H') :
    ∀ x dx, H1 x = Option.none → H1 dx = Option.none → dx ≠ x → spTwo K Z k [.ref x, .ref f, .ref g] (upd (upd H1 dx (.own x)) x (.ins (Z.two k) dx [])) (fun v H2 => v = .non ∧ R x H2) E0 := fun x dx hx hdx _ =>
  have s := same_new2 (C := Z.two k) hx hdx
  ⟨x, dx, f, g, ts, us, rfl, upd_same, hf.same s, hg.same s, bf, bg, fun H' o hc => ⟨rfl, fin x H' (off_new hx s o) hc⟩⟩
theorem use_notR {a : Addr} {c : Cd} {Wd : List Str} (ha : CondAt K Z H1 a c) (h12 : 1 + c.parts ≤ 12) (h4 : 1 + c.depth ≤ 4) (hW : Wd.length ≤ 60) (hs : ∀ z ∈ c.syms, z ∈ Wd) (fin : ∀ a H', Same H1 H' → CondAt K Z H' a (.more 0 [c]) → R a H') :
    ∀ x dx, H1 x = Option.none → H1 dx = Option.none → dx ≠ x → spNot K Z [.ref x, .ref a] (upd (upd H1 dx (.own x)) x (.ins (Z.more 0) dx [])) (fun v H2 => v = .non ∧ R x H2) E0 := fun x dx hx hdx _ =>
  have s := same_new2 (C := Z.more 0) hx hdx
  ⟨x, dx, a, c, Wd, rfl, upd_same, ha.same s, h12, h4, hW, hs, fun H' o hc => ⟨rfl, fin x H' (off_new hx s o) hc⟩⟩
theorem use_many0R {k : Nat} (fin : ∀ a H', Same H1 H' → CondAt K Z H' a (.more k []) → R a H') :
    ∀ x dx, H1 x = Option.none → H1 dx = Option.none → dx ≠ x → spMk K Z k [V.ref x] (upd (upd H1 dx (.own x)) x (.ins (Z.more k) dx [])) (fun v H2 => v = .non ∧ R x H2) E0 := fun x dx hx hdx _ => by
  have s := same_new2 (C := Z.more k) hx hdx
  refine ⟨[.ref x], [], rfl, rfl, Nat.zero_le _, fun p hp => ?_⟩
  have s2 := s.trans (Same.new hp (o := .tup []))
  have hx2 : upd (upd (upd H1 dx (.own x)) x (.ins (Z.more k) dx [])) p (.tup []) x = some (.ins (Z.more k) dx []) := by
    rw [upd_ne fun e => by rw [← e, upd_same] at hp; cases hp]
    exact upd_same
  exact ⟨x, dx, p, [], [], [], rfl, hx2, SqT.of upd_same, .nil, by decide, by decide, by decide, (fun z h => nomatch h), fun H' o hc => ⟨rfl, fin x H' (off_new hx s2 o) hc⟩⟩
end
def rowH : Tms := [("a", 1), ("b", 2)]
theorem rowH_ok : VOk rowH := ⟨by decide +kernel, by decide, by decide +kernel, by decide +kernel, by decide +kernel, by decide +kernel⟩
theorem row0_ok : VOk [] := ⟨.nil, by decide, nofun, nofun, nofun, nofun⟩
def dueH : List Bool := [false, true, true, false, true, true, false, true, true, false]
theorem dueH_ok : (PyData.list (dueH.map PyData.bool)).showable = true ∧ (PyData.list (dueH.map PyData.bool)).hasDict = false ∧ (PyData.list (dueH.map PyData.bool)).depth ≤ 50 ∧ (PyData.list (dueH.map PyData.bool)).shown.length ≤ sizeLine := by decide +kernel
def spHand : Sp := fun vs H Q _ => vs = [] ∧ ∀ H', Same H H' → Q (.bl true) H'
section
variable {P : Program} {w : World} {K : PySem.W.Frag} {mg : Str → Option Value} {base : Heap} {Z : Cz}
theorem ok_law_by_hand {f : Addr} {fd : FuncData} (F : Fun K "_law_by_hand" "_law_by_hand" s__law_by_hand f fd) (T : Ta mg) (MK : MkC P w K mg base Z) (MK2 : MkK2 P w K mg base Z) (CALL : ∀ C, Kn Z C → CallD P w K mg base 7 C "self" "values" (spCall K Z))
    (M_new_a : MkK P w K mg base 3 "Form" Z.form ["a"] (spNewK Z.form ["a"])) (M_new_b : MkK P w K mg base 3 "Form" Z.form ["b"] (spNewK Z.form ["b"])) : FnG P w K mg base 13 f fd [] spHand := by
  refine okG F sc__law_by_hand (fun vs H Q E h => ?_) (fun cdv A outer s H vs Q hr h => ?_)
  · obtain ⟨rfl, _⟩ := h
    rfl
  · obtain ⟨rfl, k⟩ := h
    refine ⟨_, (pss_cons (ps_par3 (i := 0) (j := 1) (l := 2) (by rfl) sc__law_by_hand.nd rfl rfl rfl (by decide) (by decide) (by decide) rfl rfl rfl (pa_cons (pe_newk M_new_a hr (by decide) rfl (pk_cons pe_int pk_nil)) (pa_cons (pe_newk M_new_b hr (by decide) rfl (pk_cons pe_int pk_nil)) (pa_cons (pe_tupFS (pa_cons (pe_tupS (pa_cons pe_str (pa_cons pe_int pa_nil))) (pa_cons (pe_tupS (pa_cons pe_str (pa_cons pe_int pa_nil))) pa_nil))) pa_nil))) (by rfl))
  (pss_cons (ps_set (i := 3) sc__law_by_hand.nd rfl (by first | exact .inl rfl | exact .inr rfl) (pe_lstS (pa_cons (pe_callD (pe_makeP MK.below hr (by decide) rfl (pa_cons (pv 0) (pa_cons (pv 1) pa_nil))) CALL hr (by decide) (pa_cons (pv 2) pa_nil)) (pa_cons (pe_callD (pe_makeP MK.upto hr (by decide) rfl (pa_cons (pv 0) (pa_cons (pv 1) pa_nil))) CALL hr (by decide) (pa_cons (pv 2) pa_nil)) (pa_cons (pe_callD (pe_makeP MK.same hr (by decide) rfl (pa_cons (pv 0) (pa_cons (pv 1) pa_nil))) CALL hr (by decide) (pa_cons (pv 2) pa_nil)) (pa_cons (pe_callD (pe_makeP MK.below hr (by decide) rfl (pa_cons (pv 0) (pa_cons (pv 0) pa_nil))) CALL hr (by decide) (pa_cons (pv 2) pa_nil)) pa_nil))))))
  (pss_cons (ps_set (i := 3) sc__law_by_hand.nd rfl (by first | exact .inl rfl | exact .inr rfl) (pe_op op_catS (pv 3) (pe_lstS (pa_cons (pe_callD (pe_makeP MK.upto hr (by decide) rfl (pa_cons (pv 0) (pa_cons (pv 0) pa_nil))) CALL hr (by decide) (pa_cons (pv 2) pa_nil)) (pa_cons (pe_callD (pe_makeP0 MK.all hr (by decide) rfl) CALL hr (by decide) (pa_cons pe_tup0F pa_nil)) (pa_cons (pe_callD (pe_makeP0 MK.any hr (by decide) rfl) CALL hr (by decide) (pa_cons pe_tup0F pa_nil)) (pa_cons (pe_callD (pe_makeP MK.not_ hr (by decide) rfl (pa_cons (pe_makeP0 MK.any hr (by decide) rfl) pa_nil)) CALL hr (by decide) (pa_cons pe_tup0F pa_nil)) pa_nil)))))))
  (pss_cons (ps_set (i := 3) sc__law_by_hand.nd rfl (by first | exact .inl rfl | exact .inr rfl) (pe_op op_catS (pv 3) (pe_lstS (pa_cons (pe_callD (pe_makeGk MK2.same hr (by decide) rfl (pk_cons (pv 1) (pk_cons (pv 0) pk_nil))) CALL hr (by decide) (pa_cons (pv 2) pa_nil)) (pa_cons (pe_callD (pe_makeGk MK2.not_ hr (by decide) rfl (pk_cons (pe_makeP MK.same hr (by decide) rfl (pa_cons (pv 0) (pa_cons (pv 1) pa_nil))) pk_nil)) CALL hr (by decide) (pa_cons (pv 2) pa_nil)) pa_nil)))))
  (pss_one (ps_ret (pe_cmpR op_eq (pe_callB (call_repr hr) (by rfl) T.b_repr (by decide +kernel) (pa_cons (pv 3) pa_nil)) (pe_callB (call_repr hr) (by rfl) T.b_repr (by decide +kernel) (pa_cons (pe_lstS (pa_cons pe_bl (pa_cons pe_bl (pa_cons pe_bl (pa_cons pe_bl (pa_cons pe_bl (pa_cons pe_bl (pa_cons pe_bl (pa_cons pe_bl (pa_cons pe_bl (pa_cons pe_bl pa_nil))))))))))) pa_nil)) (nomark _)))))))), ?_⟩
    have b1 : Bd 30 200 [(("a" : Str), (2 : Int))] := ⟨by decide, by decide +kernel⟩
    have b2 : Bd 30 200 [(("b" : Str), (1 : Int))] := ⟨by decide, by decide +kernel⟩
    refine use_new1R (by decide) fun f1 H1 s1 fa => ?_
    refine use_new1R (by decide) fun f2 H2 s2 fb => ?_
    refine ⟨(by show 2 ≤ sizeLine; decide), fun p1 H3 n3 s3 h3 => ⟨(by show 2 ≤ sizeLine; decide), fun p2 H4 n4 s4 h4 => ⟨(by show 2 ≤ sizeLine; decide), fun row H5 n5 s5 tr => ⟨_, _, _, rfl, ?_⟩⟩⟩⟩
    have fa := fa.same (((s2.trans s3).trans s4).trans s5)
    have fb := fb.same ((s3.trans s4).trans s5)
    have hv : TermsAt H5 row rowH := ⟨[p1, p2], tr, .cons (s5 _ _ (s4 _ _ h3)) (.cons (s5 _ _ h4) .nil)⟩
    have S0 := (((s1.trans s2).trans s3).trans s4).trans s5
    have q0 : Same H5 H5 := Same.refl _
    refine ⟨_, rfl, _, rfl, ?_⟩
    refine use_twoR (fa.same q0) (fb.same q0) b1 b2 fun a0 A0 u0 c0 => ?_
    refine ⟨a0, rfl, _, rfl, use_call c0 (by decide) (by decide) (hv.same (q0.trans u0)) rowH_ok (by decide +kernel) fun B0 w0 => ?_⟩
    have q1 := (q0.trans u0).trans w0
    rw [show (Cd.two 0 [(("a" : Str), (2 : Int))] [(("b" : Str), (1 : Int))]).holds rowH = false from by decide +kernel]
    refine ⟨_, rfl, _, rfl, ?_⟩
    refine use_twoR (fa.same q1) (fb.same q1) b1 b2 fun a1 A1 u1 c1 => ?_
    refine ⟨a1, rfl, _, rfl, use_call c1 (by decide) (by decide) (hv.same (q1.trans u1)) rowH_ok (by decide +kernel) fun B1 w1 => ?_⟩
    have q2 := (q1.trans u1).trans w1
    rw [show (Cd.two 1 [(("a" : Str), (2 : Int))] [(("b" : Str), (1 : Int))]).holds rowH = true from by decide +kernel]
    refine ⟨_, rfl, _, rfl, ?_⟩
    refine use_twoR (fa.same q2) (fb.same q2) b1 b2 fun a2 A2 u2 c2 => ?_
    refine ⟨a2, rfl, _, rfl, use_call c2 (by decide) (by decide) (hv.same (q2.trans u2)) rowH_ok (by decide +kernel) fun B2 w2 => ?_⟩
    have q3 := (q2.trans u2).trans w2
    rw [show (Cd.two 2 [(("a" : Str), (2 : Int))] [(("b" : Str), (1 : Int))]).holds rowH = true from by decide +kernel]
    refine ⟨_, rfl, _, rfl, ?_⟩
    refine use_twoR (fa.same q3) (fa.same q3) b1 b1 fun a3 A3 u3 c3 => ?_
    refine ⟨a3, rfl, _, rfl, use_call c3 (by decide) (by decide) (hv.same (q3.trans u3)) rowH_ok (by decide +kernel) fun B3 w3 => ?_⟩
    have q4 := (q3.trans u3).trans w3
    rw [show (Cd.two 0 [(("a" : Str), (2 : Int))] [(("a" : Str), (2 : Int))]).holds rowH = false from by decide +kernel]
    refine ⟨(by show 4 ≤ sizeLine; decide), fun L1 G1 nL1 e1 hL1 => ?_⟩
    have q4 := q4.trans e1
    refine ⟨_, rfl, ?_⟩
    refine ⟨_, rfl, _, rfl, ?_⟩
    refine use_twoR (fa.same q4) (fa.same q4) b1 b1 fun a4 A4 u4 c4 => ?_
    refine ⟨a4, rfl, _, rfl, use_call c4 (by decide) (by decide) (hv.same (q4.trans u4)) rowH_ok (by decide +kernel) fun B4 w4 => ?_⟩
    have q5 := (q4.trans u4).trans w4
    rw [show (Cd.two 1 [(("a" : Str), (2 : Int))] [(("a" : Str), (2 : Int))]).holds rowH = true from by decide +kernel]
    refine use_many0R fun a5 A5 u5 c5 => ?_
    refine ⟨a5, rfl, fun r5 R5 m5 v5 t5 => use_call (us := []) (c5.same v5) (by decide) (by decide) ⟨[], t5, .nil⟩ row0_ok (by decide) fun B5 w5 => ?_⟩
    have q6 := ((q5.trans u5).trans v5).trans w5
    rw [show (Cd.more 1 []).holds [] = true from by decide +kernel]
    refine use_many0R fun a6 A6 u6 c6 => ?_
    refine ⟨a6, rfl, fun r6 R6 m6 v6 t6 => use_call (us := []) (c6.same v6) (by decide) (by decide) ⟨[], t6, .nil⟩ row0_ok (by decide) fun B6 w6 => ?_⟩
    have q7 := ((q6.trans u6).trans v6).trans w6
    rw [show (Cd.more 2 []).holds [] = false from by decide +kernel]
    refine use_many0R fun y0 Y0 uy cy => ?_
    have qy := q7.trans uy
    refine use_notR (Wd := []) cy (by decide) (by decide) (by decide) (fun z h => nomatch h) fun a7 A7 u7 c7 => ?_
    have q7 := qy
    refine ⟨a7, rfl, fun r7 R7 m7 v7 t7 => use_call (us := []) (c7.same v7) (by decide) (by decide) ⟨[], t7, .nil⟩ row0_ok (by decide) fun B7 w7 => ?_⟩
    have q8 := ((q7.trans u7).trans v7).trans w7
    rw [show (Cd.more 0 [.more 2 []]).holds [] = true from by decide +kernel]
    refine ⟨(by show 4 ≤ sizeLine; decide), fun L2 G2 nL2 e2 hL2 => ?_⟩
    have hL1' : G2 L1 = some (.lst [V.bl false, .bl true, .bl true, .bl false]) := e2 _ _ ((((((((((((u4.trans w4).trans u5).trans v5).trans w5).trans u6).trans v6).trans w6).trans uy).trans u7).trans v7).trans w7) _ _ hL1)
    have q8 := q8.trans e2
    refine ⟨L1, L2, _, _, rfl, rfl, hL1', hL2, (by show 4 + 4 ≤ sizeLine; decide), fun M1 G3 nM1 e3 hM1 => ?_⟩
    have q8 := q8.trans e3
    refine ⟨_, rfl, ?_⟩
    refine ⟨_, rfl, _, rfl, ?_⟩
    refine use_twoR (fb.same q8) (fa.same q8) b2 b1 fun a8 A8 u8 c8 => ?_
    refine ⟨a8, rfl, _, rfl, use_call c8 (by decide) (by decide) (hv.same (q8.trans u8)) rowH_ok (by decide +kernel) fun B8 w8 => ?_⟩
    have q9 := (q8.trans u8).trans w8
    rw [show (Cd.two 2 [(("b" : Str), (1 : Int))] [(("a" : Str), (2 : Int))]).holds rowH = true from by decide +kernel]
    refine ⟨_, rfl, _, rfl, ?_⟩
    refine use_twoR (fa.same q9) (fb.same q9) b1 b2 fun y1 Y1 uy1 cy1 => ?_
    have qy1 := q9.trans uy1
    refine use_notR (Wd := ["a", "b"]) cy1 (by decide) (by decide) (by decide) (by decide +kernel) fun a9 A9 u9 c9 => ?_
    have q9 := qy1
    refine ⟨a9, rfl, _, rfl, use_call c9 (by decide) (by decide) (hv.same (q9.trans u9)) rowH_ok (by decide +kernel) fun B9 w9 => ?_⟩
    have q10 := (q9.trans u9).trans w9
    rw [show (Cd.more 0 [.two 2 [(("a" : Str), (2 : Int))] [(("b" : Str), (1 : Int))]]).holds rowH = false from by decide +kernel]
    refine ⟨(by show 2 ≤ sizeLine; decide), fun L3 G4 nL3 e4 hL3 => ?_⟩
    have hM1' := e4 _ _ (((((u8.trans w8).trans uy1).trans u9).trans w9) _ _ hM1)
    refine ⟨M1, L3, _, _, rfl, rfl, hM1', hL3, (by show 8 + 2 ≤ sizeLine; decide), fun M2 G5 nM2 e5 hM2 => ?_⟩
    have hM2 : G5 M2 = some (.lst (dueH.map V.bl)) := hM2
    obtain ⟨ok1, ok2, ok3, ok4⟩ := dueH_ok
    refine ⟨_, rfl, M2, _, rfl, .lst (SqL.of hM2) (dp_bls dueH), ok1, ok2, ok3, ok4, (by show 10 ≤ sizeLine; decide), fun L4 G6 nL4 e6 hL4 => ?_⟩
    have hL4 : G6 L4 = some (.lst (dueH.map V.bl)) := hL4
    refine ⟨L4, _, rfl, .lst (SqL.of hL4) (dp_bls dueH), ok1, ok2, ok3, ok4, rfl, ?_⟩
    rw [decide_eq_true rfl]
    exact k G6 (S0.trans (((q10.trans e4).trans e5).trans e6))
end
end Lw

/-! ## CdL -/
set_option maxHeartbeats 1000000
namespace Lw
open PySem PySem.Spec PyProof.Rows L2
open Fm (cf Asc Nm)
abbrev s_law : Stmt := topS 67
abbrev n_law : List Str := ["_law_script", "_law_k"]
theorem sc_law : FnScope n_law ["_law_script"] (defScope s_law) := ⟨rfl, rfl, rfl, by decide +kernel, rfl, by decide +kernel, by decide +kernel⟩
def spLaw (K : PySem.W.Frag) : Sp := fun vs H Q _ => ∃ (a : Addr) (ns : List Int), vs = [.ref a] ∧ SqL K H a (ns.map V.int) ∧ ns.length ≤ 63 ∧ ∀ H', Q (.bl true) H'
section
variable {P : Program} {w : World} {K : PySem.W.Frag} {mg : Str → Option Value} {base : Heap}
theorem ok_law {f : Addr} {fd : FuncData} (F : Fun K "law" "law" s_law f fd) (T : Ta mg) (c__law_cell : Cal P w K mg base 1 "_law_cell" ["_law_script", "_law_k"] (spCellI K)) (c__law_heap : Cal P w K mg base 1 "_law_heap" ["_law_number"] spHeap)
    (c__law_right : Cal P w K mg base 13 "_law_right" ["_law_heap_here"] spRight) (c__law_by_hand : Cal P w K mg base 13 "_law_by_hand" [] spHand) : FnG P w K mg base 14 f fd ["_law_script"] (spLaw K) := by
  refine okG F sc_law (fun vs H Q E h => ?_) (fun cdv A outer s H vs Q hr h => ?_)
  · obtain ⟨a, ns, rfl, _⟩ := h
    rfl
  · obtain ⟨a, ns, rfl, hS, hl, k⟩ := h
    refine ⟨_, (pss_cons (ps_if (pt_not (pt_val (pe_c0 c__law_by_hand hr (by decide) rfl)))
    (pss_one (ps_ret pe_bl))
    pss_nil)
  (pss_one (ps_ret (pe_callB (cr_all (by rfl)) (by rfl) T.b_all (by decide +kernel) (pa_cons (pe_lc (own := [("_law_k", 1)]) (g := gName 1) (tt := tYes) rfl sc_law.nd (pi_range1 rfl T.b_range (pa_cons (pe_callB (call_max2 rfl) (by rfl) T.b_max (by decide +kernel) (pa_cons pe_int (pa_cons (pe_callB (call_min2 rfl) (by rfl) T.b_min (by decide +kernel) (pa_cons (pe_callB call_len_seq (by rfl) T.b_len (by decide +kernel) (pa_cons (pv 0) pa_nil)) (pa_cons pe_int pa_nil))) pa_nil))) pa_nil)) (blkOk_by (own := [("_law_k", 1)]) (N := n_law) (sc := defScope s_law) (by decide +kernel)) (fun _ _ _ _ _ => pg_name (i := 1) sc_law.nd rfl (Or.inl rfl)) (fun _ _ _ _ _ => pts_nil) (fun _ _ _ _ _ => (pe_c c__law_right hr (by decide) rfl (pa_cons (pe_c c__law_heap hr (by decide) rfl (pa_cons (pe_c c__law_cell hr (by decide) rfl (pa_cons (pv 0) (pa_cons (pv 1) pa_nil))) pa_nil)) pa_nil)))) pa_nil))))), ?_⟩
    refine ⟨rfl, fun H1 s1 => ⟨_, rfl, iteF ?_⟩⟩
    refine ⟨_, rfl, a, _, rfl, .inl (s1.seq hS), _, _, rfl, _, _, rfl, ?_⟩
    rw [List.length_map]
    generalize hN : (if (if (4 : Int) < (ns.length : Int) then (4 : Int) else (ns.length : Int)) > 2 then (if (4 : Int) < (ns.length : Int) then (4 : Int) else (ns.length : Int)) else (2 : Int)) = N
    have hN0 : 2 ≤ N ∧ N ≤ 4 := by
      rw [← hN]
      split <;> split <;> omega
    refine ⟨N, rfl, by omega, by omega, fun D hD => lc_fn (walk_range (lo := 0) (n := N.toNat)) (fun _ => .bl true) (by omega) hD (fun _ _ => True.intro) (fun j x H7 H8 Q' hj s7 y kq => ?_) fun H7 s7 d => ?_⟩
    · obtain ⟨rfl, rfl⟩ := y
      refine ⟨rfl, _, rfl, _, rfl, a, ns, _, rfl, (s1.trans s7).seq hS, hl, by omega, by omega, fun z H5 s5 => ?_⟩
      refine ⟨z, rfl, fun hp nhp => ?_⟩
      have s6 : Same H5 (upd H5 hp (DrawO hp)) := Same.new nhp
      have h6 : (upd H5 hp (DrawO hp)) hp = some (DrawO hp) := upd_same
      generalize upd H5 hp (DrawO hp) = H6 at s6 h6 ⊢
      exact ⟨hp, rfl, h6, fun H9 s9 => kq H9 ((s5.trans s6).trans s9)⟩
    · refine ⟨D, List.replicate N.toNat true, rfl, SqL.of ?_, ?_⟩
      · rw [d]
        congr 2
        apply List.ext_getElem?
        intro i
        rw [List.getElem?_map, List.getElem?_map, List.getElem?_replicate]
        by_cases hi : i < N.toNat
        · rw [List.getElem?_range hi, if_pos hi]
          rfl
        · rw [List.getElem?_eq_none (by rw [List.length_range]; omega), if_neg hi]
          rfl
      · have e : (List.replicate N.toNat true).all id = true := List.all_eq_true.mpr fun b hb => by
          rw [(List.mem_replicate.mp hb).2]
          rfl
        rw [e]
        exact k H7
end
end Lw

/-! ## FkF -/
set_option maxHeartbeats 8000000
namespace Lw
open PySem PySem.Spec PyProof.Rows L2
abbrev s__is_worth : Stmt := topS 21
abbrev n__is_worth : List Str := ["pair", "symbol", "worth"]
theorem sc__is_worth : FnScope n__is_worth ["pair"] (defScope s__is_worth) := ⟨rfl, rfl, rfl, by decide +kernel, rfl, by decide +kernel, by decide +kernel⟩
abbrev s_is_values : Stmt := topS 20
abbrev n_is_values : List Str := ["value", "pair", "symbols", "symbol", "_"]
theorem sc_is_values : FnScope n_is_values ["value"] (defScope s_is_values) := ⟨rfl, rfl, rfl, by decide +kernel, rfl, by decide +kernel, by decide +kernel⟩
/-- what p says of the i-th -/
def getB (ts : List Tr) (p : Tr → Bool) (i : Nat) : Bool := match ts[i]? with
  | some t => p t
  | none => false
theorem getB_some {ts : List Tr} {p : Tr → Bool} {i : Nat} {t : Tr} (h : ts[i]? = some t) : getB ts p i = p t := by
  unfold getB
  rw [h]
theorem getB_map (ts : List Tr) (p : Tr → Bool) : (List.range ts.length).map (getB ts p) = ts.map p := by
  apply List.ext_getElem?
  intro i
  rw [List.getElem?_map, List.getElem?_map]
  by_cases hi : i < ts.length
  · rw [List.getElem?_range hi, List.getElem?_eq_getElem hi]
    exact congrArg some (getB_some (List.getElem?_eq_getElem hi))
  · rw [List.getElem?_eq_none (by simp; omega), List.getElem?_eq_none (by omega)]
    rfl
def getK (ts : List Tr) (i : Nat) : Str := match ts[i]? with
  | some t => t.key
  | none => Str.empty
theorem getK_some {ts : List Tr} {i : Nat} {t : Tr} (h : ts[i]? = some t) : getK ts i = t.key := by
  unfold getK
  rw [h]
theorem getK_map (ts : List Tr) : (List.range ts.length).map (getK ts) = ts.map Tr.key := by
  apply List.ext_getElem?
  intro i
  rw [List.getElem?_map, List.getElem?_map]
  by_cases hi : i < ts.length
  · rw [List.getElem?_range hi, List.getElem?_eq_getElem hi]
    exact congrArg some (getK_some (List.getElem?_eq_getElem hi))
  · rw [List.getElem?_eq_none (by simp; omega), List.getElem?_eq_none (by omega)]
    rfl
/-- the law's own look at pairs -/
def goB : Str → List Tr → Bool
  | _, [] => true
  | l, t :: r => t.worth && (decide (l.cps.toList < t.key.cps.toList) && goB t.key r)
theorem goB_eq : ∀ (ts : List Tr) (p : Str), goB p ts = (ts.all Tr.worth && ascB (p :: ts.map Tr.key))
  | [], p => rfl
  | t :: r, p => by
    show (t.worth && (decide (p.cps.toList < t.key.cps.toList) && goB t.key r)) = ((t.worth && r.all Tr.worth) && (decide (p.cps.toList < t.key.cps.toList) && ascB (t.key :: r.map Tr.key)))
    rw [goB_eq r t.key]
    cases t.worth <;> cases r.all Tr.worth <;> cases decide (p.cps.toList < t.key.cps.toList) <;> rfl
theorem worth_key {t : Tr} (w : t.worth = true) : 1 ≤ t.key.length := by
  match t, w with
  | .tup [s, u], w =>
    have ws : s.sym = true := (Bool.and_eq_true_iff.mp (show (s.sym && (u.whole && u.pos)) = true from w)).1
    cases s with
    | str z => exact (sym_ok ws).2.2
    | _ => exact absurd (show false = true from ws) (by decide)
theorem vals_go (ts : List Tr) : (Tr.tup ts).vals = goB "" ts := by
  rw [goB_eq]
  show (ts.all Tr.worth && ascB (ts.map Tr.key)) = _
  cases e : ts.all Tr.worth with
  | false => rfl
  | true =>
    rw [Bool.true_and, Bool.true_and]
    cases ts with
    | nil => rfl
    | cons t r =>
      have h := worth_key (List.all_eq_true.mp e t List.mem_cons_self)
      show _ = (decide (([] : List Nat) < t.key.cps.toList) && ascB (t.key :: r.map Tr.key))
      have q : ([] : List Nat) < t.key.cps.toList := by
        obtain ⟨⟨l⟩⟩ : ∃ z : Str, z = t.key := ⟨_, rfl⟩
        cases hl : t.key.cps.toList with
        | nil =>
          have : t.key.length = 0 := by
            show t.key.cps.size = 0
            rw [← Array.length_toList, hl]
            rfl
          omega
        | cons c m => exact List.Lex.nil
      rw [decide_eq_true q]
      rfl
theorem worth_len : ∀ {ts : List Tr}, ¬ ts.length = 2 → (Tr.tup ts).worth = false
  | [], _ => rfl
  | [_], _ => rfl
  | [_, _], n => absurd rfl n
  | _ :: _ :: _ :: _, _ => rfl
theorem all_two {K : PySem.W.Frag} {H : Hp} {xs : List V} {ts : List Tr} (r : TrAll K H xs ts) (n : ts.length = 2) : ∃ x y t1 t2, xs = [x, y] ∧ ts = [t1, t2] ∧ TrIs K H x t1 ∧ TrIs K H y t2 := by
  cases r with
  | nil => cases n
  | @cons x t1 xs ts h1 r =>
    cases r with
    | nil => cases n
    | @cons y t2 xs ts h2 r =>
      cases r with
      | cons _ _ => exact absurd n (by simp)
      | nil => exact ⟨x, y, t1, t2, rfl, rfl, h1, h2⟩
section
variable {P : Program} {w : World} {K : PySem.W.Frag} {mg : Str → Option Value} {base : Heap}
theorem ok_is_worth {f : Addr} {fd : FuncData} (F : Fun K "_is_worth" "_is_worth" s__is_worth f fd) (T : Ta mg) (c_is_symbol : Cal P w K mg base 2 "is_symbol" ["value"] (spB K Tr.sym)) (c_is_integer : Cal P w K mg base 1 "is_integer" ["value"] (spB K Tr.whole)) :
    FnG P w K mg base 3 f fd ["pair"] (spB K Tr.worth) := by
  refine okG F sc__is_worth (fun vs H Q E h => ?_) (fun cdv A outer s H vs Q hr h => ?_)
  · obtain ⟨v, t, rfl, _⟩ := h
    rfl
  · obtain ⟨v, t, rfl, h, k⟩ := h
    refine ⟨_, (pss_cons (ps_if (PW.pt (pw_or (pt_not (pt_val (pe_callB call_isi (by rfl) T.b_isinstance (by decide +kernel) (pa_cons (pv 0) (pa_cons (pe_bltn (v := .ty "tuple") rfl T.b_tuple (by decide +kernel) rfl) pa_nil))))) (pw_or1 (pt_cmpR op_ne (pe_callB call_len_seq (by rfl) T.b_len (by decide +kernel) (pa_cons (pv 0) pa_nil)) pe_int (nomark _)))))
    (pss_one (ps_ret pe_bl))
    pss_nil)
  (pss_cons (ps_asg (pv 0) (pg_tup rfl (pgs_cons (pg_name (i := 1) sc__is_worth.nd rfl (by first | exact .inl rfl | exact .inr rfl)) (pgs_cons (pg_name (i := 2) sc__is_worth.nd rfl (by first | exact .inl rfl | exact .inr rfl)) pgs_nil))))
  (pss_one (ps_ret (pe_and (pe_c c_is_symbol hr (by decide) rfl (pa_cons (pv 1) pa_nil)) (pe_and (pe_c c_is_integer hr (by decide) rfl (pa_cons (pv 2) pa_nil)) (pe_one (pe_cmpR op_ge (pv 2) pe_int (nomark _))))))))), ?_⟩
    refine ⟨_, rfl, v, _, _, _, _, rfl, .ty _, h.tyx, kit_ty (kit_tup t), _, rfl, ?_⟩
    cases h with
    | @tup a xs ts ha hl r =>
      have kk : ∀ b, (Tr.tup ts).worth = b → Q (.bl b) H := fun b e => e ▸ k H (Same.refl H)
      refine iteF ⟨_, rfl, a, xs, rfl, .inr (ha.sq), rfl, _, rfl, ?_⟩
      refine ite2 (fun h2 => kk _ ?_) fun h2 => ?_
      · have n : ¬ ts.length = 2 := fun e => by
          rw [r.len, e] at h2
          exact absurd h2 (by decide)
        exact worth_len n
      · have n : ts.length = 2 := by
          rw [← r.len]
          have e : ¬ (!decide (V.int (xs.length : Int) = V.int 2)) = true := h2
          simp at e
          omega
        obtain ⟨x, y, t1, t2, rfl, rfl, g1, g2⟩ := all_two r n
        have ha2 := ha
        clear ha r
        have ha := ha2
        clear ha2
        refine ⟨_, rfl, a, [x, y], rfl, ha.sq, rfl, _, _, rfl, _, _, rfl, rfl, ?_⟩
        refine ⟨_, rfl, x, t1, rfl, g1, fun H2 s2 => ⟨_, rfl, ite2 (fun e1 => ?_) fun e1 => ?_⟩⟩
        · refine ⟨_, rfl, y, t2, rfl, g2.same s2, fun H3 s3 => ⟨_, rfl, ite2 (fun e2 => ?_) fun e2 => ?_⟩⟩
          · cases g2 with
            | int i =>
              refine ⟨_, rfl, _, _, rfl, rfl, ?_⟩
              have := k H3 (s2.trans s3)
              rw [show (Tr.tup [t1, .int i]).worth = (t1.sym && (Tr.whole (.int i) && decide (i ≥ 0))) from rfl, e1, e2] at this
              exact this
            | _ => exact absurd (show false = true from e2) (by decide)
          · have := k H3 (s2.trans s3)
            rw [show (Tr.tup [t1, t2]).worth = (t1.sym && (t2.whole && t2.pos)) from rfl, Bool.eq_false_iff.mpr e2, Bool.false_and, Bool.and_false] at this
            exact this
        · have := k H2 s2
          rw [show (Tr.tup [t1, t2]).worth = (t1.sym && (t2.whole && t2.pos)) from rfl, Bool.eq_false_iff.mpr e1, Bool.false_and] at this
          exact this
    | _ => exact iteT (k H (Same.refl H))
theorem ok_is_values {f : Addr} {fd : FuncData} (F : Fun K "is_values" "is_values" s_is_values f fd) (T : Ta mg) (c__is_worth : Cal P w K mg base 3 "_is_worth" ["pair"] (spB K Tr.worth)) :
    FnG P w K mg base 4 f fd ["value"] (spB K Tr.vals) := by
  refine okG F sc_is_values (fun vs H Q E h => ?_) (fun cdv A outer s H vs Q hr h => ?_)
  · obtain ⟨v, t, rfl, _⟩ := h
    rfl
  · obtain ⟨v, t, rfl, h, k⟩ := h
    refine ⟨_, (pss_cons (ps_if (pt_not (pt_val (pe_callB call_isi (by rfl) T.b_isinstance (by decide +kernel) (pa_cons (pv 0) (pa_cons (pe_bltn (v := .ty "tuple") rfl T.b_tuple (by decide +kernel) rfl) pa_nil)))))
    (pss_one (ps_ret pe_bl))
    pss_nil)
  (pss_cons (ps_if (pt_not (pt_val (pe_callB (cr_all (by rfl)) (by rfl) T.b_all (by decide +kernel) (pa_cons (pe_lc (own := [("pair", 1)]) (g := gName 1) (tt := tYes) rfl sc_is_values.nd (pi_tup (pv 0)) (blkOk_by (own := [("pair", 1)]) (N := n_is_values) (sc := defScope s_is_values) (by decide +kernel)) (fun _ _ _ _ _ => pg_name (i := 1) sc_is_values.nd rfl (Or.inl rfl)) (fun _ _ _ _ _ => pts_nil) (fun _ _ _ _ _ => (pe_c c__is_worth hr (by decide) rfl (pa_cons (pv 1) pa_nil)))) pa_nil))))
    (pss_one (ps_ret pe_bl))
    pss_nil)
  (pss_cons (ps_setLc (i := 2) (own := [("symbol", 3), ("_", 4)]) (g := gTup K 2 (gCons (gName 3) (gCons (gName 4) gNil))) (tt := tYes) rfl sc_is_values.nd rfl rfl (sw_true rfl rfl rfl (by decide +kernel)) (pi_tup (pv 0)) (blkOk_by (own := [("symbol", 3), ("_", 4)]) (N := n_is_values) (sc := defScope s_is_values) (by decide +kernel)) (fun _ _ _ _ _ => pg_tup rfl (pgs_cons (pg_name (i := 3) sc_is_values.nd rfl (Or.inl rfl) (Or.inr rfl)) (pgs_cons (pg_name (i := 4) sc_is_values.nd rfl (Or.inl rfl) (Or.inr rfl)) pgs_nil))) (fun _ _ _ _ _ => pts_nil) (fun _ _ _ _ _ => (pv 3)))
  (pss_one (ps_ret (pe_cmpR (op_eqD hr.units) (pv 2) (pe_callB (_root_.Lt.call_sortT (by rfl)) (by rfl) T.b_sorted (by decide +kernel) (pa_cons (pe_callTy (_root_.Lt.call_setT (by rfl)) (by rfl) T.b_set (by decide +kernel) (pa_cons (pv 2) pa_nil)) pa_nil)) (nomark _))))))), ?_⟩
    refine ⟨_, rfl, v, _, _, _, _, rfl, .ty _, h.tyx, kit_ty (kit_tup t), _, rfl, ?_⟩
    cases h with
    | @tup a xs ts ha hl r =>
      have len := r.len
      refine iteF ⟨_, rfl, a, rfl, ⟨xs, ha.sq⟩, fun D hD => lc_fn walk_tup (fun i => .bl (getB ts Tr.worth i)) (by omega) hD (fun H' s' => (ha.same s').sq) (fun i x H2 H3 Q' hi s2 y kq => ?_) fun H2 s2 d => ?_⟩
      · obtain ⟨rfl, hx⟩ := y
        obtain ⟨t, ht, hx⟩ := r.get hx
        refine ⟨rfl, _, rfl, x, t, rfl, hx.same s2, fun H4 s4 => ?_⟩
        have := kq H4 s4
        rw [getB_some ht] at this
        exact this
      · have e1 : (List.range xs.length).map (fun i => V.bl (getB ts Tr.worth i)) = (ts.map Tr.worth).map V.bl := by
          rw [len, ← getB_map, List.map_map]
          rfl
        rw [e1] at d
        refine ⟨D, _, rfl, SqL.of d, _, rfl, ?_⟩
        have e2 : (ts.map Tr.worth).all id = ts.all Tr.worth := by
          rw [List.all_map]
          rfl
        rw [e2]
        cases ew : ts.all Tr.worth with
        | false =>
          have := k H2 s2
          rw [show (Tr.tup ts).vals = (ts.all Tr.worth && ascB (ts.map Tr.key)) from rfl, ew, Bool.false_and] at this
          exact this
        | true =>
          have wt : ∀ t ∈ ts, t.worth = true := List.all_eq_true.mp ew
          have k2 : ∀ H', Same H H' → Q (.bl (ascB (ts.map Tr.key))) H' := fun H' s' => by
            have := k H' s'
            rw [show (Tr.tup ts).vals = (ts.all Tr.worth && ascB (ts.map Tr.key)) from rfl, ew, Bool.true_and] at this
            exact this
          refine ⟨_, rfl, a, rfl, ⟨xs, (ha.same s2).sq⟩, fun D2 hD2 => lc_fn walk_tup (fun i => .str (getK ts i)) (by omega) hD2 (fun H' s' => ((ha.same s2).same s').sq) (fun i x H3 H4 Q' hi s3 y kq => ?_) fun H3 s3 d3 => ?_⟩
          · obtain ⟨rfl, hx⟩ := y
            obtain ⟨t, ht, hx⟩ := r.get hx
            obtain ⟨p, z, u, rfl, hp, hk, _⟩ := worth_at (hx.same (s2.trans s3)) (wt t (List.mem_of_getElem? ht))
            refine ⟨p, _, rfl, hp.sq, rfl, _, _, rfl, _, _, rfl, rfl, rfl, _, rfl, ?_⟩
            have := kq _ (Same.refl _)
            rw [getK_some ht, hk] at this
            exact this
          · have e3 : (List.range xs.length).map (fun i => V.str (getK ts i)) = (ts.map Tr.key).map V.str := by
              rw [len, ← getK_map, List.map_map]
              rfl
            rw [e3] at d3
            have kl : (ts.map Tr.key).length ≤ 40 := by rw [List.length_map, ← len]; exact hl
            have kok : ∀ z ∈ ts.map Tr.key, PyData.strOk z = true := fun z hz => by
              obtain ⟨t, ht, rfl⟩ := List.mem_map.mp hz
              obtain ⟨i, hi⟩ := List.getElem?_of_mem ht
              obtain ⟨x, hx⟩ : ∃ x, xs[i]? = some x := ⟨_, List.getElem?_eq_getElem (by have := (List.getElem?_eq_some_iff.mp hi).1; omega)⟩
              obtain ⟨t', ht', hx⟩ := r.get hx
              rw [hi] at ht'
              cases ht'
              obtain ⟨p, z, u, rfl, hp, hk, ok, _⟩ := worth_at hx (wt t ht)
              rw [hk]
              exact ok
            refine ⟨_, rfl, _, rfl, D2, _, rfl, SqL.of d3, by omega, fun us p hm nd ul hp => ⟨p, us, rfl, upd_same, by omega, fun zs q hz hs hq => ?_⟩⟩
            have s4 : Same H3 (upd (upd H3 p (_root_.Lt.TxO w p us)) q (.lst (zs.map V.str))) := (Same.new hp).trans (Same.new hq)
            refine ⟨.list ((ts.map Tr.key).map .str), .list (zs.map .str), .lst (SqL.of (s4 _ _ d3)) (dp_strs _), .lst (SqL.of upd_same) (dp_strs _), shaped_strs _ kok, shaped_strs _ (fun z hz' => kok z ((hm z).mp (hz.mem_iff.mp hz'))), ?_⟩
            rw [eqv_strs, asc_iff hz nd hs hm]
            exact k2 _ ((s2.trans s3).trans s4)
    | _ => exact iteT (k H (Same.refl H))
end
end Lw

/-! ## LwH -/
set_option maxHeartbeats 4000000
/-! what the head tells, by one look at the written part -/
namespace Lw
open PySem PySem.Spec PyProof.Rows L2
open PySem.LwX (refsT TailOk tailOf)
/-! ### an exception class, looked at -/
def clsB (K : PySem.W.Frag) (C : Addr) (B newId : String) : Bool := match K.lookup C with
  | some ⟨.type "type", _, .cls cd, sl⟩ => (match cd.mro, sl.toList with
    | .ref C' :: bm, [_, _, _, _, some (.builtin n), _] => C' == C && (n == newId && (!cd.hasDel && (cd.hasDict && refsT (tailOf B) bm)))
    | _, _ => false)
  | _ => false
def ecB (K : PySem.W.Frag) (C : Addr) (B newId : String) : Bool := clsB K C B newId && (He.eqO (PySem.W.findIn K (.ref C) "__setattr__") (some (some (.builtin "object.__setattr__"))) && (He.eqO (PySem.W.findIn K (.ref C) "__getattribute__") (some (some (.builtin "BaseException.__getattribute__"))) &&
  (He.eqO (PySem.W.findIn K (.ref C) "__getattr__") (some none) && (He.eqO (PySem.W.findIn K (.ref C) "__class__") (some (some (.builtin "object.__class__"))) && PySem.W.keepIn K (.ref C)))))
theorem ecB_ok {K : PySem.W.Frag} {C : Addr} {B newId initId : String} (F : ExcBaseFacts B newId initId (tailOf B)) (T : TailOk (tailOf B)) (h : ecB K C B newId = true) : EC K B C := by
  obtain ⟨h1, h⟩ := He.ba h
  obtain ⟨h2, h⟩ := He.ba h
  obtain ⟨h3, h⟩ := He.ba h
  obtain ⟨h4, h⟩ := He.ba h
  obtain ⟨h5, h6⟩ := He.ba h
  refine ⟨T, ?_, He.eqO_ok h2, He.eqO_ok h3, He.eqO_ok h4, He.eqO_ok h5, h6⟩
  unfold clsB at h1
  split at h1
  · rename_i dd cd sl ho
    split at h1
    · rename_i C' bm k0 k1 k2 k3 n k5 hm hs
      obtain ⟨a1, h1⟩ := He.ba h1
      obtain ⟨a2, h1⟩ := He.ba h1
      obtain ⟨a3, h1⟩ := He.ba h1
      obtain ⟨a4, a5⟩ := He.ba h1
      obtain rfl := beq_iff_eq.mp a1
      obtain rfl := beq_iff_eq.mp a2
      obtain ⟨nm, bs, mro, ns, qn, hd, sn, sub, ab, col, del⟩ := cd
      dsimp only at hm a3 a4
      subst hm a4
      obtain rfl : del = false := by simpa using a3
      have hsl : sl = #[k0, k1, k2, k3, some (.builtin n), k5] := by
        obtain ⟨l⟩ := sl
        simp only at hs
        rw [hs]
      subst hsl
      exact ⟨n, initId, nm, qn, ns, bs, bm, sn, sub, ab, col, dd, k0, k1, k2, k3, k5, F, ho, a5⟩
    · cases h1
  · cases h1
def subB (K : PySem.W.Frag) (C D : Addr) (b : Bool) : Bool := decide (PySem.W.subIn K (.ref C) (.ref D) = some b)
def tyB (K : PySem.W.Frag) (a : Addr) (n : String) : Bool := decide (PySem.W.typeIn K (.ref a) = some (.type n))
/-- the class x and its own __init__ -/
def exB (x : Str) (B newId : String) (ps : List Str) (K : PySem.W.Frag) : Bool := (He.Fa.glo x).ok K && (ecB K (He.ga K x) B newId && (He.eqO (PySem.W.findIn K (.ref (He.ga K x)) "__init__") (some (some (.ref (He.ma K (He.ga K x) "__init__")))) &&
  (tyB K (He.ma K (He.ga K x) "__init__") "function" && ps.all fun f => He.eqO (PySem.W.findIn K (.ref (He.ga K x)) f) (some none))))
theorem Fun.ofD {K : PySem.W.Frag} {x qual : Str} {st : Stmt} {f : Addr} {fd : FuncData} (F : FunD K x qual (defArgs st) (defBody st) (defScope st) [] [] f fd) : Fun K x qual st f fd := by
  obtain ⟨oc, od, dV, kV, doc, pm, an, cdv, ct, osl, e, lk, hcd, hD, _⟩ := F.ex
  rcases hD with ⟨_, rfl⟩ | ⟨z, _⟩
  · exact ⟨⟨oc, od, kV, doc, pm, an, cdv, ct, osl, e, lk, hcd⟩, F.kp⟩
  · exact absurd rfl z
theorem Fun.bound {K : PySem.W.Frag} {x qual : Str} {st : Stmt} {f : Addr} {fd : FuncData} (F : Fun K x qual st f fd) {p : FuncData → Prop}
    (h : ∀ (kV doc pm : Value) (an : Option Addr) (cdv ct : Value), p (PySem.W.fnOf x qual (defArgs st) (defBody st) (defScope st) .none kV doc pm an cdv ct)) : p fd := by
  obtain ⟨oc, od, kV, doc, pm, an, cdv, ct, osl, rfl, lk, hcd⟩ := F.ex
  exact h kV doc pm an cdv ct
/-! ### the look -/
abbrev AlW : Type := Bool × List He.FnW
def obsW (fs : List (PySem.W.Frag → Bool)) (fn : List He.DefD) (K : PySem.W.Frag) : AlW := ((fs.all fun f => f K) && fn.all fun d => d.ok K, fn.map fun d => He.fnW K d.at_)
def SaysW (fs : List (PySem.W.Frag → Bool)) (fn : List He.DefD) (K : PySem.W.Frag) : Prop := obsW fs fn K = (true, fn.map He.DefD.val)
def obsWG (as : List Addr) (fs : List (PySem.W.Frag → Bool)) (fn : List He.DefD) (g : Addr → Option Obj) : AlW := obsW fs fn (He.frG g as)
def hookW (as : List Addr) (fs : List (PySem.W.Frag → Bool)) (fn : List He.DefD) : PySem.W.Hook where
  α := AlW
  obs := fun s => obsWG as fs fn s.heap.get?
  val := fun _ => (true, fn.map He.DefD.val)
  says := fun _ h => ∃ K : PySem.W.Frag, K.In h ∧ SaysW fs fn K
  of := fun _ _ e => ⟨_, He.frG_in, e⟩
  keeps := fun _ _ _ ⟨K, hK, c⟩ k => ⟨K, PySem.W.Frag.In.keeps hK k, c⟩
theorem obsWG_eq {as : List Addr} {fs : List (PySem.W.Frag → Bool)} {fn : List He.DefD} {g : Addr → Option Obj} {s : Shared} (h : ∀ a, g a = s.heap.get? a) : obsWG as fs fn g = (hookW as fs fn).obs s := by
  have e : g = s.heap.get? := funext h
  rw [e] <;> rfl
section
variable {fs : List (PySem.W.Frag → Bool)} {fn : List He.DefD} {K : PySem.W.Frag}
theorem SaysW.fact (c : SaysW fs fn K) {f : PySem.W.Frag → Bool} (i : Nat) (h : fs[i]? = some f := by rfl) : f K = true :=
  List.all_eq_true.mp (He.ba (congrArg (fun z : AlW => z.1) c)).1 f (List.mem_of_getElem? h)
theorem SaysW.def_ (c : SaysW fs fn K) {d : He.DefD} (i : Nat) (h : fn[i]? = some d := by rfl) : ∃ fd, FunD K d.name d.qual d.params d.body d.scope (d.dvs K) (d.kws K) (He.fAd K d.at_) fd := by
  have e : fn.map (fun d => He.fnW K d.at_) = fn.map He.DefD.val := congrArg (fun z : AlW => z.2) c
  have e2 : (fn.map fun d => He.fnW K d.at_)[i]? = (fn.map He.DefD.val)[i]? := by rw [e]
  rw [List.getElem?_map, List.getElem?_map, h] at e2
  exact He.DefD.funD (Option.some.inj e2) (List.all_eq_true.mp (He.ba (congrArg (fun z : AlW => z.1) c)).2 d (List.mem_of_getElem? h))
end
theorem map_two {α β γ : Type} {x : Option α} {f : α → β} {g : α → γ} {b : β} {c : γ} (h1 : x.map f = some b) (h2 : x.map g = some c) : x.map (fun s => (f s, g s)) = some (b, c) := by
  cases x with
  | none => cases h1
  | some s =>
    injection h1 with h1
    injection h2 with h2
    exact congrArg some (Prod.ext h1 h2)
theorem obs_two {as : List Addr} {x : Option PySem.W.SharedT} {f1 f2 : List (PySem.W.Frag → Bool)} {d1 d2 : List He.DefD} (h1 : x.map (fun s => obsWG as f1 d1 (HandSHeadRun.getT s)) = some (true, d1.map He.DefD.val)) (h2 : x.map (fun s => obsWG as f2 d2 (HandSHeadRun.getT s)) = some (true, d2.map He.DefD.val)) :
    x.map (fun s => obsWG as (f1 ++ f2) (d1 ++ d2) (HandSHeadRun.getT s)) = some (true, (d1 ++ d2).map He.DefD.val) := by
  cases x with
  | none => cases h1
  | some s =>
    have e1 : obsW f1 d1 (He.frG (HandSHeadRun.getT s) as) = (true, d1.map He.DefD.val) := Option.some.inj h1
    have e2 : obsW f2 d2 (He.frG (HandSHeadRun.getT s) as) = (true, d2.map He.DefD.val) := Option.some.inj h2
    show some (obsW (f1 ++ f2) (d1 ++ d2) (He.frG (HandSHeadRun.getT s) as)) = _
    generalize He.frG (HandSHeadRun.getT s) as = K at *
    have a1 := congrArg (fun z : AlW => z.1) e1
    have a2 := congrArg (fun z : AlW => z.1) e2
    have b1 := congrArg (fun z : AlW => z.2) e1
    have b2 := congrArg (fun z : AlW => z.2) e2
    obtain ⟨p1, q1⟩ := He.ba a1
    obtain ⟨p2, q2⟩ := He.ba a2
    unfold obsW
    rw [List.all_append, List.all_append, List.map_append, List.map_append, p1, q1, p2, q2]
    exact congrArg some (Prod.ext rfl (by rw [show d1.map (fun d => He.fnW K d.at_) = d1.map He.DefD.val from b1, show d2.map (fun d => He.fnW K d.at_) = d2.map He.DefD.val from b2]))
theorem map_three {α β γ δ : Type} {x : Option α} {f : α → β} {g : α → γ} {k : α → δ} {a : β} {b : γ} {c : δ} (h1 : x.map (fun s => (f s, g s)) = some (a, b)) (h2 : x.map k = some c) : x.map (fun s => (f s, g s, k s)) = some (a, b, c) := by
  cases x with
  | none => cases h1
  | some s =>
    have h1 : (f s, g s) = (a, b) := Option.some.inj h1
    have h2 : k s = c := Option.some.inj h2
    have e1 : f s = a := congrArg Prod.fst h1
    have e2 : g s = b := congrArg Prod.snd h1
    show some (f s, g s, k s) = _
    rw [e1, e2, h2]
/-- the end, over such a look -/
theorem walk_look {l : PySem.W.OpenLaw} {n k : Nat} {q : Program} {loose : List Str} {XP : (Str → Option Value) → Heap → Prop} {YP : World → Heap → Prop} {d : DefRec} {sp : PySem.W.Frag → Sp} {x : Str}
    (hn : l.most = some n) (hn2 : n ≤ sizeLine) (hdf : d.params.defaults = []) (hr : RoomG k callerA)
    (F : ∀ (w : World) (mg : Str → Option Value) (fa : Addr) (h : Heap), YP w h → h.Ns mainGlobals mg → mg d.name = some (.ref fa) →
      ∃ (K : PySem.W.Frag) (fd : FuncData), K.In h ∧ (∀ u : Value, bindArgs fd ⟨[u], []⟩ = pure [(x, u)]) ∧ ∀ base : Heap, K.In base → base.Ns mainGlobals mg → FnG l.prog w K mg base k fa fd [x] (sp K))
    (hsp : ∀ (K : PySem.W.Frag) (H : Hp) (a : Addr) (ns : List Int), ns.length ≤ n → Only H → SqL K H a (ns.map V.int) → sp K [.ref a] H (fun v _ => v = .bl true) E0) :
    PySem.W.WalkO q loose XP YP l.row.toRowW d [] (fun f vs => PySem.call f vs) := by
  refine Att.attach_call hn hdf fun w s₀ s₁ mg mb fa o pm cd doc a vs ns G Y ho hd hcd hmg hobj hints hlen hg => ?_
  obtain ⟨K, fd, KX, hb, hF⟩ := F w mg fa _ Y G.T.g hmg
  exact law_end KX G.T.g G.T.b G.T.builtins G.T.nolimit hg hobj hints (Nat.le_trans hlen hn2) hr hF hb (fun H hO hS => hsp K H a ns hlen hO hS)
end Lw

/-! ## LwI -/
set_option maxHeartbeats 4000000
/-! the look, where a def may stand at an address of one's own finding; a class whose instances are reckoned with -/
namespace Lw
open PySem PySem.Spec PyProof.Rows L2
structure DfA where
  ad : PySem.W.Frag → Addr
  d : He.DefD
def seeA (K : PySem.W.Frag) (a : Addr) : He.FnW :=
  match K.lookup a with
  | some ⟨_, _, .func z, _⟩ => some (z.name, z.qualname, z.params, z.body, z.scope, z.globals, z.closure, z.builtins)
  | _ => none
def okA (K : PySem.W.Frag) (a : Addr) (d : He.DefD) : Bool := PySem.W.keepIn K (.ref a) &&
  match K.lookup a with
  | some ⟨_, _, .func z, _⟩ => PySem.W.codeIn K z.code d.qual && (He.dflB K z.defaults (d.dvs K) && He.kwdB K z.kwdefaults (d.kws K))
  | _ => false
theorem seeA_fun {K : PySem.W.Frag} {a : Addr} {d : He.DefD} (e : seeA K a = d.val) (c : okA K a d = true) : ∃ fd, FunD K d.name d.qual d.params d.body d.scope (d.dvs K) (d.kws K) a fd := by
  obtain ⟨kp, c⟩ := He.ba c
  unfold seeA at e
  cases q : K.lookup a with
  | none => rw [q] at c; cases c
  | some o =>
    obtain ⟨oc, od, dt, osl⟩ := o
    rw [q] at c e
    cases dt with
    | func z =>
      obtain ⟨m1, m2, m3, m4, m5, m6, m7, m8, m9, m10, m11, m12, m13, m14, m15⟩ := z
      have e2 : (some (m1, m2, m3, m4, m5, m6, m7, m15) : He.FnW) = some (d.name, d.qual, d.params, .stmts d.body, d.scope, mainGlobals, [], builtinsNs) := e
      simp only [Option.some.injEq, Prod.mk.injEq] at e2
      obtain ⟨h1, h2, h3, h4, h5, h6, h7, h8⟩ := e2
      subst h1 h2 h3 h4 h5 h6 h7 h8
      have c3 : (PySem.W.codeIn K m13 d.qual && (He.dflB K m8 (d.dvs K) && He.kwdB K m9 (d.kws K))) = true := c
      obtain ⟨k1, k2⟩ := He.ba c3
      obtain ⟨k3, k4⟩ := He.ba k2
      exact ⟨_, ⟨oc, od, m8, m9, m10, m11, m12, m13, m14, osl, rfl, q, k1, He.dflB_ok k3, He.kwdB_ok k4⟩, kp⟩
    | _ => cases c
def obsA (fs : List (PySem.W.Frag → Bool)) (fn : List DfA) (K : PySem.W.Frag) : AlW := ((fs.all fun f => f K) && fn.all fun x => okA K (x.ad K) x.d, fn.map fun x => seeA K (x.ad K))
def valA (fn : List DfA) : AlW := (true, fn.map fun x => x.d.val)
def SaysA (fs : List (PySem.W.Frag → Bool)) (fn : List DfA) (K : PySem.W.Frag) : Prop := obsA fs fn K = valA fn
def obsAG (as : List Addr) (fs : List (PySem.W.Frag → Bool)) (fn : List DfA) (g : Addr → Option Obj) : AlW := obsA fs fn (He.frG g as)
def hookA (as : List Addr) (fs : List (PySem.W.Frag → Bool)) (fn : List DfA) : PySem.W.Hook where
  α := AlW
  obs := fun s => obsAG as fs fn s.heap.get?
  val := fun _ => valA fn
  says := fun _ h => ∃ K : PySem.W.Frag, K.In h ∧ SaysA fs fn K
  of := fun _ _ e => ⟨_, He.frG_in, e⟩
  keeps := fun _ _ _ ⟨K, hK, c⟩ k => ⟨K, PySem.W.Frag.In.keeps hK k, c⟩
theorem obsAG_eq {as : List Addr} {fs : List (PySem.W.Frag → Bool)} {fn : List DfA} {g : Addr → Option Obj} {s : Shared} (h : ∀ a, g a = s.heap.get? a) : obsAG as fs fn g = (hookA as fs fn).obs s := by
  have e : g = s.heap.get? := funext h
  rw [e] <;> rfl
section
variable {fs : List (PySem.W.Frag → Bool)} {fn : List DfA} {K : PySem.W.Frag}
theorem SaysA.fact (c : SaysA fs fn K) {f : PySem.W.Frag → Bool} (i : Nat) (h : fs[i]? = some f := by rfl) : f K = true :=
  List.all_eq_true.mp (He.ba (congrArg (fun z : AlW => z.1) c)).1 f (List.mem_of_getElem? h)
theorem SaysA.def_ (c : SaysA fs fn K) {x : DfA} (i : Nat) (h : fn[i]? = some x := by rfl) : ∃ fd, FunD K x.d.name x.d.qual x.d.params x.d.body x.d.scope (x.d.dvs K) (x.d.kws K) (x.ad K) fd := by
  have e : fn.map (fun x => seeA K (x.ad K)) = fn.map (fun x => x.d.val) := congrArg (fun z : AlW => z.2) c
  have e2 : (fn.map fun x => seeA K (x.ad K))[i]? = (fn.map fun x => x.d.val)[i]? := by rw [e]
  rw [List.getElem?_map, List.getElem?_map, h] at e2
  exact seeA_fun (Option.some.inj e2) (List.all_eq_true.mp (He.ba (congrArg (fun z : AlW => z.1) c)).2 x (List.mem_of_getElem? h))
end
/-! ### a class, looked at -/
/-- isinstance of its instances -/
def insB (x : Str) (K : PySem.W.Frag) : Bool := (He.Fa.cls x).ok K && (He.eqO (PySem.W.findIn K (.ref (He.ga K x)) "__class__") (some (some (.builtin "object.__class__"))) &&
  (He.eqO (PySem.W.specialIn K (.builtin "object.__class__") "__get__") (some (some (.builtin "getset_descriptor.__get__"))) && (decide (PySem.W.takesIn K (.builtin "object.__class__") = some true) &&
  (decide (PySem.W.mroIn K (He.ga K x) (.type "object") = some true) && decide (PySem.W.kitOne K (.ref (He.ga K x)) (.ref (He.ga K x)) = some true)))))
theorem insB_ok {x : Str} {K : PySem.W.Frag} (h : insB x K = true) : C8.InsC K (He.ga K x) := by
  obtain ⟨h1, h⟩ := He.ba h
  obtain ⟨h2, h⟩ := He.ba h
  obtain ⟨h3, h⟩ := He.ba h
  obtain ⟨h4, h⟩ := He.ba h
  obtain ⟨h5, h6⟩ := He.ba h
  exact ⟨He.cls_ok h1, He.eqO_ok h2, He.eqO_ok h3, of_decide_eq_true h4, of_decide_eq_true h5, of_decide_eq_true h6⟩
/-- the def of a static method -/
def stAd (x m : Str) (K : PySem.W.Frag) : Addr := match PySem.W.recIn K (He.ma K (He.ga K x) m) "staticmethod" with
  | some (.ref f :: _) => f
  | _ => 0
def stB (x m : Str) (K : PySem.W.Frag) : Bool := He.eqO (PySem.W.specialIn K (.ref (He.ga K x)) "__getattribute__") (some (some (.builtin "type.__getattribute__"))) && (PySem.W.readsIn K (He.ga K x) (.type "type") &&
  ((match PySem.W.findCls K (.ref (He.ga K x)) (.type "type") m with
    | some (.get (.builtin n) (.ref p) .none (.ref C)) => n == "staticmethod.__get__" && (p == He.ma K (He.ga K x) m && C == He.ga K x)
    | _ => false) && match PySem.W.recIn K (He.ma K (He.ga K x) m) "staticmethod" with
    | some (.ref _ :: _) => true
    | _ => false))
theorem stB_ok {x m : Str} {K : PySem.W.Frag} (h : stB x m K = true) : PySem.W.specialIn K (.ref (He.ga K x)) "__getattribute__" = some (some (.builtin "type.__getattribute__")) ∧ PySem.W.readsIn K (He.ga K x) (.type "type") = true ∧
    PySem.W.findCls K (.ref (He.ga K x)) (.type "type") m = some (.get (.builtin "staticmethod.__get__") (.ref (He.ma K (He.ga K x) m)) .none (.ref (He.ga K x))) ∧ ∃ rest, PySem.W.recIn K (He.ma K (He.ga K x) m) "staticmethod" = some (.ref (stAd x m K) :: rest) := by
  obtain ⟨h1, h⟩ := He.ba h
  obtain ⟨h2, h⟩ := He.ba h
  obtain ⟨h3, h4⟩ := He.ba h
  refine ⟨He.eqO_ok h1, h2, ?_, ?_⟩
  · split at h3
    · rename_i n p C e
      obtain ⟨a1, h3⟩ := He.ba h3
      obtain ⟨a2, a3⟩ := He.ba h3
      obtain rfl := beq_iff_eq.mp a1
      obtain rfl := beq_iff_eq.mp a2
      obtain rfl := beq_iff_eq.mp a3
      exact e
    · cases h3
  · unfold stAd
    split at h4
    · rename_i f rest e
      rw [e]
      exact ⟨_, rfl⟩
    · cases h4
end Lw

/-! ## Sx7 -/
set_option maxHeartbeats 4000000
/-! the look, where defs stand beside that say super() -/
namespace Lw
open PySem PySem.Spec PyProof.Rows L2
/-- a def that says super(), of the class by this name -/
structure DfC where
  cls : Str
  d : He.DefD
def clAd (K : PySem.W.Frag) (x : Str) : Addr := He.ma K (He.ga K x) "__init__"
def cellAd (K : PySem.W.Frag) (a : Addr) : Addr := match K.lookup a with
  | some ⟨_, _, .func z, _⟩ => (match z.closure with
    | [(_, cc)] => cc
    | _ => 0)
  | _ => 0
def codeAd (K : PySem.W.Frag) (a : Addr) : Addr := match K.lookup a with
  | some ⟨_, _, .func z, _⟩ => (match z.code with
    | .ref c => c
    | _ => 0)
  | _ => 0
def seeC (K : PySem.W.Frag) (a : Addr) : He.FnW :=
  match K.lookup a with
  | some ⟨_, _, .func z, _⟩ => some (z.name, z.qualname, z.params, z.body, z.scope, z.globals, [], z.builtins)
  | _ => none
def fileB (K : PySem.W.Frag) (file : Str) (a : Addr) : Bool := match K.lookup a with
  | some ⟨_, _, .fields vs, _⟩ => (match (vs[2]? : Option Value) with
    | some (Value.str x _) => x == file
    | _ => false)
  | _ => false
def cellB (K : PySem.W.Frag) (a D : Addr) : Bool := match K.lookup a with
  | some ⟨_, _, .cell (some (.ref E)), _⟩ => E == D
  | _ => false
def okC (K : PySem.W.Frag) (file : Str) (a : Addr) (x : DfC) : Bool := PySem.W.keepIn K (.ref a) &&
  match K.lookup a with
  | some ⟨_, _, .func z, _⟩ => (match z.closure, z.code, z.defaults with
    | [(n, cc)], .ref cda, .none => (n == ("__class__" : Str)) && (PySem.W.codeIn K (.ref cda) x.d.qual && (fileB K file cda && (cellB K cc (He.ga K x.cls) && ((PySem.W.clsIn K (He.ga K x.cls)).isSome && He.eqO (PySem.W.nsIn K cStatics "thirdparty.any") (some none)))))
    | _, _, _ => false)
  | _ => false
theorem seeC_fun {P : Program} {K : PySem.W.Frag} {file : Str} {a : Addr} {x : DfC} (e : seeC K a = x.d.val) (c : okC K file a x = true) (hf : (P.main.file : Str) == file) (ht : (P.main.scope.names.lookup ("super" : Str)).isSome = false)
    (hp : ∃ ar, (x.d.params.posonlyargs ++ x.d.params.args).head? = some ar ∧ ar.arg = ("self" : Str)) :
    ∃ fd, FunC P K x.d.name x.d.qual x.d.params x.d.body x.d.scope a (codeAd K a) (cellAd K a) (He.ga K x.cls) fd := by
  obtain ⟨kp, c⟩ := He.ba c
  unfold seeC at e
  unfold codeAd cellAd
  cases q : K.lookup a with
  | none => rw [q] at c; cases c
  | some o =>
    obtain ⟨oc, od, dt, osl⟩ := o
    rw [q] at c e
    cases dt with
    | func z =>
      obtain ⟨m1, m2, m3, m4, m5, m6, m7, m8, m9, m10, m11, m12, m13, m14, m15⟩ := z
      have e2 : (some (m1, m2, m3, m4, m5, m6, [], m15) : He.FnW) = some (x.d.name, x.d.qual, x.d.params, .stmts x.d.body, x.d.scope, mainGlobals, [], builtinsNs) := e
      simp only [Option.some.injEq, Prod.mk.injEq] at e2
      obtain ⟨h1, h2, h3, h4, h5, h6, _, h8⟩ := e2
      subst h1 h2 h3 h4 h5 h6 h8
      cases m7 with
      | nil => cases c
      | cons p r =>
        cases r with
        | cons _ _ => cases c
        | nil =>
          obtain ⟨n, cc⟩ := p
          cases m13 with
          | ref cda =>
            cases m8 with
            | none =>
              have c3 : ((n == ("__class__" : Str)) && (PySem.W.codeIn K (.ref cda) x.d.qual && (fileB K file cda && (cellB K cc (He.ga K x.cls) && ((PySem.W.clsIn K (He.ga K x.cls)).isSome && He.eqO (PySem.W.nsIn K cStatics "thirdparty.any") (some none)))))) = true := c
              obtain ⟨k1, k⟩ := He.ba c3
              obtain ⟨k2, k⟩ := He.ba k
              obtain ⟨k3, k⟩ := He.ba k
              obtain ⟨k4, k⟩ := He.ba k
              obtain ⟨k5, k6⟩ := He.ba k
              obtain rfl := beq_iff_eq.mp k1
              refine ⟨_, ⟨⟨oc, od, m9, m10, m11, m12, m14, osl, rfl, q, k2⟩, kp, ⟨⟨oc, od, osl, q⟩, hp, ?_, ?_, Option.isSome_iff_exists.mp k5, ht, He.eqO_ok k6⟩⟩⟩
              · unfold fileB at k3
                split at k3
                · rename_i e3
                  split at k3
                  · rename_i e4
                    obtain rfl := beq_iff_eq.mp k3
                    exact ⟨_, _, _, _, _, _, e3, e4, hf⟩
                  · cases k3
                · cases k3
              · unfold cellB at k4
                split at k4
                · rename_i e3
                  obtain rfl := beq_iff_eq.mp k4
                  exact ⟨_, _, _, e3⟩
                · cases k4
            | _ => cases c
          | _ => cases c
    | _ => cases c
def obsC (file : Str) (fs : List (PySem.W.Frag → Bool)) (fn : List DfA) (fc : List DfC) (K : PySem.W.Frag) : AlW := ((fs.all fun f => f K) && (fn.all (fun x => okA K (x.ad K) x.d) && fc.all fun x => okC K file (clAd K x.cls) x), (fn.map fun x => seeA K (x.ad K)) ++ fc.map fun x => seeC K (clAd K x.cls))
def valC (fn : List DfA) (fc : List DfC) : AlW := (true, (fn.map fun x => x.d.val) ++ fc.map fun x => x.d.val)
def SaysC (file : Str) (fs : List (PySem.W.Frag → Bool)) (fn : List DfA) (fc : List DfC) (K : PySem.W.Frag) : Prop := obsC file fs fn fc K = valC fn fc
def obsCG (file : Str) (as : List Addr) (fs : List (PySem.W.Frag → Bool)) (fn : List DfA) (fc : List DfC) (g : Addr → Option Obj) : AlW := obsC file fs fn fc (He.frG g as)
def hookC (file : Str) (as : List Addr) (fs : List (PySem.W.Frag → Bool)) (fn : List DfA) (fc : List DfC) : PySem.W.Hook where
  α := AlW
  obs := fun s => obsCG file as fs fn fc s.heap.get?
  val := fun _ => valC fn fc
  says := fun _ h => ∃ K : PySem.W.Frag, K.In h ∧ SaysC file fs fn fc K
  of := fun _ _ e => ⟨_, He.frG_in, e⟩
  keeps := fun _ _ _ ⟨K, hK, c⟩ k => ⟨K, PySem.W.Frag.In.keeps hK k, c⟩
theorem obsCG_eq {file : Str} {as : List Addr} {fs : List (PySem.W.Frag → Bool)} {fn : List DfA} {fc : List DfC} {g : Addr → Option Obj} {s : Shared} (h : ∀ a, g a = s.heap.get? a) : obsCG file as fs fn fc g = (hookC file as fs fn fc).obs s := by
  have e : g = s.heap.get? := funext h
  rw [e] <;> rfl
section
variable {file : Str} {fs : List (PySem.W.Frag → Bool)} {fn : List DfA} {fc : List DfC} {K : PySem.W.Frag}
theorem SaysC.a (c : SaysC file fs fn fc K) : SaysA fs fn K := by
  have h1 := He.ba (congrArg (fun z : AlW => z.1) c)
  have h2 := He.ba h1.2
  have e : (fn.map fun x => seeA K (x.ad K)) ++ (fc.map fun x => seeC K (clAd K x.cls)) = (fn.map fun x => x.d.val) ++ fc.map fun x => x.d.val := congrArg (fun z : AlW => z.2) c
  have e1 := (List.append_inj e (by rw [List.length_map, List.length_map])).1
  show ((fs.all fun f => f K) && fn.all fun x => okA K (x.ad K) x.d, fn.map fun x => seeA K (x.ad K)) = (true, fn.map fun x => x.d.val)
  rw [h1.1, h2.1, e1]
  rfl
theorem SaysC.defC {P : Program} (c : SaysC file fs fn fc K) (hf : (P.main.file : Str) == file) (ht : (P.main.scope.names.lookup ("super" : Str)).isSome = false) {x : DfC} (i : Nat) (h : fc[i]? = some x := by rfl)
    (hp : ∃ ar, (x.d.params.posonlyargs ++ x.d.params.args).head? = some ar ∧ ar.arg = ("self" : Str) := by exact ⟨_, rfl, rfl⟩) :
    ∃ fd, FunC P K x.d.name x.d.qual x.d.params x.d.body x.d.scope (clAd K x.cls) (codeAd K (clAd K x.cls)) (cellAd K (clAd K x.cls)) (He.ga K x.cls) fd := by
  have h1 := He.ba (congrArg (fun z : AlW => z.1) c)
  have h2 := He.ba h1.2
  have e : (fn.map fun x => seeA K (x.ad K)) ++ (fc.map fun x => seeC K (clAd K x.cls)) = (fn.map fun x => x.d.val) ++ fc.map fun x => x.d.val := congrArg (fun z : AlW => z.2) c
  have e1 := (List.append_inj e (by rw [List.length_map, List.length_map])).2
  have e2 : (fc.map fun x => seeC K (clAd K x.cls))[i]? = (fc.map fun x => x.d.val)[i]? := by rw [e1]
  rw [List.getElem?_map, List.getElem?_map, h] at e2
  exact seeC_fun (Option.some.inj e2) (List.all_eq_true.mp h2.2 x (List.mem_of_getElem? h)) hf ht hp
end
/-! ### facts of a class of conditions -/
/-- behind the class by this name, its __init__'s super() finds that of the class b -/
def supB (x b : Str) (K : PySem.W.Frag) : Bool := decide (PySem.W.mroIn K (He.ga K x) (.ref (He.ga K x)) = some true) && (He.eqO (PySem.W.ks_superIn K (He.ga K x) (He.ga K x) "__init__") (some (some (.ref (clAd K b)))) &&
  (decide (PySem.W.typeIn K (.ref (clAd K b)) = some (.type "function")) && PySem.W.fnIn K (clAd K b)))
theorem supB_ok {x b : Str} {K : PySem.W.Frag} (h : supB x b K = true) : SupTo K (He.ga K x) (He.ga K x) (clAd K b) := by
  obtain ⟨h1, h⟩ := He.ba h
  obtain ⟨h2, h⟩ := He.ba h
  obtain ⟨h3, h4⟩ := He.ba h
  exact ⟨of_decide_eq_true h1, He.eqO_ok h2, of_decide_eq_true h3, h4⟩
end Lw

/-! ## CdR -/
set_option maxHeartbeats 8000000
namespace Lw
open PySem PySem.Spec PyProof.Rows L2
open Fm (cf Asc Nm)
/-! ### a class of conditions, as the head looks at it -/
def kdB (x : Str) (K : PySem.W.Frag) : Bool := (He.Fa.glo x).ok K && (insB x K && ((["forms", "conditions", "symbols", "parts", "depth"] : List Str).all (fun f => (He.Fa.noat x f).ok K) &&
  (decide (PySem.W.kitOne K (.ref (He.ga K x)) (.ref (He.ga K "Condition")) = some true) && ((He.Fa.mkr x).ok K && supB x "Condition" K))))
structure KdX (K : PySem.W.Frag) (x : Str) : Prop where
  glo : (He.Fa.glo x).ok K = true
  ins : C8.InsC K (He.ga K x)
  kc : Kc K (He.ga K x)
  kit : PySem.W.kitOne K (.ref (He.ga K x)) (.ref (He.ga K "Condition")) = some true
  mkk : Mk K (He.ga K x) (clAd K x)
  sup : SupTo K (He.ga K x) (He.ga K x) (clAd K "Condition")
theorem kdB_ok {x : Str} {K : PySem.W.Frag} (h : kdB x K = true) : KdX K x := by
  obtain ⟨h1, h⟩ := He.ba h
  obtain ⟨h2, h⟩ := He.ba h
  obtain ⟨h3, h⟩ := He.ba h
  obtain ⟨h4, h⟩ := He.ba h
  obtain ⟨h5, h6⟩ := He.ba h
  have a : ∀ f ∈ (["forms", "conditions", "symbols", "parts", "depth"] : List Str), (He.Fa.noat x f).ok K = true := List.all_eq_true.mp h3
  have i := insB_ok h2
  exact ⟨h1, i, ⟨i.cl, He.noat_ok (a _ (by decide +kernel)), He.noat_ok (a _ (by decide +kernel)), He.noat_ok (a _ (by decide +kernel)), He.noat_ok (a _ (by decide +kernel)), He.noat_ok (a _ (by decide +kernel))⟩, of_decide_eq_true h4, He.mkr_ok h5, supB_ok h6⟩
def callB (x : Str) (K : PySem.W.Frag) : Bool := He.eqO (PySem.W.findIn K (.ref (He.ga K x)) "__call__") (some (some (.ref (He.fAd K ("Condition", some "__call__"))))) && (PySem.W.isFn K (.ref (He.fAd K ("Condition", some "__call__"))) && PySem.W.fnIn K (He.fAd K ("Condition", some "__call__")))
theorem callB_ok {x : Str} {K : PySem.W.Frag} (h : callB x K = true) : StX.CallO K (He.ga K x) (He.fAd K ("Condition", some "__call__")) := by
  obtain ⟨h1, h⟩ := He.ba h
  obtain ⟨h2, h3⟩ := He.ba h
  exact ⟨He.eqO_ok h1, h2, h3⟩
def zW (K : PySem.W.Frag) : Cz where
  form := He.ga K "Form"
  base := He.ga K "Condition"
  two := fun
    | 0 => He.ga K "Below"
    | 1 => He.ga K "Upto"
    | _ => He.ga K "Same"
  more := fun
    | 0 => He.ga K "Not"
    | 1 => He.ga K "All"
    | _ => He.ga K "Any"
theorem kn_all {K : PySem.W.Frag} {p : Addr → Prop} (h0 : p (He.ga K "Below")) (h1 : p (He.ga K "Upto")) (h2 : p (He.ga K "Same")) (h3 : p (He.ga K "Not")) (h4 : p (He.ga K "All")) (h5 : p (He.ga K "Any")) : ∀ C, Kn (zW K) C → p C := by
  rintro C ⟨k, hk, e⟩
  rcases e with rfl | rfl
  · match k, hk with
    | 0, _ => exact h0
    | 1, _ => exact h1
    | 2, _ => exact h2
  · match k, hk with
    | 0, _ => exact h3
    | 1, _ => exact h4
    | 2, _ => exact h5
def fileW : Str := "/claim/cut.py"
def fsW0 : List (PySem.W.Frag → Bool) := [
  (He.Fa.free "len").ok,
  (He.Fa.free "int").ok,
  (He.Fa.free "abs").ok,
  (He.Fa.free "isinstance").ok,
  (He.Fa.free "str").ok,
  (He.Fa.free "tuple").ok,
  (He.Fa.free "bool").ok,
  (He.Fa.free "all").ok,
  (He.Fa.free "sorted").ok,
  (He.Fa.free "set").ok,
  (He.Fa.free "range").ok,
  (He.Fa.free "max").ok,
  (He.Fa.free "min").ok,
  (He.Fa.free "repr").ok,
  (He.Fa.free "dict").ok,
  (He.Fa.free "sum").ok,
  (He.Fa.free "list").ok,
  (He.Fa.free "any").ok,
  (He.Fa.free "super").ok,
  (He.Fa.str "_LETTERS" lettersS).ok,
  (He.Fa.str "_SIGNS" signsS).ok,
  (He.Fa.str "MIDDLE" atS).ok,
  (He.Fa.int "_LONGEST_NAME" 8).ok,
  (He.Fa.int "MAX_PARTS" 12).ok,
  (He.Fa.int "MAX_DEPTH" 4).ok,
  (He.Fa.glo "Form").ok,
  insB "Form",
  (He.Fa.noat "Form" "terms").ok,
  (He.Fa.noat "Form" "symbols").ok,
  (He.Fa.mkr "Form").ok]
def fsW1 : List (PySem.W.Frag → Bool) := [
  (He.Fa.meth "Form" "__str__").ok,
  stB "Form" "read",
  (He.Fa.glo "Condition").ok,
  kdB "Below",
  (He.Fa.meth "Below" "is_met").ok,
  callB "Below",
  kdB "Upto",
  (He.Fa.meth "Upto" "is_met").ok,
  callB "Upto",
  kdB "Same",
  (He.Fa.meth "Same" "is_met").ok,
  callB "Same",
  kdB "Not",
  (He.Fa.meth "Not" "is_met").ok,
  callB "Not",
  kdB "All",
  (He.Fa.meth "All" "is_met").ok,
  callB "All",
  kdB "Any",
  (He.Fa.meth "Any" "is_met").ok,
  callB "Any",
  (He.Fa.glo "is_integer").ok,
  (He.Fa.glo "is_name").ok,
  (He.Fa.glo "is_symbol").ok,
  (He.Fa.glo "_is_worth").ok,
  (He.Fa.glo "is_values").ok,
  (He.Fa.glo "table_of").ok,
  (He.Fa.glo "check_form").ok,
  (He.Fa.glo "worth_of").ok,
  (He.Fa.glo "form_of").ok]
def fsW2 : List (PySem.W.Frag → Bool) := [
  (He.Fa.glo "form_in_text").ok,
  (He.Fa.glo "number_in_text").ok,
  (He.Fa.glo "_term_in_text").ok,
  (He.Fa.glo "_terms_of").ok,
  (He.Fa.glo "_symbols_of").ok,
  (He.Fa.glo "_pieces_of").ok,
  (He.Fa.glo "read_form").ok,
  (He.Fa.glo "check_condition").ok,
  (He.Fa.glo "_checked_forms").ok,
  (He.Fa.glo "_checked_conditions").ok,
  (He.Fa.glo "_law_cell").ok,
  (He.Fa.glo "_law_heap").ok,
  (He.Fa.glo "_law_roll").ok,
  (He.Fa.glo "_law_pick").ok,
  (He.Fa.glo "_law_name").ok,
  (He.Fa.glo "_law_names").ok,
  (He.Fa.glo "_law_terms").ok,
  (He.Fa.glo "_law_text").ok,
  (He.Fa.glo "_law_sum").ok,
  (He.Fa.glo "_law_tree").ok,
  (He.Fa.glo "_law_parts").ok,
  (He.Fa.glo "_law_true").ok,
  (He.Fa.glo "_law_made").ok,
  (He.Fa.glo "_law_right").ok,
  (He.Fa.glo "_law_by_hand").ok,
  (He.Fa.glo "law").ok,
  (He.Fa.keep "_law_tree").ok,
  (He.Fa.keep "_law_parts").ok,
  (He.Fa.keep "_law_true").ok,
  (He.Fa.keep "_law_made").ok]
def fsW : List (PySem.W.Frag → Bool) := fsW0 ++ (fsW1 ++ (fsW2))
def fnW0 : List (DfA) := [
  ⟨fun K => He.fAd K ("is_integer", none), ⟨("is_integer", none), "is_integer", "is_integer", defArgs s_is_integer, defBody s_is_integer, defScope s_is_integer, [], []⟩⟩,
  ⟨fun K => He.fAd K ("is_name", none), ⟨("is_name", none), "is_name", "is_name", defArgs s_is_name, defBody s_is_name, defScope s_is_name, [], []⟩⟩,
  ⟨fun K => He.fAd K ("is_symbol", none), ⟨("is_symbol", none), "is_symbol", "is_symbol", defArgs s_is_symbol, defBody s_is_symbol, defScope s_is_symbol, [], []⟩⟩,
  ⟨fun K => He.fAd K ("_is_worth", none), ⟨("_is_worth", none), "_is_worth", "_is_worth", defArgs s__is_worth, defBody s__is_worth, defScope s__is_worth, [], []⟩⟩,
  ⟨fun K => He.fAd K ("is_values", none), ⟨("is_values", none), "is_values", "is_values", defArgs s_is_values, defBody s_is_values, defScope s_is_values, [], []⟩⟩,
  ⟨fun K => He.fAd K ("table_of", none), ⟨("table_of", none), "table_of", "table_of", defArgs s_table_of, defBody s_table_of, defScope s_table_of, [], []⟩⟩,
  ⟨fun K => He.fAd K ("check_form", none), ⟨("check_form", none), "check_form", "check_form", defArgs s_check_form, defBody s_check_form, defScope s_check_form, [], []⟩⟩,
  ⟨fun K => He.fAd K ("worth_of", none), ⟨("worth_of", none), "worth_of", "worth_of", defArgs s_worth_of, defBody s_worth_of, defScope s_worth_of, [], []⟩⟩,
  ⟨fun K => He.fAd K ("form_of", none), ⟨("form_of", none), "form_of", "form_of", defArgs s_form_of, defBody s_form_of, defScope s_form_of, [], []⟩⟩,
  ⟨fun K => He.fAd K ("form_in_text", none), ⟨("form_in_text", none), "form_in_text", "form_in_text", defArgs s_form_in_text, defBody s_form_in_text, defScope s_form_in_text, [], []⟩⟩,
  ⟨fun K => He.fAd K ("number_in_text", none), ⟨("number_in_text", none), "number_in_text", "number_in_text", defArgs s_number_in_text, defBody s_number_in_text, defScope s_number_in_text, [], []⟩⟩,
  ⟨fun K => He.fAd K ("_term_in_text", none), ⟨("_term_in_text", none), "_term_in_text", "_term_in_text", defArgs s__term_in_text, defBody s__term_in_text, defScope s__term_in_text, [], []⟩⟩,
  ⟨fun K => He.fAd K ("_terms_of", none), ⟨("_terms_of", none), "_terms_of", "_terms_of", defArgs s__terms_of, defBody s__terms_of, defScope s__terms_of, [], []⟩⟩,
  ⟨fun K => He.fAd K ("_symbols_of", none), ⟨("_symbols_of", none), "_symbols_of", "_symbols_of", defArgs s__symbols_of, defBody s__symbols_of, defScope s__symbols_of, [], []⟩⟩,
  ⟨fun K => He.fAd K ("_pieces_of", none), ⟨("_pieces_of", none), "_pieces_of", "_pieces_of", defArgs s__pieces_of, defBody s__pieces_of, defScope s__pieces_of, [], []⟩⟩,
  ⟨fun K => He.fAd K ("read_form", none), ⟨("read_form", none), "read_form", "read_form", defArgs s_read_form, defBody s_read_form, defScope s_read_form, [], []⟩⟩,
  ⟨fun K => He.fAd K ("check_condition", none), ⟨("check_condition", none), "check_condition", "check_condition", defArgs s_check_condition, defBody s_check_condition, defScope s_check_condition, [], []⟩⟩,
  ⟨fun K => He.fAd K ("_checked_forms", none), ⟨("_checked_forms", none), "_checked_forms", "_checked_forms", defArgs s__checked_forms, defBody s__checked_forms, defScope s__checked_forms, [], []⟩⟩,
  ⟨fun K => He.fAd K ("_checked_conditions", none), ⟨("_checked_conditions", none), "_checked_conditions", "_checked_conditions", defArgs s__checked_conditions, defBody s__checked_conditions, defScope s__checked_conditions, [], []⟩⟩,
  ⟨fun K => He.fAd K ("_law_cell", none), ⟨("_law_cell", none), "_law_cell", "_law_cell", defArgs s__law_cell, defBody s__law_cell, defScope s__law_cell, [], []⟩⟩,
  ⟨fun K => He.fAd K ("_law_heap", none), ⟨("_law_heap", none), "_law_heap", "_law_heap", defArgs s__law_heap, defBody s__law_heap, defScope s__law_heap, [], []⟩⟩,
  ⟨fun K => He.fAd K ("_law_roll", none), ⟨("_law_roll", none), "_law_roll", "_law_roll", defArgs s__law_roll, defBody s__law_roll, defScope s__law_roll, [], []⟩⟩,
  ⟨fun K => He.fAd K ("_law_pick", none), ⟨("_law_pick", none), "_law_pick", "_law_pick", defArgs s__law_pick, defBody s__law_pick, defScope s__law_pick, [], []⟩⟩,
  ⟨fun K => He.fAd K ("_law_name", none), ⟨("_law_name", none), "_law_name", "_law_name", defArgs s__law_name, defBody s__law_name, defScope s__law_name, [], []⟩⟩,
  ⟨fun K => He.fAd K ("_law_names", none), ⟨("_law_names", none), "_law_names", "_law_names", defArgs s__law_names, defBody s__law_names, defScope s__law_names, [], []⟩⟩,
  ⟨fun K => He.fAd K ("_law_terms", none), ⟨("_law_terms", none), "_law_terms", "_law_terms", defArgs s__law_terms, defBody s__law_terms, defScope s__law_terms, [], []⟩⟩,
  ⟨fun K => He.fAd K ("_law_text", none), ⟨("_law_text", none), "_law_text", "_law_text", defArgs s__law_text, defBody s__law_text, defScope s__law_text, [], []⟩⟩,
  ⟨fun K => He.fAd K ("_law_sum", none), ⟨("_law_sum", none), "_law_sum", "_law_sum", defArgs s__law_sum, defBody s__law_sum, defScope s__law_sum, [], []⟩⟩,
  ⟨fun K => He.fAd K ("_law_tree", none), ⟨("_law_tree", none), "_law_tree", "_law_tree", defArgs s__law_tree, defBody s__law_tree, defScope s__law_tree, [], []⟩⟩,
  ⟨fun K => He.fAd K ("_law_parts", none), ⟨("_law_parts", none), "_law_parts", "_law_parts", defArgs s__law_parts, defBody s__law_parts, defScope s__law_parts, [], []⟩⟩]
def fnW1 : List (DfA) := [
  ⟨fun K => He.fAd K ("_law_true", none), ⟨("_law_true", none), "_law_true", "_law_true", defArgs s__law_true, defBody s__law_true, defScope s__law_true, [], []⟩⟩,
  ⟨fun K => He.fAd K ("_law_made", none), ⟨("_law_made", none), "_law_made", "_law_made", defArgs s__law_made, defBody s__law_made, defScope s__law_made, [], []⟩⟩,
  ⟨fun K => He.fAd K ("_law_right", none), ⟨("_law_right", none), "_law_right", "_law_right", defArgs s__law_right, defBody s__law_right, defScope s__law_right, [], []⟩⟩,
  ⟨fun K => He.fAd K ("_law_by_hand", none), ⟨("_law_by_hand", none), "_law_by_hand", "_law_by_hand", defArgs s__law_by_hand, defBody s__law_by_hand, defScope s__law_by_hand, [], []⟩⟩,
  ⟨fun K => He.fAd K ("law", none), ⟨("law", none), "law", "law", defArgs s_law, defBody s_law, defScope s_law, [], []⟩⟩,
  ⟨fun K => He.fAd K ("Form", some "__init__"), ⟨("Form", some "__init__"), "__init__", "Form.__init__", defArgs s_Form_init, defBody s_Form_init, defScope s_Form_init, [], []⟩⟩,
  ⟨fun K => He.fAd K ("Form", some "__str__"), ⟨("Form", some "__str__"), "__str__", "Form.__str__", defArgs s_Form_str, defBody s_Form_str, defScope s_Form_str, [], []⟩⟩,
  ⟨fun K => He.fAd K ("Condition", some "__init__"), ⟨("Condition", some "__init__"), "__init__", "Condition.__init__", defArgs s_Condition_init, defBody s_Condition_init, defScope s_Condition_init, [], []⟩⟩,
  ⟨fun K => He.fAd K ("Condition", some "__call__"), ⟨("Condition", some "__call__"), "__call__", "Condition.__call__", defArgs s_Condition_call, defBody s_Condition_call, defScope s_Condition_call, [], []⟩⟩,
  ⟨fun K => He.fAd K ("Below", some "is_met"), ⟨("Below", some "is_met"), "is_met", "Below.is_met", defArgs s_Below_is_met, defBody s_Below_is_met, defScope s_Below_is_met, [], []⟩⟩,
  ⟨fun K => He.fAd K ("Upto", some "is_met"), ⟨("Upto", some "is_met"), "is_met", "Upto.is_met", defArgs s_Upto_is_met, defBody s_Upto_is_met, defScope s_Upto_is_met, [], []⟩⟩,
  ⟨fun K => He.fAd K ("Same", some "is_met"), ⟨("Same", some "is_met"), "is_met", "Same.is_met", defArgs s_Same_is_met, defBody s_Same_is_met, defScope s_Same_is_met, [], []⟩⟩,
  ⟨fun K => He.fAd K ("Not", some "is_met"), ⟨("Not", some "is_met"), "is_met", "Not.is_met", defArgs s_Not_is_met, defBody s_Not_is_met, defScope s_Not_is_met, [], []⟩⟩,
  ⟨fun K => He.fAd K ("All", some "is_met"), ⟨("All", some "is_met"), "is_met", "All.is_met", defArgs s_All_is_met, defBody s_All_is_met, defScope s_All_is_met, [], []⟩⟩,
  ⟨fun K => He.fAd K ("Any", some "is_met"), ⟨("Any", some "is_met"), "is_met", "Any.is_met", defArgs s_Any_is_met, defBody s_Any_is_met, defScope s_Any_is_met, [], []⟩⟩,
  ⟨stAd "Form" "read", ⟨("Form", none), "read", "Form.read", defArgs s_Form_read, defBody s_Form_read, defScope s_Form_read, [], []⟩⟩]
def fnW : List (DfA) := fnW0 ++ (fnW1)
def fcW0 : List (DfC) := [
  ⟨"Below", ⟨("Below", some "__init__"), "__init__", "Below.__init__", defArgs s_Below_init, defBody s_Below_init, defScope s_Below_init, [], []⟩⟩,
  ⟨"Upto", ⟨("Upto", some "__init__"), "__init__", "Upto.__init__", defArgs s_Upto_init, defBody s_Upto_init, defScope s_Upto_init, [], []⟩⟩,
  ⟨"Same", ⟨("Same", some "__init__"), "__init__", "Same.__init__", defArgs s_Same_init, defBody s_Same_init, defScope s_Same_init, [], []⟩⟩,
  ⟨"Not", ⟨("Not", some "__init__"), "__init__", "Not.__init__", defArgs s_Not_init, defBody s_Not_init, defScope s_Not_init, [], []⟩⟩,
  ⟨"All", ⟨("All", some "__init__"), "__init__", "All.__init__", defArgs s_All_init, defBody s_All_init, defScope s_All_init, [], []⟩⟩,
  ⟨"Any", ⟨("Any", some "__init__"), "__init__", "Any.__init__", defArgs s_Any_init, defBody s_Any_init, defScope s_Any_init, [], []⟩⟩]
def fcW : List (DfC) := fcW0
section
variable {P : Program} {w : World} {K : PySem.W.Frag} {h base : Heap} {mg : Str → Option Value}
theorem ta_mk (X : K.In h) (G : h.Ns mainGlobals mg) (c : SaysC fileW fsW fnW fcW K) : Ta mg := { 
    b_len := He.free_ok X G (c.a.fact 0),
    b_int := He.free_ok X G (c.a.fact 1),
    b_abs := He.free_ok X G (c.a.fact 2),
    b_isinstance := He.free_ok X G (c.a.fact 3),
    b_str := He.free_ok X G (c.a.fact 4),
    b_tuple := He.free_ok X G (c.a.fact 5),
    b_bool := He.free_ok X G (c.a.fact 6),
    b_all := He.free_ok X G (c.a.fact 7),
    b_sorted := He.free_ok X G (c.a.fact 8),
    b_set := He.free_ok X G (c.a.fact 9),
    b_range := He.free_ok X G (c.a.fact 10),
    b_max := He.free_ok X G (c.a.fact 11),
    b_min := He.free_ok X G (c.a.fact 12),
    b_repr := He.free_ok X G (c.a.fact 13),
    b_dict := He.free_ok X G (c.a.fact 14),
    b_sum := He.free_ok X G (c.a.fact 15),
    b_list := He.free_ok X G (c.a.fact 16),
    g__LETTERS := by
      obtain ⟨t, e⟩ := He.str_ok X G (c.a.fact 19)
      exact ⟨_, e, t, rfl⟩,
    g__SIGNS := by
      obtain ⟨t, e⟩ := He.str_ok X G (c.a.fact 20)
      exact ⟨_, e, t, rfl⟩,
    g_MIDDLE := by
      obtain ⟨t, e⟩ := He.str_ok X G (c.a.fact 21)
      exact ⟨_, e, t, rfl⟩,
    g__LONGEST_NAME := by
      obtain ⟨t, e⟩ := He.int_ok X G (c.a.fact 22)
      exact ⟨_, e, t, rfl⟩ }
theorem tc_mk (X : K.In h) (G : h.Ns mainGlobals mg) (c : SaysC fileW fsW fnW fcW K) : Tc mg := { 
    b_any := He.free_ok X G (c.a.fact 17),
    b_super := He.free_ok X G (c.a.fact 18),
    g_MAX_PARTS := by
      obtain ⟨t, e⟩ := He.int_ok X G (c.a.fact 23)
      exact ⟨_, e, t, rfl⟩,
    g_MAX_DEPTH := by
      obtain ⟨t, e⟩ := He.int_ok X G (c.a.fact 24)
      exact ⟨_, e, t, rfl⟩ }
theorem end_mk (hm : K.In base) (hG : base.Ns mainGlobals mg) (X : K.In h) (G : h.Ns mainGlobals mg) (c : SaysC fileW fsW fnW fcW K) (hf : (P.main.file : Str) == fileW) (ht : (P.main.scope.names.lookup ("super" : Str)).isSome = false) {fa : Addr} (hfa : mg "law" = some (.ref fa)) {fd : FuncData} (F : Fun K "law" "law" s_law fa fd) : FnG P w K mg base 14 fa fd ["_law_script"] (spLaw K) := by
  have T : Ta mg := ta_mk X G c
  have TC : Tc mg := tc_mk X G c
  have C0 : Fc K mg (He.ga K "Form") := ⟨insB_ok (c.a.fact 26), He.noat_ok (c.a.fact 27), He.noat_ok (c.a.fact 28), ⟨_, He.glo_ok X G (c.a.fact 25), rfl⟩⟩
  have D_Below : KdX K "Below" := kdB_ok (c.a.fact 33)
  have D_Upto : KdX K "Upto" := kdB_ok (c.a.fact 36)
  have D_Same : KdX K "Same" := kdB_ok (c.a.fact 39)
  have D_Not : KdX K "Not" := kdB_ok (c.a.fact 42)
  have D_All : KdX K "All" := kdB_ok (c.a.fact 45)
  have D_Any : KdX K "Any" := kdB_ok (c.a.fact 48)
  have Z0 : Cf K mg (zW K) := ⟨kn_all D_Below.kc D_Upto.kc D_Same.kc D_Not.kc D_All.kc D_Any.kc, kn_all ⟨D_Below.ins, D_Below.kit⟩ ⟨D_Upto.ins, D_Upto.kit⟩ ⟨D_Same.ins, D_Same.kit⟩ ⟨D_Not.ins, D_Not.kit⟩ ⟨D_All.ins, D_All.kit⟩ ⟨D_Any.ins, D_Any.kit⟩, ⟨_, He.glo_ok X G (c.a.fact 32), rfl⟩⟩
  obtain ⟨fd_is_integer, F0_is_integer⟩ := c.a.def_ 0
  have F_is_integer := Fun.ofD (st := s_is_integer) F0_is_integer
  have c_is_integer : Cal P w K mg base 1 "is_integer" ["value"] (spB K Tr.whole) := ⟨_, fd_is_integer, ok_is_integer F_is_integer T, He.glo_ok X G (c.a.fact 51), F_is_integer.kp,
    fun us hl => Fun.bound (p := fun fd => bindArgs fd ⟨us, []⟩ = (pure ((["value"] : List Str).zip us) : Sem (List (Str × Value)))) F_is_integer fun _ _ _ _ _ _ => match us, hl with | [_], _ => rfl, fun u _ => Fun.bound (p := fun fd => bindArgs fd ⟨[], (["value"] : List Str).zip [u]⟩ = (pure ((["value"] : List Str).zip [u]) : Sem (List (Str × Value)))) F_is_integer fun _ _ _ _ _ _ => rfl⟩
  obtain ⟨fd_is_name, F0_is_name⟩ := c.a.def_ 1
  have F_is_name := Fun.ofD (st := s_is_name) F0_is_name
  have c_is_name : Cal P w K mg base 1 "is_name" ["value"] (spB K Tr.name) := ⟨_, fd_is_name, ok_is_name F_is_name T, He.glo_ok X G (c.a.fact 52), F_is_name.kp,
    fun us hl => Fun.bound (p := fun fd => bindArgs fd ⟨us, []⟩ = (pure ((["value"] : List Str).zip us) : Sem (List (Str × Value)))) F_is_name fun _ _ _ _ _ _ => match us, hl with | [_], _ => rfl, fun u _ => Fun.bound (p := fun fd => bindArgs fd ⟨[], (["value"] : List Str).zip [u]⟩ = (pure ((["value"] : List Str).zip [u]) : Sem (List (Str × Value)))) F_is_name fun _ _ _ _ _ _ => rfl⟩
  obtain ⟨fd_is_symbol, F0_is_symbol⟩ := c.a.def_ 2
  have F_is_symbol := Fun.ofD (st := s_is_symbol) F0_is_symbol
  have c_is_symbol : Cal P w K mg base 2 "is_symbol" ["value"] (spB K Tr.sym) := ⟨_, fd_is_symbol, ok_is_symbol F_is_symbol T c_is_name, He.glo_ok X G (c.a.fact 53), F_is_symbol.kp,
    fun us hl => Fun.bound (p := fun fd => bindArgs fd ⟨us, []⟩ = (pure ((["value"] : List Str).zip us) : Sem (List (Str × Value)))) F_is_symbol fun _ _ _ _ _ _ => match us, hl with | [_], _ => rfl, fun u _ => Fun.bound (p := fun fd => bindArgs fd ⟨[], (["value"] : List Str).zip [u]⟩ = (pure ((["value"] : List Str).zip [u]) : Sem (List (Str × Value)))) F_is_symbol fun _ _ _ _ _ _ => rfl⟩
  obtain ⟨fd__is_worth, F0__is_worth⟩ := c.a.def_ 3
  have F__is_worth := Fun.ofD (st := s__is_worth) F0__is_worth
  have c__is_worth : Cal P w K mg base 3 "_is_worth" ["pair"] (spB K Tr.worth) := ⟨_, fd__is_worth, ok_is_worth F__is_worth T c_is_symbol c_is_integer, He.glo_ok X G (c.a.fact 54), F__is_worth.kp,
    fun us hl => Fun.bound (p := fun fd => bindArgs fd ⟨us, []⟩ = (pure ((["pair"] : List Str).zip us) : Sem (List (Str × Value)))) F__is_worth fun _ _ _ _ _ _ => match us, hl with | [_], _ => rfl, fun u _ => Fun.bound (p := fun fd => bindArgs fd ⟨[], (["pair"] : List Str).zip [u]⟩ = (pure ((["pair"] : List Str).zip [u]) : Sem (List (Str × Value)))) F__is_worth fun _ _ _ _ _ _ => rfl⟩
  obtain ⟨fd_is_values, F0_is_values⟩ := c.a.def_ 4
  have F_is_values := Fun.ofD (st := s_is_values) F0_is_values
  have c_is_values : Cal P w K mg base 4 "is_values" ["value"] (spB K Tr.vals) := ⟨_, fd_is_values, ok_is_values F_is_values T c__is_worth, He.glo_ok X G (c.a.fact 55), F_is_values.kp,
    fun us hl => Fun.bound (p := fun fd => bindArgs fd ⟨us, []⟩ = (pure ((["value"] : List Str).zip us) : Sem (List (Str × Value)))) F_is_values fun _ _ _ _ _ _ => match us, hl with | [_], _ => rfl, fun u _ => Fun.bound (p := fun fd => bindArgs fd ⟨[], (["value"] : List Str).zip [u]⟩ = (pure ((["value"] : List Str).zip [u]) : Sem (List (Str × Value)))) F_is_values fun _ _ _ _ _ _ => rfl⟩
  obtain ⟨fd__terms_of, F0__terms_of⟩ := c.a.def_ 12
  have F__terms_of := Fun.ofD (st := s__terms_of) F0__terms_of
  have c__terms_of : Cal P w K mg base 1 "_terms_of" ["factors"] spTermsOf := ⟨_, fd__terms_of, ok_terms_of F__terms_of T, He.glo_ok X G (c.a.fact 63), F__terms_of.kp,
    fun us hl => Fun.bound (p := fun fd => bindArgs fd ⟨us, []⟩ = (pure ((["factors"] : List Str).zip us) : Sem (List (Str × Value)))) F__terms_of fun _ _ _ _ _ _ => match us, hl with | [_], _ => rfl, fun u _ => Fun.bound (p := fun fd => bindArgs fd ⟨[], (["factors"] : List Str).zip [u]⟩ = (pure ((["factors"] : List Str).zip [u]) : Sem (List (Str × Value)))) F__terms_of fun _ _ _ _ _ _ => rfl⟩
  obtain ⟨fd__symbols_of, F0__symbols_of⟩ := c.a.def_ 13
  have F__symbols_of := Fun.ofD (st := s__symbols_of) F0__symbols_of
  have c__symbols_of : Cal P w K mg base 1 "_symbols_of" ["terms"] spSymsOf := ⟨_, fd__symbols_of, ok_symbols_of F__symbols_of T, He.glo_ok X G (c.a.fact 64), F__symbols_of.kp,
    fun us hl => Fun.bound (p := fun fd => bindArgs fd ⟨us, []⟩ = (pure ((["terms"] : List Str).zip us) : Sem (List (Str × Value)))) F__symbols_of fun _ _ _ _ _ _ => match us, hl with | [_], _ => rfl, fun u _ => Fun.bound (p := fun fd => bindArgs fd ⟨[], (["terms"] : List Str).zip [u]⟩ = (pure ((["terms"] : List Str).zip [u]) : Sem (List (Str × Value)))) F__symbols_of fun _ _ _ _ _ _ => rfl⟩
  obtain ⟨fd_Form_init, F0_Form_init⟩ := c.a.def_ 35
  have F_Form_init := Fun.ofD (st := s_Form_init) F0_Form_init
  have M_new : Mk0 P w K mg base 3 "Form" (He.ga K "Form") (fun vs H Q E => vs.length = ["self"].length ∧ ∀ d, H d = none → spInit0 (He.ga K "Form") (vs ++ [V.ref d]) (upd H d (.dK [])) Q E0) := ⟨_, He.mkr_ok (c.a.fact 29), ok_Form_init F_Form_init T C0 c_is_symbol c_is_integer c__terms_of c__symbols_of (fun us hl =>
    Fun.bound (p := fun fd => bindArgs fd ⟨us, []⟩ = ((alloc ({ cls := .type "dict", data := .dict #[] } : Obj) : Sem Addr) >>= fun d => pure ((["self"] : List Str).zip us ++ ([("factors", Value.ref d)] : List (Str × Value))))) F_Form_init fun _ _ _ _ _ _ => match us, hl with | [_], _ => rfl), He.glo_ok X G (c.a.fact 25)⟩
  have M_new_a : MkK P w K mg base 3 "Form" (He.ga K "Form") ["a"] (spNewK (He.ga K "Form") ["a"]) := ⟨_, He.mkr_ok (c.a.fact 29), ok_Form_initK F_Form_init T C0 c_is_symbol c_is_integer c__terms_of c__symbols_of (by decide +kernel) (by decide) (by decide +kernel) (fun u us hl =>
    Fun.bound (p := fun fd => bindArgs fd ⟨[u], (["a"] : List Str).zip us⟩ = ((alloc ({ cls := .type "dict", data := .dict #[] } : Obj) : Sem Addr) >>= fun d =>
      (forIn ((["a"] : List Str).zip us) PUnit.unit (fun x _ => (nsSet d x.1 x.2 >>= fun _ => pure (ForInStep.yield PUnit.unit))) >>= fun _ => pure ([("self", u), ("factors", Value.ref d)] : List (Str × Value))))) F_Form_init fun _ _ _ _ _ _ => match us, hl with | [_], _ => rfl), He.glo_ok X G (c.a.fact 25)⟩
  have M_new_b : MkK P w K mg base 3 "Form" (He.ga K "Form") ["b"] (spNewK (He.ga K "Form") ["b"]) := ⟨_, He.mkr_ok (c.a.fact 29), ok_Form_initK F_Form_init T C0 c_is_symbol c_is_integer c__terms_of c__symbols_of (by decide +kernel) (by decide) (by decide +kernel) (fun u us hl =>
    Fun.bound (p := fun fd => bindArgs fd ⟨[u], (["b"] : List Str).zip us⟩ = ((alloc ({ cls := .type "dict", data := .dict #[] } : Obj) : Sem Addr) >>= fun d =>
      (forIn ((["b"] : List Str).zip us) PUnit.unit (fun x _ => (nsSet d x.1 x.2 >>= fun _ => pure (ForInStep.yield PUnit.unit))) >>= fun _ => pure ([("self", u), ("factors", Value.ref d)] : List (Str × Value))))) F_Form_init fun _ _ _ _ _ _ => match us, hl with | [_], _ => rfl), He.glo_ok X G (c.a.fact 25)⟩
  obtain ⟨fd_form_of, F0_form_of⟩ := c.a.def_ 8
  have F_form_of := Fun.ofD (st := s_form_of) F0_form_of
  have c_form_of : Cal P w K mg base 5 "form_of" ["factors"] (spFormOf (He.ga K "Form")) := ⟨_, fd_form_of, ok_form_of F_form_of C0 M_new c__terms_of c__symbols_of, He.glo_ok X G (c.a.fact 59), F_form_of.kp,
    fun us hl => Fun.bound (p := fun fd => bindArgs fd ⟨us, []⟩ = (pure ((["factors"] : List Str).zip us) : Sem (List (Str × Value)))) F_form_of fun _ _ _ _ _ _ => match us, hl with | [_], _ => rfl, fun u _ => Fun.bound (p := fun fd => bindArgs fd ⟨[], (["factors"] : List Str).zip [u]⟩ = (pure ((["factors"] : List Str).zip [u]) : Sem (List (Str × Value)))) F_form_of fun _ _ _ _ _ _ => rfl⟩
  obtain ⟨fd_check_form, F0_check_form⟩ := c.a.def_ 6
  have F_check_form := Fun.ofD (st := s_check_form) F0_check_form
  have c_check_form : Cal P w K mg base 1 "check_form" ["value"] (spUnit (He.ga K "Form")) := ⟨_, fd_check_form, ok_check_form F_check_form T C0, He.glo_ok X G (c.a.fact 57), F_check_form.kp,
    fun us hl => Fun.bound (p := fun fd => bindArgs fd ⟨us, []⟩ = (pure ((["value"] : List Str).zip us) : Sem (List (Str × Value)))) F_check_form fun _ _ _ _ _ _ => match us, hl with | [_], _ => rfl, fun u _ => Fun.bound (p := fun fd => bindArgs fd ⟨[], (["value"] : List Str).zip [u]⟩ = (pure ((["value"] : List Str).zip [u]) : Sem (List (Str × Value)))) F_check_form fun _ _ _ _ _ _ => rfl⟩
  obtain ⟨fd__pieces_of, F0__pieces_of⟩ := c.a.def_ 14
  have F__pieces_of := Fun.ofD (st := s__pieces_of) F0__pieces_of
  have c__pieces_of : Cal P w K mg base 1 "_pieces_of" ["terms"] spPieces := ⟨_, fd__pieces_of, ok_pieces_of F__pieces_of T, He.glo_ok X G (c.a.fact 65), F__pieces_of.kp,
    fun us hl => Fun.bound (p := fun fd => bindArgs fd ⟨us, []⟩ = (pure ((["terms"] : List Str).zip us) : Sem (List (Str × Value)))) F__pieces_of fun _ _ _ _ _ _ => match us, hl with | [_], _ => rfl, fun u _ => Fun.bound (p := fun fd => bindArgs fd ⟨[], (["terms"] : List Str).zip [u]⟩ = (pure ((["terms"] : List Str).zip [u]) : Sem (List (Str × Value)))) F__pieces_of fun _ _ _ _ _ _ => rfl⟩
  obtain ⟨fd_number_in_text, F0_number_in_text⟩ := c.a.def_ 10
  have F_number_in_text := Fun.ofD (st := s_number_in_text) F0_number_in_text
  have c_number_in_text : Cal P w K mg base 1 "number_in_text" ["digits"] spNum := ⟨_, fd_number_in_text, ok_number F_number_in_text T, He.glo_ok X G (c.a.fact 61), F_number_in_text.kp,
    fun us hl => Fun.bound (p := fun fd => bindArgs fd ⟨us, []⟩ = (pure ((["digits"] : List Str).zip us) : Sem (List (Str × Value)))) F_number_in_text fun _ _ _ _ _ _ => match us, hl with | [_], _ => rfl, fun u _ => Fun.bound (p := fun fd => bindArgs fd ⟨[], (["digits"] : List Str).zip [u]⟩ = (pure ((["digits"] : List Str).zip [u]) : Sem (List (Str × Value)))) F_number_in_text fun _ _ _ _ _ _ => rfl⟩
  obtain ⟨fd__term_in_text, F0__term_in_text⟩ := c.a.def_ 11
  have F__term_in_text := Fun.ofD (st := s__term_in_text) F0__term_in_text
  have c__term_in_text : Cal P w K mg base 3 "_term_in_text" ["word"] spTerm := ⟨_, fd__term_in_text, ok_term F__term_in_text T c_number_in_text c_is_symbol, He.glo_ok X G (c.a.fact 62), F__term_in_text.kp,
    fun us hl => Fun.bound (p := fun fd => bindArgs fd ⟨us, []⟩ = (pure ((["word"] : List Str).zip us) : Sem (List (Str × Value)))) F__term_in_text fun _ _ _ _ _ _ => match us, hl with | [_], _ => rfl, fun u _ => Fun.bound (p := fun fd => bindArgs fd ⟨[], (["word"] : List Str).zip [u]⟩ = (pure ((["word"] : List Str).zip [u]) : Sem (List (Str × Value)))) F__term_in_text fun _ _ _ _ _ _ => rfl⟩
  obtain ⟨fd_form_in_text, F0_form_in_text⟩ := c.a.def_ 9
  have F_form_in_text := Fun.ofD (st := s_form_in_text) F0_form_in_text
  have c_form_in_text : Cal P w K mg base 6 "form_in_text" ["text"] (spIn (He.ga K "Form")) := ⟨_, fd_form_in_text, ok_form_in_text F_form_in_text T C0 M_new c__term_in_text c_form_of, He.glo_ok X G (c.a.fact 60), F_form_in_text.kp,
    fun us hl => Fun.bound (p := fun fd => bindArgs fd ⟨us, []⟩ = (pure ((["text"] : List Str).zip us) : Sem (List (Str × Value)))) F_form_in_text fun _ _ _ _ _ _ => match us, hl with | [_], _ => rfl, fun u _ => Fun.bound (p := fun fd => bindArgs fd ⟨[], (["text"] : List Str).zip [u]⟩ = (pure ((["text"] : List Str).zip [u]) : Sem (List (Str × Value)))) F_form_in_text fun _ _ _ _ _ _ => rfl⟩
  obtain ⟨fd_worth_of, F0_worth_of⟩ := c.a.def_ 7
  have F_worth_of := Fun.ofD (st := s_worth_of) F0_worth_of
  have c_worth_of : Cal P w K mg base 1 "worth_of" ["form", "table"] (spWorth (He.ga K "Form")) := ⟨_, fd_worth_of, ok_worth_of F_worth_of T C0, He.glo_ok X G (c.a.fact 58), F_worth_of.kp,
    fun us hl => Fun.bound (p := fun fd => bindArgs fd ⟨us, []⟩ = (pure ((["form", "table"] : List Str).zip us) : Sem (List (Str × Value)))) F_worth_of fun _ _ _ _ _ _ => match us, hl with | [_, _], _ => rfl, fun u e => absurd e (by decide)⟩
  obtain ⟨fd_table_of, F0_table_of⟩ := c.a.def_ 5
  have F_table_of := Fun.ofD (st := s_table_of) F0_table_of
  have c_table_of : Cal P w K mg base 5 "table_of" ["values", "symbols"] spTable := ⟨_, fd_table_of, ok_table_of F_table_of T c_is_values, He.glo_ok X G (c.a.fact 56), F_table_of.kp,
    fun us hl => Fun.bound (p := fun fd => bindArgs fd ⟨us, []⟩ = (pure ((["values", "symbols"] : List Str).zip us) : Sem (List (Str × Value)))) F_table_of fun _ _ _ _ _ _ => match us, hl with | [_, _], _ => rfl, fun u e => absurd e (by decide)⟩
  obtain ⟨fd_Form_str, F0_Form_str⟩ := c.a.def_ 36
  have F_Form_str := Fun.ofD (st := s_Form_str) F0_Form_str
  have M_str : Mt P w K mg base 2 (He.ga K "Form") "__str__" ["self"] (spStr (He.ga K "Form")) := ⟨_, fd_Form_str, ok_str F_Form_str C0 c__pieces_of, He.meth_ok (c.a.fact 30),
    fun us hl => Fun.bound (p := fun fd => bindArgs fd ⟨us, []⟩ = (pure ((["self"] : List Str).zip us) : Sem (List (Str × Value)))) F_Form_str fun _ _ _ _ _ _ => match us, hl with | [_], _ => rfl,
    fun u v a b e => by simp at e⟩
  obtain ⟨fd_read_form, F0_read_form⟩ := c.a.def_ 15
  have F_read_form := Fun.ofD (st := s_read_form) F0_read_form
  have c_read_form : Cal P w K mg base 7 "read_form" ["text"] (spIn (He.ga K "Form")) := ⟨_, fd_read_form, ok_read_form F_read_form T C0 M_str c_form_in_text, He.glo_ok X G (c.a.fact 66), F_read_form.kp,
    fun us hl => Fun.bound (p := fun fd => bindArgs fd ⟨us, []⟩ = (pure ((["text"] : List Str).zip us) : Sem (List (Str × Value)))) F_read_form fun _ _ _ _ _ _ => match us, hl with | [_], _ => rfl, fun u _ => Fun.bound (p := fun fd => bindArgs fd ⟨[], (["text"] : List Str).zip [u]⟩ = (pure ((["text"] : List Str).zip [u]) : Sem (List (Str × Value)))) F_read_form fun _ _ _ _ _ _ => rfl⟩
  obtain ⟨fd_read, F0_read⟩ := c.a.def_ 45
  have F_read := Fun.ofD (st := s_Form_read) F0_read
  obtain ⟨g1, g2, g3, rest, g4⟩ := stB_ok (c.a.fact 31)
  have M_read : StM P w K mg base 8 (He.ga K "Form") "read" ["text"] (spIn (He.ga K "Form")) := ⟨g1, _, _, _, fd_read, rest, g2, g3, g4, F_read.kp, ok_read F_read c_read_form,
    fun us hl => Fun.bound (p := fun fd => bindArgs fd ⟨us, []⟩ = (pure ((["text"] : List Str).zip us) : Sem (List (Str × Value)))) F_read fun _ _ _ _ _ _ => match us, hl with | [_], _ => rfl⟩
  obtain ⟨fd_check_condition, F0_check_condition⟩ := c.a.def_ 16
  have F_check_condition := Fun.ofD (st := s_check_condition) F0_check_condition
  have c_check_condition : Cal P w K mg base 1 "check_condition" ["value"] (spCCond (zW K)) := ⟨_, fd_check_condition, ok_check_condition (Z := zW K) F_check_condition T Z0, He.glo_ok X G (c.a.fact 67), F_check_condition.kp,
    fun us hl => Fun.bound (p := fun fd => bindArgs fd ⟨us, []⟩ = (pure ((["value"] : List Str).zip us) : Sem (List (Str × Value)))) F_check_condition fun _ _ _ _ _ _ => match us, hl with | [_], _ => rfl, fun u _ => Fun.bound (p := fun fd => bindArgs fd ⟨[], (["value"] : List Str).zip [u]⟩ = (pure ((["value"] : List Str).zip [u]) : Sem (List (Str × Value)))) F_check_condition fun _ _ _ _ _ _ => rfl⟩
  obtain ⟨fd__checked_forms, F0__checked_forms⟩ := c.a.def_ 17
  have F__checked_forms := Fun.ofD (st := s__checked_forms) F0__checked_forms
  have c__checked_forms : Cal P w K mg base 2 "_checked_forms" ["first", "second"] (spCForms (He.ga K "Form")) := ⟨_, fd__checked_forms, ok_checked_forms (Z := zW K) F__checked_forms T c_check_form, He.glo_ok X G (c.a.fact 68), F__checked_forms.kp,
    fun us hl => Fun.bound (p := fun fd => bindArgs fd ⟨us, []⟩ = (pure ((["first", "second"] : List Str).zip us) : Sem (List (Str × Value)))) F__checked_forms fun _ _ _ _ _ _ => match us, hl with | [_, _], _ => rfl, fun u e => absurd e (by decide)⟩
  obtain ⟨fd__checked_conditions, F0__checked_conditions⟩ := c.a.def_ 18
  have F__checked_conditions := Fun.ofD (st := s__checked_conditions) F0__checked_conditions
  have c__checked_conditions : Cal P w K mg base 2 "_checked_conditions" ["conditions"] (spCConds K (zW K)) := ⟨_, fd__checked_conditions, ok_checked_conditions (Z := zW K) F__checked_conditions T c_check_condition, He.glo_ok X G (c.a.fact 69), F__checked_conditions.kp,
    fun us hl => Fun.bound (p := fun fd => bindArgs fd ⟨us, []⟩ = (pure ((["conditions"] : List Str).zip us) : Sem (List (Str × Value)))) F__checked_conditions fun _ _ _ _ _ _ => match us, hl with | [_], _ => rfl, fun u _ => Fun.bound (p := fun fd => bindArgs fd ⟨[], (["conditions"] : List Str).zip [u]⟩ = (pure ((["conditions"] : List Str).zip [u]) : Sem (List (Str × Value)))) F__checked_conditions fun _ _ _ _ _ _ => rfl⟩
  obtain ⟨fd_Condition_init, F0_Condition_init⟩ := c.a.def_ 37
  have F_Condition_init := Fun.ofD (st := s_Condition_init) F0_Condition_init
  have FI : FnG P w K mg base 1 (clAd K "Condition") fd_Condition_init ["self", "forms", "conditions"] (spCInit K) := ok_Condition_init F_Condition_init T TC
  have bI : ∀ us : List Value, us.length = ["self", "forms", "conditions"].length → bindArgs fd_Condition_init ⟨us, []⟩ = pure ((["self", "forms", "conditions"] : List Str).zip us) := fun us hl => Fun.bound (p := fun fd => bindArgs fd ⟨us, []⟩ = (pure ((["self", "forms", "conditions"] : List Str).zip us) : Sem (List (Str × Value)))) F_Condition_init fun _ _ _ _ _ _ => match us, hl with | [_, _, _], _ => rfl
  obtain ⟨fd_Below, F0_Below⟩ := c.defC hf ht 0
  have F_Below : FunC P K "__init__" "Below.__init__" (defArgs s_Below_init) (defBody s_Below_init) (defScope s_Below_init) (clAd K "Below") (codeAd K (clAd K "Below")) (cellAd K (clAd K "Below")) (He.ga K "Below") fd_Below := F0_Below
  obtain ⟨fd_Upto, F0_Upto⟩ := c.defC hf ht 1
  have F_Upto : FunC P K "__init__" "Upto.__init__" (defArgs s_Upto_init) (defBody s_Upto_init) (defScope s_Upto_init) (clAd K "Upto") (codeAd K (clAd K "Upto")) (cellAd K (clAd K "Upto")) (He.ga K "Upto") fd_Upto := F0_Upto
  obtain ⟨fd_Same, F0_Same⟩ := c.defC hf ht 2
  have F_Same : FunC P K "__init__" "Same.__init__" (defArgs s_Same_init) (defBody s_Same_init) (defScope s_Same_init) (clAd K "Same") (codeAd K (clAd K "Same")) (cellAd K (clAd K "Same")) (He.ga K "Same") fd_Same := F0_Same
  obtain ⟨fd_Not, F0_Not⟩ := c.defC hf ht 3
  have F_Not : FunC P K "__init__" "Not.__init__" (defArgs s_Not_init) (defBody s_Not_init) (defScope s_Not_init) (clAd K "Not") (codeAd K (clAd K "Not")) (cellAd K (clAd K "Not")) (He.ga K "Not") fd_Not := F0_Not
  obtain ⟨fd_All, F0_All⟩ := c.defC hf ht 4
  have F_All : FunC P K "__init__" "All.__init__" (defArgs s_All_init) (defBody s_All_init) (defScope s_All_init) (clAd K "All") (codeAd K (clAd K "All")) (cellAd K (clAd K "All")) (He.ga K "All") fd_All := F0_All
  obtain ⟨fd_Any, F0_Any⟩ := c.defC hf ht 5
  have F_Any : FunC P K "__init__" "Any.__init__" (defArgs s_Any_init) (defBody s_Any_init) (defScope s_Any_init) (clAd K "Any") (codeAd K (clAd K "Any")) (cellAd K (clAd K "Any")) (He.ga K "Any") fd_Any := F0_Any
  have I_Below : FnG P w K mg base 3 (clAd K "Below") fd_Below ["self", "first", "second"] (spTwo K (zW K) 0) := ok_Below_init (Z := zW K) FI bI F_Below TC C0 Z0 D_Below.sup c__checked_forms
  have b_Below : ∀ us : List Value, us.length = ["self", "first", "second"].length → bindArgs fd_Below ⟨us, []⟩ = pure ((["self", "first", "second"] : List Str).zip us) := fun us hl => FunC.bound (p := fun fd => bindArgs fd ⟨us, []⟩ = (pure ((["self", "first", "second"] : List Str).zip us) : Sem (List (Str × Value)))) F_Below fun _ _ _ _ _ => match us, hl with | [_, _, _], _ => rfl
  have I_Upto : FnG P w K mg base 3 (clAd K "Upto") fd_Upto ["self", "first", "second"] (spTwo K (zW K) 1) := ok_Upto_init (Z := zW K) FI bI F_Upto TC C0 Z0 D_Upto.sup c__checked_forms
  have b_Upto : ∀ us : List Value, us.length = ["self", "first", "second"].length → bindArgs fd_Upto ⟨us, []⟩ = pure ((["self", "first", "second"] : List Str).zip us) := fun us hl => FunC.bound (p := fun fd => bindArgs fd ⟨us, []⟩ = (pure ((["self", "first", "second"] : List Str).zip us) : Sem (List (Str × Value)))) F_Upto fun _ _ _ _ _ => match us, hl with | [_, _, _], _ => rfl
  have I_Same : FnG P w K mg base 3 (clAd K "Same") fd_Same ["self", "first", "second"] (spTwo K (zW K) 2) := ok_Same_init (Z := zW K) FI bI F_Same TC C0 Z0 D_Same.sup c__checked_forms
  have b_Same : ∀ us : List Value, us.length = ["self", "first", "second"].length → bindArgs fd_Same ⟨us, []⟩ = pure ((["self", "first", "second"] : List Str).zip us) := fun us hl => FunC.bound (p := fun fd => bindArgs fd ⟨us, []⟩ = (pure ((["self", "first", "second"] : List Str).zip us) : Sem (List (Str × Value)))) F_Same fun _ _ _ _ _ => match us, hl with | [_, _, _], _ => rfl
  have I_Not : FnG P w K mg base 3 (clAd K "Not") fd_Not ["self", "condition"] (spNot K (zW K)) := ok_Not_init (Z := zW K) FI bI F_Not TC Z0 D_Not.sup c__checked_conditions
  have b_Not : ∀ us : List Value, us.length = ["self", "condition"].length → bindArgs fd_Not ⟨us, []⟩ = pure ((["self", "condition"] : List Str).zip us) := fun us hl => FunC.bound (p := fun fd => bindArgs fd ⟨us, []⟩ = (pure ((["self", "condition"] : List Str).zip us) : Sem (List (Str × Value)))) F_Not fun _ _ _ _ _ => match us, hl with | [_, _], _ => rfl
  have MK : MkC P w K mg base (zW K) := ⟨⟨_, D_Below.mkk, I_Below.p b_Below, He.glo_ok X G D_Below.glo⟩,
    ⟨_, D_Upto.mkk, I_Upto.p b_Upto, He.glo_ok X G D_Upto.glo⟩,
    ⟨_, D_Same.mkk, I_Same.p b_Same, He.glo_ok X G D_Same.glo⟩,
    ⟨_, D_Not.mkk, I_Not.p b_Not, He.glo_ok X G D_Not.glo⟩,
    ⟨_, D_All.mkk, ok_All_init (Z := zW K) FI bI F_All TC Z0 D_All.sup c__checked_conditions (FunC.bound (p := fun fd => ∀ us rest : List Value, us.length = ["self"].length → bindArgs fd ⟨us ++ rest, []⟩ = (newTuple rest >>= fun t => (pure ((["self"] : List Str).zip us ++ [(("conditions" : Str), t)]) : Sem (List (Str × Value))))) F_All fun kV doc pm an ct => StX.bind_star1 (B := fun l => bindArgs (PySem.W.ksFn "__init__" "All.__init__" (defArgs s_All_init) (defBody s_All_init) (defScope s_All_init) .none kV doc pm an (.ref (codeAd K (clAd K "All"))) ct (cellAd K (clAd K "All"))) ⟨l, []⟩) (fun _ => rfl) (fun _ _ _ => rfl)), He.glo_ok X G D_All.glo⟩,
    ⟨_, D_Any.mkk, ok_Any_init (Z := zW K) FI bI F_Any TC Z0 D_Any.sup c__checked_conditions (FunC.bound (p := fun fd => ∀ us rest : List Value, us.length = ["self"].length → bindArgs fd ⟨us ++ rest, []⟩ = (newTuple rest >>= fun t => (pure ((["self"] : List Str).zip us ++ [(("conditions" : Str), t)]) : Sem (List (Str × Value))))) F_Any fun kV doc pm an ct => StX.bind_star1 (B := fun l => bindArgs (PySem.W.ksFn "__init__" "Any.__init__" (defArgs s_Any_init) (defBody s_Any_init) (defScope s_Any_init) .none kV doc pm an (.ref (codeAd K (clAd K "Any"))) ct (cellAd K (clAd K "Any"))) ⟨l, []⟩) (fun _ => rfl) (fun _ _ _ => rfl)), He.glo_ok X G D_Any.glo⟩⟩
  have MK2 : MkK2 P w K mg base (zW K) := ⟨⟨_, fd_Same, D_Same.mkk, I_Same, He.glo_ok X G D_Same.glo, fun u us hl => FunC.bound (p := fun fd => bindArgs fd ⟨[u], (["first", "second"] : List Str).zip us⟩ = (pure ((["self", "first", "second"] : List Str).zip (u :: us)) : Sem (List (Str × Value)))) F_Same fun _ _ _ _ _ => match us, hl with | [_, _], _ => rfl⟩,
    ⟨_, fd_Not, D_Not.mkk, I_Not, He.glo_ok X G D_Not.glo, fun u us hl => FunC.bound (p := fun fd => bindArgs fd ⟨[u], (["condition"] : List Str).zip us⟩ = (pure ((["self", "condition"] : List Str).zip (u :: us)) : Sem (List (Str × Value)))) F_Not fun _ _ _ _ _ => match us, hl with | [_], _ => rfl⟩⟩
  obtain ⟨fd_Below_is_met, F0_Below_is_met⟩ := c.a.def_ 39
  have F_Below_is_met := Fun.ofD (st := s_Below_is_met) F0_Below_is_met
  obtain ⟨fd_Upto_is_met, F0_Upto_is_met⟩ := c.a.def_ 40
  have F_Upto_is_met := Fun.ofD (st := s_Upto_is_met) F0_Upto_is_met
  obtain ⟨fd_Same_is_met, F0_Same_is_met⟩ := c.a.def_ 41
  have F_Same_is_met := Fun.ofD (st := s_Same_is_met) F0_Same_is_met
  obtain ⟨fd_Not_is_met, F0_Not_is_met⟩ := c.a.def_ 42
  have F_Not_is_met := Fun.ofD (st := s_Not_is_met) F0_Not_is_met
  obtain ⟨fd_All_is_met, F0_All_is_met⟩ := c.a.def_ 43
  have F_All_is_met := Fun.ofD (st := s_All_is_met) F0_All_is_met
  obtain ⟨fd_Any_is_met, F0_Any_is_met⟩ := c.a.def_ 44
  have F_Any_is_met := Fun.ofD (st := s_Any_is_met) F0_Any_is_met
  have DM : MetF K (zW K) := ⟨⟨_, fd_Below_is_met, F_Below_is_met, He.meth_ok (c.a.fact 34), fun us hl => Fun.bound (p := fun fd => bindArgs fd ⟨us, []⟩ = (pure ((["self", "table"] : List Str).zip us) : Sem (List (Str × Value)))) F_Below_is_met fun _ _ _ _ _ _ => match us, hl with | [_, _], _ => rfl,
    fun u v a b e => by
      obtain ⟨rfl, rfl⟩ : a = "self" ∧ b = "table" := by
        injection e with e1 e2
        injection e2 with e3 e4
        exact ⟨e1.symm, e3.symm⟩
      exact Fun.bound (p := fun fd => bindArgs fd ⟨[u], [("table", v)]⟩ = (pure ((["self", "table"] : List Str).zip [u, v]) : Sem (List (Str × Value)))) F_Below_is_met fun _ _ _ _ _ _ => rfl⟩,
    ⟨_, fd_Upto_is_met, F_Upto_is_met, He.meth_ok (c.a.fact 37), fun us hl => Fun.bound (p := fun fd => bindArgs fd ⟨us, []⟩ = (pure ((["self", "table"] : List Str).zip us) : Sem (List (Str × Value)))) F_Upto_is_met fun _ _ _ _ _ _ => match us, hl with | [_, _], _ => rfl,
    fun u v a b e => by
      obtain ⟨rfl, rfl⟩ : a = "self" ∧ b = "table" := by
        injection e with e1 e2
        injection e2 with e3 e4
        exact ⟨e1.symm, e3.symm⟩
      exact Fun.bound (p := fun fd => bindArgs fd ⟨[u], [("table", v)]⟩ = (pure ((["self", "table"] : List Str).zip [u, v]) : Sem (List (Str × Value)))) F_Upto_is_met fun _ _ _ _ _ _ => rfl⟩,
    ⟨_, fd_Same_is_met, F_Same_is_met, He.meth_ok (c.a.fact 40), fun us hl => Fun.bound (p := fun fd => bindArgs fd ⟨us, []⟩ = (pure ((["self", "table"] : List Str).zip us) : Sem (List (Str × Value)))) F_Same_is_met fun _ _ _ _ _ _ => match us, hl with | [_, _], _ => rfl,
    fun u v a b e => by
      obtain ⟨rfl, rfl⟩ : a = "self" ∧ b = "table" := by
        injection e with e1 e2
        injection e2 with e3 e4
        exact ⟨e1.symm, e3.symm⟩
      exact Fun.bound (p := fun fd => bindArgs fd ⟨[u], [("table", v)]⟩ = (pure ((["self", "table"] : List Str).zip [u, v]) : Sem (List (Str × Value)))) F_Same_is_met fun _ _ _ _ _ _ => rfl⟩,
    ⟨_, fd_Not_is_met, F_Not_is_met, He.meth_ok (c.a.fact 43), fun us hl => Fun.bound (p := fun fd => bindArgs fd ⟨us, []⟩ = (pure ((["self", "table"] : List Str).zip us) : Sem (List (Str × Value)))) F_Not_is_met fun _ _ _ _ _ _ => match us, hl with | [_, _], _ => rfl,
    fun u v a b e => by
      obtain ⟨rfl, rfl⟩ : a = "self" ∧ b = "table" := by
        injection e with e1 e2
        injection e2 with e3 e4
        exact ⟨e1.symm, e3.symm⟩
      exact Fun.bound (p := fun fd => bindArgs fd ⟨[u], [("table", v)]⟩ = (pure ((["self", "table"] : List Str).zip [u, v]) : Sem (List (Str × Value)))) F_Not_is_met fun _ _ _ _ _ _ => rfl⟩,
    ⟨_, fd_All_is_met, F_All_is_met, He.meth_ok (c.a.fact 46), fun us hl => Fun.bound (p := fun fd => bindArgs fd ⟨us, []⟩ = (pure ((["self", "table"] : List Str).zip us) : Sem (List (Str × Value)))) F_All_is_met fun _ _ _ _ _ _ => match us, hl with | [_, _], _ => rfl,
    fun u v a b e => by
      obtain ⟨rfl, rfl⟩ : a = "self" ∧ b = "table" := by
        injection e with e1 e2
        injection e2 with e3 e4
        exact ⟨e1.symm, e3.symm⟩
      exact Fun.bound (p := fun fd => bindArgs fd ⟨[u], [("table", v)]⟩ = (pure ((["self", "table"] : List Str).zip [u, v]) : Sem (List (Str × Value)))) F_All_is_met fun _ _ _ _ _ _ => rfl⟩,
    ⟨_, fd_Any_is_met, F_Any_is_met, He.meth_ok (c.a.fact 49), fun us hl => Fun.bound (p := fun fd => bindArgs fd ⟨us, []⟩ = (pure ((["self", "table"] : List Str).zip us) : Sem (List (Str × Value)))) F_Any_is_met fun _ _ _ _ _ _ => match us, hl with | [_, _], _ => rfl,
    fun u v a b e => by
      obtain ⟨rfl, rfl⟩ : a = "self" ∧ b = "table" := by
        injection e with e1 e2
        injection e2 with e3 e4
        exact ⟨e1.symm, e3.symm⟩
      exact Fun.bound (p := fun fd => bindArgs fd ⟨[u], [("table", v)]⟩ = (pure ((["self", "table"] : List Str).zip [u, v]) : Sem (List (Str × Value)))) F_Any_is_met fun _ _ _ _ _ _ => rfl⟩⟩
  have MM : Met P w K mg base (zW K) 4 := met_all T TC Z0 DM c_worth_of 4
  obtain ⟨fd_Condition_call, F0_Condition_call⟩ := c.a.def_ 38
  have F_Condition_call := Fun.ofD (st := s_Condition_call) F0_Condition_call
  have FCall : FnG P w K mg base 7 (He.fAd K ("Condition", some "__call__")) fd_Condition_call ["self", "values"] (spCall K (zW K)) := ok_Condition_call F_Condition_call Z0 MM c_table_of
  have CALL : ∀ C, Kn (zW K) C → CallD P w K mg base 7 C "self" "values" (spCall K (zW K)) := by
    have one : ∀ C, StX.CallO K C (He.fAd K ("Condition", some "__call__")) → CallD P w K mg base 7 C "self" "values" (spCall K (zW K)) := fun C co => ⟨_, fd_Condition_call, co, FCall,
      fun u v => Fun.bound (p := fun fd => bindArgs fd ⟨[u, v], []⟩ = (pure ((["self", "values"] : List Str).zip [u, v]) : Sem (List (Str × Value)))) F_Condition_call fun _ _ _ _ _ _ => rfl,
      fun u v => Fun.bound (p := fun fd => bindArgs fd ⟨[u], [("values", v)]⟩ = (pure ((["self", "values"] : List Str).zip [u, v]) : Sem (List (Str × Value)))) F_Condition_call fun _ _ _ _ _ _ => rfl⟩
    exact kn_all (one _ (callB_ok (c.a.fact 35))) (one _ (callB_ok (c.a.fact 38))) (one _ (callB_ok (c.a.fact 41))) (one _ (callB_ok (c.a.fact 44))) (one _ (callB_ok (c.a.fact 47))) (one _ (callB_ok (c.a.fact 50)))
  obtain ⟨fd__law_cell, F0__law_cell⟩ := c.a.def_ 19
  have F__law_cell := Fun.ofD (st := s__law_cell) F0__law_cell
  have c__law_cell : Cal P w K mg base 1 "_law_cell" ["_law_script", "_law_k"] (spCellI K) := ⟨_, fd__law_cell, .of (ok_cell F__law_cell T.toBlt), He.glo_ok X G (c.a.fact 70), F__law_cell.kp,
    fun us hl => Fun.bound (p := fun fd => bindArgs fd ⟨us, []⟩ = (pure ((["_law_script", "_law_k"] : List Str).zip us) : Sem (List (Str × Value)))) F__law_cell fun _ _ _ _ _ _ => match us, hl with | [_, _], _ => rfl, fun u e => absurd e (by decide)⟩
  obtain ⟨fd__law_heap, F0__law_heap⟩ := c.a.def_ 20
  have F__law_heap := Fun.ofD (st := s__law_heap) F0__law_heap
  have c__law_heap : Cal P w K mg base 1 "_law_heap" ["_law_number"] spHeap := ⟨_, fd__law_heap, .of (ok_heap F__law_heap T.toBlt), He.glo_ok X G (c.a.fact 71), F__law_heap.kp,
    fun us hl => Fun.bound (p := fun fd => bindArgs fd ⟨us, []⟩ = (pure ((["_law_number"] : List Str).zip us) : Sem (List (Str × Value)))) F__law_heap fun _ _ _ _ _ _ => match us, hl with | [_], _ => rfl, fun u _ => Fun.bound (p := fun fd => bindArgs fd ⟨[], (["_law_number"] : List Str).zip [u]⟩ = (pure ((["_law_number"] : List Str).zip [u]) : Sem (List (Str × Value)))) F__law_heap fun _ _ _ _ _ _ => rfl⟩
  obtain ⟨fd__law_roll, F0__law_roll⟩ := c.a.def_ 21
  have F__law_roll := Fun.ofD (st := s__law_roll) F0__law_roll
  have c__law_roll : Cal P w K mg base 1 "_law_roll" ["_law_heap_here", "_law_many"] spRoll := ⟨_, fd__law_roll, .of (ok_roll F__law_roll T.toBlt), He.glo_ok X G (c.a.fact 72), F__law_roll.kp,
    fun us hl => Fun.bound (p := fun fd => bindArgs fd ⟨us, []⟩ = (pure ((["_law_heap_here", "_law_many"] : List Str).zip us) : Sem (List (Str × Value)))) F__law_roll fun _ _ _ _ _ _ => match us, hl with | [_, _], _ => rfl, fun u e => absurd e (by decide)⟩
  obtain ⟨fd__law_pick, F0__law_pick⟩ := c.a.def_ 22
  have F__law_pick := Fun.ofD (st := s__law_pick) F0__law_pick
  have c__law_pick : Cal P w K mg base 2 "_law_pick" ["_law_heap_here", "_law_things"] (spPick K) := ⟨_, fd__law_pick, ok_pick F__law_pick T.toBlt c__law_roll, He.glo_ok X G (c.a.fact 73), F__law_pick.kp,
    fun us hl => Fun.bound (p := fun fd => bindArgs fd ⟨us, []⟩ = (pure ((["_law_heap_here", "_law_things"] : List Str).zip us) : Sem (List (Str × Value)))) F__law_pick fun _ _ _ _ _ _ => match us, hl with | [_, _], _ => rfl, fun u e => absurd e (by decide)⟩
  obtain ⟨fd__law_name, F0__law_name⟩ := c.a.def_ 23
  have F__law_name := Fun.ofD (st := s__law_name) F0__law_name
  have c__law_name : Cal P w K mg base 3 "_law_name" ["_law_heap_here"] spName := ⟨_, fd__law_name, ok_law_name c__law_roll c__law_pick F__law_name T, He.glo_ok X G (c.a.fact 74), F__law_name.kp,
    fun us hl => Fun.bound (p := fun fd => bindArgs fd ⟨us, []⟩ = (pure ((["_law_heap_here"] : List Str).zip us) : Sem (List (Str × Value)))) F__law_name fun _ _ _ _ _ _ => match us, hl with | [_], _ => rfl, fun u _ => Fun.bound (p := fun fd => bindArgs fd ⟨[], (["_law_heap_here"] : List Str).zip [u]⟩ = (pure ((["_law_heap_here"] : List Str).zip [u]) : Sem (List (Str × Value)))) F__law_name fun _ _ _ _ _ _ => rfl⟩
  obtain ⟨fd__law_names, F0__law_names⟩ := c.a.def_ 24
  have F__law_names := Fun.ofD (st := s__law_names) F0__law_names
  have c__law_names : Cal P w K mg base 4 "_law_names" ["_law_heap_here", "_law_many"] spNames := ⟨_, fd__law_names, ok_law_names c__law_roll c__law_pick c__law_name F__law_names T, He.glo_ok X G (c.a.fact 75), F__law_names.kp,
    fun us hl => Fun.bound (p := fun fd => bindArgs fd ⟨us, []⟩ = (pure ((["_law_heap_here", "_law_many"] : List Str).zip us) : Sem (List (Str × Value)))) F__law_names fun _ _ _ _ _ _ => match us, hl with | [_, _], _ => rfl, fun u e => absurd e (by decide)⟩
  obtain ⟨fd__law_terms, F0__law_terms⟩ := c.a.def_ 25
  have F__law_terms := Fun.ofD (st := s__law_terms) F0__law_terms
  have c__law_terms : Cal P w K mg base 3 "_law_terms" ["_law_heap_here", "_law_symbols", "_law_most"] spLTerms := ⟨_, fd__law_terms, ok_law_terms c__law_roll c__law_pick F__law_terms T, He.glo_ok X G (c.a.fact 76), F__law_terms.kp,
    fun us hl => Fun.bound (p := fun fd => bindArgs fd ⟨us, []⟩ = (pure ((["_law_heap_here", "_law_symbols", "_law_most"] : List Str).zip us) : Sem (List (Str × Value)))) F__law_terms fun _ _ _ _ _ _ => match us, hl with | [_, _, _], _ => rfl, fun u e => absurd e (by decide)⟩
  obtain ⟨fd__law_text, F0__law_text⟩ := c.a.def_ 26
  have F__law_text := Fun.ofD (st := s__law_text) F0__law_text
  have c__law_text : Cal P w K mg base 1 "_law_text" ["_law_terms_here"] spLText := ⟨_, fd__law_text, ok_law_text F__law_text T, He.glo_ok X G (c.a.fact 77), F__law_text.kp,
    fun us hl => Fun.bound (p := fun fd => bindArgs fd ⟨us, []⟩ = (pure ((["_law_terms_here"] : List Str).zip us) : Sem (List (Str × Value)))) F__law_text fun _ _ _ _ _ _ => match us, hl with | [_], _ => rfl, fun u _ => Fun.bound (p := fun fd => bindArgs fd ⟨[], (["_law_terms_here"] : List Str).zip [u]⟩ = (pure ((["_law_terms_here"] : List Str).zip [u]) : Sem (List (Str × Value)))) F__law_text fun _ _ _ _ _ _ => rfl⟩
  obtain ⟨fd__law_sum, F0__law_sum⟩ := c.a.def_ 27
  have F__law_sum := Fun.ofD (st := s__law_sum) F0__law_sum
  have c__law_sum : Cal P w K mg base 1 "_law_sum" ["_law_terms_here", "_law_numbers"] spLSum := ⟨_, fd__law_sum, ok_law_sum F__law_sum T, He.glo_ok X G (c.a.fact 78), F__law_sum.kp,
    fun us hl => Fun.bound (p := fun fd => bindArgs fd ⟨us, []⟩ = (pure ((["_law_terms_here", "_law_numbers"] : List Str).zip us) : Sem (List (Str × Value)))) F__law_sum fun _ _ _ _ _ _ => match us, hl with | [_, _], _ => rfl, fun u e => absurd e (by decide)⟩
  obtain ⟨fd__law_tree, F0__law_tree⟩ := c.a.def_ 28
  have F__law_tree := Fun.ofD (st := s__law_tree) F0__law_tree
  have R__law_tree : RecF K mg "_law_tree" s__law_tree ["_law_heap_here", "_law_symbols", "_law_deep"] := ⟨_, fd__law_tree, F__law_tree, He.glo_ok X G (c.a.fact 79), F__law_tree.kp, fun us hl => Fun.bound (p := fun fd => bindArgs fd ⟨us, []⟩ = (pure ((["_law_heap_here", "_law_symbols", "_law_deep"] : List Str).zip us) : Sem (List (Str × Value)))) F__law_tree fun _ _ _ _ _ _ => match us, hl with | [_, _, _], _ => rfl,
    fun u e => absurd e (by decide)⟩
  obtain ⟨fd__law_parts, F0__law_parts⟩ := c.a.def_ 29
  have F__law_parts := Fun.ofD (st := s__law_parts) F0__law_parts
  have R__law_parts : RecF K mg "_law_parts" s__law_parts ["_law_tree_here"] := ⟨_, fd__law_parts, F__law_parts, He.glo_ok X G (c.a.fact 80), F__law_parts.kp, fun us hl => Fun.bound (p := fun fd => bindArgs fd ⟨us, []⟩ = (pure ((["_law_tree_here"] : List Str).zip us) : Sem (List (Str × Value)))) F__law_parts fun _ _ _ _ _ _ => match us, hl with | [_], _ => rfl,
    fun u _ => Fun.bound (p := fun fd => bindArgs fd ⟨[], (["_law_tree_here"] : List Str).zip [u]⟩ = (pure ((["_law_tree_here"] : List Str).zip [u]) : Sem (List (Str × Value)))) F__law_parts fun _ _ _ _ _ _ => rfl⟩
  obtain ⟨fd__law_true, F0__law_true⟩ := c.a.def_ 30
  have F__law_true := Fun.ofD (st := s__law_true) F0__law_true
  have R__law_true : RecF K mg "_law_true" s__law_true ["_law_tree_here", "_law_numbers"] := ⟨_, fd__law_true, F__law_true, He.glo_ok X G (c.a.fact 81), F__law_true.kp, fun us hl => Fun.bound (p := fun fd => bindArgs fd ⟨us, []⟩ = (pure ((["_law_tree_here", "_law_numbers"] : List Str).zip us) : Sem (List (Str × Value)))) F__law_true fun _ _ _ _ _ _ => match us, hl with | [_, _], _ => rfl,
    fun u e => absurd e (by decide)⟩
  obtain ⟨fd__law_made, F0__law_made⟩ := c.a.def_ 31
  have F__law_made := Fun.ofD (st := s__law_made) F0__law_made
  have R__law_made : RecF K mg "_law_made" s__law_made ["_law_tree_here"] := ⟨_, fd__law_made, F__law_made, He.glo_ok X G (c.a.fact 82), F__law_made.kp, fun us hl => Fun.bound (p := fun fd => bindArgs fd ⟨us, []⟩ = (pure ((["_law_tree_here"] : List Str).zip us) : Sem (List (Str × Value)))) F__law_made fun _ _ _ _ _ _ => match us, hl with | [_], _ => rfl,
    fun u _ => Fun.bound (p := fun fd => bindArgs fd ⟨[], (["_law_tree_here"] : List Str).zip [u]⟩ = (pure ((["_law_tree_here"] : List Str).zip [u]) : Sem (List (Str × Value)))) F__law_made fun _ _ _ _ _ _ => rfl⟩
  have c__law_tree : Cal P w K mg base 7 "_law_tree" ["_law_heap_here", "_law_symbols", "_law_deep"] (spTree K 4) := tree_all c__law_roll c__law_terms T R__law_tree 4
  have c__law_parts : Cal P w K mg base 5 "_law_parts" ["_law_tree_here"] (spLParts K 4) := parts_all T R__law_parts 4
  have c__law_true : Cal P w K mg base 5 "_law_true" ["_law_tree_here", "_law_numbers"] (spLTrue K 4) := true_all T c__law_sum R__law_true 4
  have c__law_made : Cal P w K mg base 12 "_law_made" ["_law_tree_here"] (spLMade K (zW K) 4) := made_all (Z := zW K) T C0 MK c__law_text M_read R__law_made 4
  obtain ⟨fd__law_right, F0__law_right⟩ := c.a.def_ 32
  have F__law_right := Fun.ofD (st := s__law_right) F0__law_right
  have c__law_right : Cal P w K mg base 13 "_law_right" ["_law_heap_here"] spRight := ⟨_, fd__law_right, ok_law_right (Z := zW K) c__law_roll c__law_pick c__law_names c__law_tree c__law_parts c__law_true c__law_made CALL F__law_right T, He.glo_ok X G (c.a.fact 83), F__law_right.kp,
    fun us hl => Fun.bound (p := fun fd => bindArgs fd ⟨us, []⟩ = (pure ((["_law_heap_here"] : List Str).zip us) : Sem (List (Str × Value)))) F__law_right fun _ _ _ _ _ _ => match us, hl with | [_], _ => rfl, fun u _ => Fun.bound (p := fun fd => bindArgs fd ⟨[], (["_law_heap_here"] : List Str).zip [u]⟩ = (pure ((["_law_heap_here"] : List Str).zip [u]) : Sem (List (Str × Value)))) F__law_right fun _ _ _ _ _ _ => rfl⟩
  obtain ⟨fd__law_by_hand, F0__law_by_hand⟩ := c.a.def_ 33
  have F__law_by_hand := Fun.ofD (st := s__law_by_hand) F0__law_by_hand
  have c__law_by_hand : Cal P w K mg base 13 "_law_by_hand" [] spHand := ⟨_, fd__law_by_hand, ok_law_by_hand (Z := zW K) F__law_by_hand T MK MK2 CALL M_new_a M_new_b, He.glo_ok X G (c.a.fact 84), F__law_by_hand.kp,
    fun us hl => Fun.bound (p := fun fd => bindArgs fd ⟨us, []⟩ = (pure (([] : List Str).zip us) : Sem (List (Str × Value)))) F__law_by_hand fun _ _ _ _ _ _ => match us, hl with | [], _ => rfl, fun u e => absurd e (by decide)⟩
  exact ok_law F T c__law_cell c__law_heap c__law_right c__law_by_hand
end
def looseW : List Str := [("_wall" : Str), ("InputError" : Str), ("InvalidName" : Str), ("InvalidFactor" : Str), ("InvalidText" : Str), ("InvalidValues" : Str), ("InvalidTruth" : Str), ("NotAForm" : Str), ("NotACondition" : Str), ("LimitError" : Str), ("TooMany" : Str), ("_LETTERS" : Str), ("_SIGNS" : Str), ("_LONGEST_NAME" : Str), ("MIDDLE" : Str), ("is_integer" : Str), ("is_name" : Str), ("is_symbol" : Str), ("is_values" : Str), ("_is_worth" : Str), ("table_of" : Str), ("Form" : Str), ("read_form" : Str), ("check_form" : Str), ("worth_of" : Str), ("form_of" : Str), ("form_in_text" : Str), ("number_in_text" : Str), ("_term_in_text" : Str), ("_terms_of" : Str), ("_symbols_of" : Str), ("_sum_of" : Str), ("_multiple_of" : Str), ("_pieces_of" : Str), ("MAX_PARTS" : Str), ("MAX_DEPTH" : Str), ("Condition" : Str), ("Below" : Str), ("Upto" : Str), ("Same" : Str), ("Not" : Str), ("All" : Str), ("Any" : Str), ("check_condition" : Str), ("_listed" : Str), ("_checked_forms" : Str), ("_checked_conditions" : Str), ("_joined" : Str), ("_law_cell" : Str), ("_law_heap" : Str), ("_law_roll" : Str), ("_law_pick" : Str), ("_law_name" : Str), ("_law_names" : Str), ("_law_terms" : Str), ("_law_text" : Str), ("_law_sum" : Str), ("_law_tree" : Str), ("_law_parts" : Str), ("_law_true" : Str), ("_law_made" : Str), ("_law_right" : Str), ("_law_by_hand" : Str)]
abbrev RW : PySem.W.OpenRow := PySem.W.OpenLaw.row PySem.Challenge.rw_blockmoves_k06_truth_of_conditions
def asW : List Addr := cStatics :: [3, 6, 4, 21, 31, 51, 70, 89, 108, 127, 146, 165, 177, 197, 206, 211, 218, 223, 230, 237, 327, 338, 345, 350, 357, 364, 371, 378, 383, 388, 395, 400, 407, 478, 515, 550, 585, 620, 653, 686, 695, 700, 707, 714, 719, 726, 733, 740, 747, 752, 757, 764, 771, 776, 781, 786, 791, 796, 801, 808, 813, 0, 20, 30, 50, 69, 88, 107, 126, 145, 164, 176, 196, 205, 210, 217, 222, 229, 236, 326, 337, 344, 349, 356, 363, 370, 377, 382, 387, 394, 399, 406, 477, 514, 549, 584, 619, 652, 685, 694, 699, 706, 713, 718, 725, 732, 739, 746, 751, 756, 763, 770, 775, 780, 785, 790, 795, 800, 807, 812, 15, 16, 17, 18, 19, 29, 32, 48, 49, 67, 68, 86, 87, 105, 106, 124, 125, 143, 144, 162, 163, 175, 178, 194, 195, 200, 201, 202, 203, 204, 207, 208, 209, 212, 213, 214, 215, 216, 219, 220, 221, 224, 225, 226, 227, 228, 231, 232, 233, 234, 235, 251, 260, 268, 275, 282, 289, 296, 303, 310, 317, 324, 325, 328, 329, 332, 333, 334, 335, 336, 339, 340, 341, 342, 343, 346, 347, 348, 351, 352, 353, 354, 355, 358, 359, 360, 361, 362, 365, 366, 367, 368, 369, 372, 373, 374, 375, 376, 379, 380, 381, 384, 385, 386, 389, 390, 391, 392, 393, 396, 397, 398, 401, 402, 403, 404, 405, 419, 426, 433, 440, 447, 454, 461, 468, 475, 476, 479, 480, 498, 505, 512, 513, 533, 540, 547, 548, 568, 575, 582, 583, 603, 610, 617, 618, 638, 643, 650, 651, 671, 676, 683, 684, 689, 690, 691, 692, 693, 696, 697, 698, 701, 702, 703, 704, 705, 708, 709, 710, 711, 712, 715, 716, 717, 720, 721, 722, 723, 724, 727, 728, 729, 730, 731, 734, 735, 736, 737, 738, 741, 742, 743, 744, 745, 748, 749, 750, 753, 754, 755, 758, 759, 760, 761, 762, 765, 766, 767, 768, 769, 772, 773, 774, 777, 778, 779, 782, 783, 784, 787, 788, 789, 792, 793, 794, 797, 798, 799, 802, 803, 804, 805, 806, 809, 810, 811, 47, 66, 85, 104, 123, 142, 161, 193, 250, 258, 259, 267, 274, 281, 288, 295, 302, 309, 316, 323, 418, 425, 432, 439, 446, 453, 460, 467, 474, 497, 486, 504, 511, 532, 521, 539, 546, 567, 556, 574, 581, 602, 591, 609, 616, 637, 626, 642, 649, 670, 659, 675, 682, 42, 43, 44, 45, 46, 61, 62, 63, 64, 65, 80, 81, 82, 83, 84, 99, 100, 101, 102, 103, 118, 119, 120, 121, 122, 137, 138, 139, 140, 141, 156, 157, 158, 159, 160, 188, 189, 190, 191, 192, 245, 246, 247, 248, 249, 257, 261, 262, 263, 264, 265, 266, 269, 270, 271, 272, 273, 276, 277, 278, 279, 280, 283, 284, 285, 286, 287, 290, 291, 292, 293, 294, 297, 298, 299, 300, 301, 304, 305, 306, 307, 308, 311, 312, 313, 314, 315, 318, 319, 320, 321, 322, 415, 416, 417, 420, 421, 422, 423, 424, 427, 428, 429, 430, 431, 434, 435, 436, 437, 438, 441, 442, 443, 444, 445, 448, 449, 450, 451, 452, 455, 456, 457, 458, 459, 462, 463, 464, 465, 466, 469, 470, 471, 472, 473, 492, 493, 494, 495, 496, 499, 500, 501, 502, 503, 506, 507, 508, 509, 510, 527, 528, 529, 530, 531, 534, 535, 536, 537, 538, 541, 542, 543, 544, 545, 562, 563, 564, 565, 566, 569, 570, 571, 572, 573, 576, 577, 578, 579, 580, 597, 598, 599, 600, 601, 604, 605, 606, 607, 608, 611, 612, 613, 614, 615, 632, 633, 634, 635, 636, 639, 640, 641, 644, 645, 646, 647, 648, 665, 666, 667, 668, 669, 672, 673, 674, 677, 678, 679, 680, 681, 252, 253, 254, 255, 256]
abbrev hkW : PySem.W.Hook := hookC fileW asW fsW fnW fcW
def obR (s : PySem.W.SharedT) : AlW := obsCG fileW asW fsW fnW fcW (HandSHeadRun.getT s)
theorem obR_eq (s : PySem.W.SharedT) : obR s = hkW.obs s.abs := obsCG_eq (HandSHeadRun.getT_eq s)
end Lw

/-! ## CdS -/
set_option maxHeartbeats 0
namespace Lw
open PySem PySem.Spec PyProof.Rows L2
noncomputable abbrev runO (w : World) (os : OsState) : Option PySem.W.SharedT := HandSHeadRun.endF (HandSHeadRun.stepQ (HandSHeadRun.denQ HandSHeadRun.tabQ) RW.prog w) 16000 RW.prog w os
abbrev qW : Program := PySem.W.view RW.prog [67]
open PySem.W PySem.Calls in
theorem run1 (w : World) (os : OsState) : (runO w os).map (fun s => (HandSHeadRun.looksF RW.prog (boot_heap w.params) s.abs, HandSHeadRun.seenQ qW looseW (importedModules RW.prog.main.body) (fun s => PySem.W.xlAt qW [] s && PySem.W.recOk RW.toRowW.records s) s.abs)) = some (true, PySem.W.openGood qW looseW) := by kernel_rfl
theorem run2 (w : World) (os : OsState) : (runO w os).map (fun s => obR s) = some (hkW.val w) := by kernel_rfl
theorem runW (w : World) : HandSHeadRun.RunEq RW qW hkW obR 16000 looseW w := fun os => map_three (run1 w os) (run2 w os)
end Lw
open PySem PySem.W PySem.Calls PyProof.Rows
theorem PySem.Challenge.cw_blockmoves_k06_truth_of_conditions_holds : PySem.Challenge.rw_blockmoves_k06_truth_of_conditions.Holds := by
  w_on; o_law
  refine HandSHeadRun.head_any (r := OpenLaw.row PySem.Challenge.rw_blockmoves_k06_truth_of_conditions) (q := view (OpenLaw.row PySem.Challenge.rw_blockmoves_k06_truth_of_conditions).prog [67]) (H := Lw.hkW) (ob := Lw.obR) (M := 16000) (loose := Lw.looseW) (d := HandSHeadRun.topDef (OpenLaw.row PySem.Challenge.rw_blockmoves_k06_truth_of_conditions).prog 67) (kwd := []) Lw.obR_eq
    (by kernel_rfl) (fun s => by kernel_rfl) Lw.runW (by kernel_rfl) (by kernel_rfl) (by kernel_rfl) (by rfl) (by first | assumption | decide +kernel) (by decide +kernel) ⟨rfl, rfl, rfl, rfl, rfl, by decide +kernel⟩ ?hw ?hc
  case hw => w_witness2
  case hc =>
    refine Lw.walk_look (l := PySem.Challenge.rw_blockmoves_k06_truth_of_conditions) (n := 63) (k := 14) (x := "_law_script") (sp := Lw.spLaw) rfl (by decide) (by kernel_rfl) ⟨⟨rfl, by decide, by decide⟩, rfl⟩ ?F (fun K H a ns hl _ hS => ⟨a, ns, rfl, hS, hl, fun _ => rfl⟩)
    intro w mg fa h Y G hmg0
    obtain ⟨K, KX, c⟩ := Y
    have hmg : mg ("law" : PySem.Str) = some (.ref fa) := by
      have e : (HandSHeadRun.topDef (OpenLaw.row PySem.Challenge.rw_blockmoves_k06_truth_of_conditions).prog 67).name = ("law" : PySem.Str) := by kernel_rfl
      rw [← e]
      exact hmg0
    obtain ⟨fd, F0⟩ := c.a.def_ 34
    have F := Lw.Fun.ofD (st := Lw.s_law) F0
    have e := hmg.symm.trans (He.glo_ok KX G (c.a.fact 85))
    cases e
    exact ⟨K, fd, KX, fun u => Lw.Fun.bound (p := fun fd => bindArgs fd ⟨[u], []⟩ = (pure [("_law_script", u)] : Sem (List (Str × Value)))) F fun _ _ _ _ _ _ => rfl, fun base hm hG => Lw.end_mk hm hG KX G c (by kernel_rfl) (by kernel_rfl) hmg F⟩
